/-
  No cell of these rows narrows 'for every input' (looked for: loops, veiled, ifaces, maps, wideKeys, modest, calm, conditions, laid).
  DERIVED. THE GIVEN ROWS OF THIS SEAT. 8 by the template 'for every input the law returns true; each argument reads behind the call as it read before'; 0 by the template 'total and deterministic' (their statements: YtnlnnpcpheaomaaTotals.lean).
  GIVEN WITH THE SEED: the statements are not yours to turn. If you find one false, say at which input.
  Laid BY PROGRAM, IN A SANDBOX (cutbox-rows.mjs): the forced cells as the released guide's own fill.sh prints them over the translation 83561512ab8fe4b2… (all of the seat's roots in one cut). By AI agents, Wed Nov 11 2026. No macro, syntax, notation, axiom, sorry.
-/
import Derived.Test.YtnlnnpcpheaomaaChecked
import GoSem.Claim
import GoSem.ClaimJoined
import GoSem.ClaimMapViews
import Derived.JoinedTies
import Derived.KernelRfl
namespace Go.Proofs.Ytnlnnpcpheaomaa
/- THE CELL 'sum', in the pinned program and in every row, IS THE sha256 OF THE DUMP (.gsa) THAT YtnlnnpcpheaomaaProg.lean LOADS. Nothing in Lean hashes anything: it is a label: what it is worth is what the hold of that sum in a sandbox is worth. -/
noncomputable def Try.pinned : Pinned := { name := "ytnlnnpcpheaomaa", sum := "83561512ab8fe4b240cabee7814e2454074edbcc043c28142aa1efebfa41aee8", checked := Try.checked }
namespace Rows
def none {H : Type} : Left H := { results := [], args := [] }

/-- 'arenanetlaw05.CollideMatches': WHATEVER THE INPUT: true; the input reads as it did. -/
def collideMatchesSpec : ChangeSpec := { name := "collideMatches", fn := fun _ => fun
  | [d1, d2, d3] => { results := [.lit (.bool true)], args := [d1, d2, d3] }
  | _ => none }
def collideMatchesRow : OpenClaim := { program := "ytnlnnpcpheaomaa", sum := "83561512ab8fe4b240cabee7814e2454074edbcc043c28142aa1efebfa41aee8", func := "arenanet/arenanetlaw05.CollideMatches", spec := "collideMatches", unfollowed := true, recurses := true, apart := false }
def CollideMatchesSaid : Prop := collideMatchesRow.holds Try.pinned (OpenSpec.ofChange collideMatchesSpec)

/-- ITS FALSE NEIGHBOUR: 'it returns false'. Refute it at one input. -/
def collideMatchesWrong : ChangeSpec := { name := "collideMatches", fn := fun _ => fun
  | [d1, d2, d3] => { results := [.lit (.bool false)], args := [d1, d2, d3] }
  | _ => none }
def CollideMatchesWrongFalsely : Prop := collideMatchesRow.holds Try.pinned (OpenSpec.ofChange collideMatchesWrong)

/-- 'arenanetlaw05.CollideLeast': WHATEVER THE INPUT: true; the input reads as it did. -/
def collideLeastSpec : ChangeSpec := { name := "collideLeast", fn := fun _ => fun
  | [d1, d2, d3] => { results := [.lit (.bool true)], args := [d1, d2, d3] }
  | _ => none }
def collideLeastRow : OpenClaim := { program := "ytnlnnpcpheaomaa", sum := "83561512ab8fe4b240cabee7814e2454074edbcc043c28142aa1efebfa41aee8", func := "arenanet/arenanetlaw05.CollideLeast", spec := "collideLeast", unfollowed := true, recurses := true, apart := false }
def CollideLeastSaid : Prop := collideLeastRow.holds Try.pinned (OpenSpec.ofChange collideLeastSpec)

/-- ITS FALSE NEIGHBOUR: 'it returns false'. Refute it at one input. -/
def collideLeastWrong : ChangeSpec := { name := "collideLeast", fn := fun _ => fun
  | [d1, d2, d3] => { results := [.lit (.bool false)], args := [d1, d2, d3] }
  | _ => none }
def CollideLeastWrongFalsely : Prop := collideLeastRow.holds Try.pinned (OpenSpec.ofChange collideLeastWrong)

/-- 'arenanetlaw05.CollideShift': WHATEVER THE INPUT: true; the input reads as it did. -/
def collideShiftSpec : ChangeSpec := { name := "collideShift", fn := fun _ => fun
  | [d1, d2, d3, d4, d5] => { results := [.lit (.bool true)], args := [d1, d2, d3, d4, d5] }
  | _ => none }
def collideShiftRow : OpenClaim := { program := "ytnlnnpcpheaomaa", sum := "83561512ab8fe4b240cabee7814e2454074edbcc043c28142aa1efebfa41aee8", func := "arenanet/arenanetlaw05.CollideShift", spec := "collideShift", unfollowed := true, recurses := true, apart := false }
def CollideShiftSaid : Prop := collideShiftRow.holds Try.pinned (OpenSpec.ofChange collideShiftSpec)

/-- ITS FALSE NEIGHBOUR: 'it returns false'. Refute it at one input. -/
def collideShiftWrong : ChangeSpec := { name := "collideShift", fn := fun _ => fun
  | [d1, d2, d3, d4, d5] => { results := [.lit (.bool false)], args := [d1, d2, d3, d4, d5] }
  | _ => none }
def CollideShiftWrongFalsely : Prop := collideShiftRow.holds Try.pinned (OpenSpec.ofChange collideShiftWrong)

/-- 'arenanetlaw05.CollideSwap': WHATEVER THE INPUT: true; the input reads as it did. -/
def collideSwapSpec : ChangeSpec := { name := "collideSwap", fn := fun _ => fun
  | [d1, d2, d3, d4] => { results := [.lit (.bool true)], args := [d1, d2, d3, d4] }
  | _ => none }
def collideSwapRow : OpenClaim := { program := "ytnlnnpcpheaomaa", sum := "83561512ab8fe4b240cabee7814e2454074edbcc043c28142aa1efebfa41aee8", func := "arenanet/arenanetlaw05.CollideSwap", spec := "collideSwap", unfollowed := true, recurses := true, apart := false }
def CollideSwapSaid : Prop := collideSwapRow.holds Try.pinned (OpenSpec.ofChange collideSwapSpec)

/-- ITS FALSE NEIGHBOUR: 'it returns false'. Refute it at one input. -/
def collideSwapWrong : ChangeSpec := { name := "collideSwap", fn := fun _ => fun
  | [d1, d2, d3, d4] => { results := [.lit (.bool false)], args := [d1, d2, d3, d4] }
  | _ => none }
def CollideSwapWrongFalsely : Prop := collideSwapRow.holds Try.pinned (OpenSpec.ofChange collideSwapWrong)

/-- 'arenanetlaw05.CollideGrow': WHATEVER THE INPUT: true; the input reads as it did. -/
def collideGrowSpec : ChangeSpec := { name := "collideGrow", fn := fun _ => fun
  | [d1, d2, d3, d4] => { results := [.lit (.bool true)], args := [d1, d2, d3, d4] }
  | _ => none }
def collideGrowRow : OpenClaim := { program := "ytnlnnpcpheaomaa", sum := "83561512ab8fe4b240cabee7814e2454074edbcc043c28142aa1efebfa41aee8", func := "arenanet/arenanetlaw05.CollideGrow", spec := "collideGrow", unfollowed := true, recurses := true, apart := false }
def CollideGrowSaid : Prop := collideGrowRow.holds Try.pinned (OpenSpec.ofChange collideGrowSpec)

/-- ITS FALSE NEIGHBOUR: 'it returns false'. Refute it at one input. -/
def collideGrowWrong : ChangeSpec := { name := "collideGrow", fn := fun _ => fun
  | [d1, d2, d3, d4] => { results := [.lit (.bool false)], args := [d1, d2, d3, d4] }
  | _ => none }
def CollideGrowWrongFalsely : Prop := collideGrowRow.holds Try.pinned (OpenSpec.ofChange collideGrowWrong)

/-- 'arenanetlaw05.CollideMeets': WHATEVER THE INPUT: true; the input reads as it did. -/
def collideMeetsSpec : ChangeSpec := { name := "collideMeets", fn := fun _ => fun
  | [d1, d2, d3, d4, d5] => { results := [.lit (.bool true)], args := [d1, d2, d3, d4, d5] }
  | _ => none }
def collideMeetsRow : OpenClaim := { program := "ytnlnnpcpheaomaa", sum := "83561512ab8fe4b240cabee7814e2454074edbcc043c28142aa1efebfa41aee8", func := "arenanet/arenanetlaw05.CollideMeets", spec := "collideMeets", unfollowed := true, recurses := true, apart := false }
def CollideMeetsSaid : Prop := collideMeetsRow.holds Try.pinned (OpenSpec.ofChange collideMeetsSpec)

/-- ITS FALSE NEIGHBOUR: 'it returns false'. Refute it at one input. -/
def collideMeetsWrong : ChangeSpec := { name := "collideMeets", fn := fun _ => fun
  | [d1, d2, d3, d4, d5] => { results := [.lit (.bool false)], args := [d1, d2, d3, d4, d5] }
  | _ => none }
def CollideMeetsWrongFalsely : Prop := collideMeetsRow.holds Try.pinned (OpenSpec.ofChange collideMeetsWrong)

/-- 'arenanetlaw05.CollideCircles': WHATEVER THE INPUT: true; the input reads as it did. -/
def collideCirclesSpec : ChangeSpec := { name := "collideCircles", fn := fun _ => fun
  | [d1, d2, d3] => { results := [.lit (.bool true)], args := [d1, d2, d3] }
  | _ => none }
def collideCirclesRow : OpenClaim := { program := "ytnlnnpcpheaomaa", sum := "83561512ab8fe4b240cabee7814e2454074edbcc043c28142aa1efebfa41aee8", func := "arenanet/arenanetlaw05.CollideCircles", spec := "collideCircles", unfollowed := true, recurses := true, apart := false }
def CollideCirclesSaid : Prop := collideCirclesRow.holds Try.pinned (OpenSpec.ofChange collideCirclesSpec)

/-- ITS FALSE NEIGHBOUR: 'it returns false'. Refute it at one input. -/
def collideCirclesWrong : ChangeSpec := { name := "collideCircles", fn := fun _ => fun
  | [d1, d2, d3] => { results := [.lit (.bool false)], args := [d1, d2, d3] }
  | _ => none }
def CollideCirclesWrongFalsely : Prop := collideCirclesRow.holds Try.pinned (OpenSpec.ofChange collideCirclesWrong)

/-- 'arenanetlaw05.CollideOwn': WHATEVER THE INPUT: true; the input reads as it did. -/
def collideOwnSpec : ChangeSpec := { name := "collideOwn", fn := fun _ => fun
  | [d1, d2, d3] => { results := [.lit (.bool true)], args := [d1, d2, d3] }
  | _ => none }
def collideOwnRow : OpenClaim := { program := "ytnlnnpcpheaomaa", sum := "83561512ab8fe4b240cabee7814e2454074edbcc043c28142aa1efebfa41aee8", func := "arenanet/arenanetlaw05.CollideOwn", spec := "collideOwn", unfollowed := true, recurses := true, apart := false }
def CollideOwnSaid : Prop := collideOwnRow.holds Try.pinned (OpenSpec.ofChange collideOwnSpec)

/-- ITS FALSE NEIGHBOUR: 'it returns false'. Refute it at one input. -/
def collideOwnWrong : ChangeSpec := { name := "collideOwn", fn := fun _ => fun
  | [d1, d2, d3] => { results := [.lit (.bool false)], args := [d1, d2, d3] }
  | _ => none }
def CollideOwnWrongFalsely : Prop := collideOwnRow.holds Try.pinned (OpenSpec.ofChange collideOwnWrong)

/- THE SECOND FORM. 'bulk': how many values and letters a reading holds, each counted each time it is reached (what is shared counts as often as it is met; a slice's spare places count too). A statement '..UptoSaid' is the law's where the arguments, and the package variables that the reading takes, are together of bulk at most 1048576: NARROWER than '..Said'. Prove '..Said' where nothing that the law and all that it calls make is longer than what came in: it says more and counts as full. Else prove '..UptoSaid'. A law counts once. -/
mutual
def uptoBulk {H : Type} : DataW H → Nat
  | .lit (.string bytes) => bytes.length + 1
  | .lit _ => 1
  | .nil => 1
  | .ptr d => uptoBulk d + 1
  | .slice elems spare => uptoBulkAll elems + uptoBulkAll spare + 1
  | .agg parts => uptoBulkAll parts + 1
  | .iface _ d => uptoBulk d + 1
  | .map entries => uptoBulkEntries entries + 1
  | .held _ => 1
def uptoBulkAll {H : Type} : List (DataW H) → Nat
  | [] => 0
  | d :: r => uptoBulk d + uptoBulkAll r
def uptoBulkEntries {H : Type} : List (Lit × DataW H) → Nat
  | [] => 0
  | x :: r => uptoBulkEntry x + uptoBulkEntries r
def uptoBulkEntry {H : Type} : Lit × DataW H → Nat
  | (.string bytes, d) => bytes.length + uptoBulk d + 1
  | (_, d) => uptoBulk d + 1
 end
def uptoSmall : (H : Type) → List (DataW H) → Bool := fun _ ds => decide (uptoBulkAll ds ≤ 1048576)
def OpenSpec.upto (s : _root_.Go.ChangeSpec) : _root_.Go.OpenSpec := { _root_.Go.OpenSpec.ofChange s with cond := some uptoSmall }

/-- 'arenanetlaw05.CollideMatches', WHERE WHAT IT READS IS OF BULK AT MOST 1048576: true; the input reads as it did. -/
def collideMatchesUptoRow : OpenClaim := { program := "ytnlnnpcpheaomaa", sum := "83561512ab8fe4b240cabee7814e2454074edbcc043c28142aa1efebfa41aee8", func := "arenanet/arenanetlaw05.CollideMatches", spec := "collideMatches", unfollowed := true, recurses := true, apart := false, narrowed := true }
def CollideMatchesUptoSaid : Prop := collideMatchesUptoRow.holds Try.pinned (OpenSpec.upto collideMatchesSpec)

/-- 'arenanetlaw05.CollideLeast', WHERE WHAT IT READS IS OF BULK AT MOST 1048576: true; the input reads as it did. -/
def collideLeastUptoRow : OpenClaim := { program := "ytnlnnpcpheaomaa", sum := "83561512ab8fe4b240cabee7814e2454074edbcc043c28142aa1efebfa41aee8", func := "arenanet/arenanetlaw05.CollideLeast", spec := "collideLeast", unfollowed := true, recurses := true, apart := false, narrowed := true }
def CollideLeastUptoSaid : Prop := collideLeastUptoRow.holds Try.pinned (OpenSpec.upto collideLeastSpec)

/-- 'arenanetlaw05.CollideShift', WHERE WHAT IT READS IS OF BULK AT MOST 1048576: true; the input reads as it did. -/
def collideShiftUptoRow : OpenClaim := { program := "ytnlnnpcpheaomaa", sum := "83561512ab8fe4b240cabee7814e2454074edbcc043c28142aa1efebfa41aee8", func := "arenanet/arenanetlaw05.CollideShift", spec := "collideShift", unfollowed := true, recurses := true, apart := false, narrowed := true }
def CollideShiftUptoSaid : Prop := collideShiftUptoRow.holds Try.pinned (OpenSpec.upto collideShiftSpec)

/-- 'arenanetlaw05.CollideSwap', WHERE WHAT IT READS IS OF BULK AT MOST 1048576: true; the input reads as it did. -/
def collideSwapUptoRow : OpenClaim := { program := "ytnlnnpcpheaomaa", sum := "83561512ab8fe4b240cabee7814e2454074edbcc043c28142aa1efebfa41aee8", func := "arenanet/arenanetlaw05.CollideSwap", spec := "collideSwap", unfollowed := true, recurses := true, apart := false, narrowed := true }
def CollideSwapUptoSaid : Prop := collideSwapUptoRow.holds Try.pinned (OpenSpec.upto collideSwapSpec)

/-- 'arenanetlaw05.CollideGrow', WHERE WHAT IT READS IS OF BULK AT MOST 1048576: true; the input reads as it did. -/
def collideGrowUptoRow : OpenClaim := { program := "ytnlnnpcpheaomaa", sum := "83561512ab8fe4b240cabee7814e2454074edbcc043c28142aa1efebfa41aee8", func := "arenanet/arenanetlaw05.CollideGrow", spec := "collideGrow", unfollowed := true, recurses := true, apart := false, narrowed := true }
def CollideGrowUptoSaid : Prop := collideGrowUptoRow.holds Try.pinned (OpenSpec.upto collideGrowSpec)

/-- 'arenanetlaw05.CollideMeets', WHERE WHAT IT READS IS OF BULK AT MOST 1048576: true; the input reads as it did. -/
def collideMeetsUptoRow : OpenClaim := { program := "ytnlnnpcpheaomaa", sum := "83561512ab8fe4b240cabee7814e2454074edbcc043c28142aa1efebfa41aee8", func := "arenanet/arenanetlaw05.CollideMeets", spec := "collideMeets", unfollowed := true, recurses := true, apart := false, narrowed := true }
def CollideMeetsUptoSaid : Prop := collideMeetsUptoRow.holds Try.pinned (OpenSpec.upto collideMeetsSpec)

/-- 'arenanetlaw05.CollideCircles', WHERE WHAT IT READS IS OF BULK AT MOST 1048576: true; the input reads as it did. -/
def collideCirclesUptoRow : OpenClaim := { program := "ytnlnnpcpheaomaa", sum := "83561512ab8fe4b240cabee7814e2454074edbcc043c28142aa1efebfa41aee8", func := "arenanet/arenanetlaw05.CollideCircles", spec := "collideCircles", unfollowed := true, recurses := true, apart := false, narrowed := true }
def CollideCirclesUptoSaid : Prop := collideCirclesUptoRow.holds Try.pinned (OpenSpec.upto collideCirclesSpec)

/-- 'arenanetlaw05.CollideOwn', WHERE WHAT IT READS IS OF BULK AT MOST 1048576: true; the input reads as it did. -/
def collideOwnUptoRow : OpenClaim := { program := "ytnlnnpcpheaomaa", sum := "83561512ab8fe4b240cabee7814e2454074edbcc043c28142aa1efebfa41aee8", func := "arenanet/arenanetlaw05.CollideOwn", spec := "collideOwn", unfollowed := true, recurses := true, apart := false, narrowed := true }
def CollideOwnUptoSaid : Prop := collideOwnUptoRow.holds Try.pinned (OpenSpec.upto collideOwnSpec)

end Rows
end Go.Proofs.Ytnlnnpcpheaomaa
