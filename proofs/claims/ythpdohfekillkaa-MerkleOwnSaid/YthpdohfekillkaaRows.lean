/-
  No cell of these rows narrows 'for every input' (looked for: loops, veiled, ifaces, maps, wideKeys, modest, calm, conditions, laid).
  DERIVED. THE GIVEN ROWS OF THIS SEAT. 8 by the template 'for every input the law returns true; each argument reads behind the call as it read before'; 0 by the template 'total and deterministic' (their statements: YthpdohfekillkaaTotals.lean).
  GIVEN WITH THE SEED: the statements are not yours to turn. If you find one false, say at which input.
  Laid BY PROGRAM, IN A SANDBOX (cutbox-rows.mjs): the forced cells as the released guide's own fill.sh prints them over the translation c71d701eb030acc4… (all of the seat's roots in one cut). By AI agents, Wed Nov 11 2026. No macro, syntax, notation, axiom, sorry.
-/
import Derived.Test.YthpdohfekillkaaChecked
import GoSem.Claim
import GoSem.ClaimJoined
import GoSem.ClaimMapViews
import Derived.JoinedTies
import Derived.KernelRfl
namespace Go.Proofs.Ythpdohfekillkaa
/- THE CELL 'sum', in the pinned program and in every row, IS THE sha256 OF THE DUMP (.gsa) THAT YthpdohfekillkaaProg.lean LOADS. Nothing in Lean hashes anything: it is a label: what it is worth is what the hold of that sum in a sandbox is worth. -/
noncomputable def Try.pinned : Pinned := { name := "ythpdohfekillkaa", sum := "c71d701eb030acc4e12ee94070c04797447acfce60ed99b8c6fbd15e8e49b6f0", checked := Try.checked }
namespace Rows
def none {H : Type} : Left H := { results := [], args := [] }

/-- 'arenanetlaw11.MerkleRoots': WHATEVER THE INPUT: true; the input reads as it did. -/
def merkleRootsSpec : ChangeSpec := { name := "merkleRoots", fn := fun _ => fun
  | [d1, d2] => { results := [.lit (.bool true)], args := [d1, d2] }
  | _ => none }
def merkleRootsRow : OpenClaim := { program := "ythpdohfekillkaa", sum := "c71d701eb030acc4e12ee94070c04797447acfce60ed99b8c6fbd15e8e49b6f0", func := "arenanet/arenanetlaw11.MerkleRoots", spec := "merkleRoots", unfollowed := true, recurses := true, plainKeys := false, apart := false }
def MerkleRootsSaid : Prop := merkleRootsRow.holds Try.pinned (OpenSpec.ofChange merkleRootsSpec)

/-- ITS FALSE NEIGHBOUR: 'it returns false'. Refute it at one input. -/
def merkleRootsWrong : ChangeSpec := { name := "merkleRoots", fn := fun _ => fun
  | [d1, d2] => { results := [.lit (.bool false)], args := [d1, d2] }
  | _ => none }
def MerkleRootsWrongFalsely : Prop := merkleRootsRow.holds Try.pinned (OpenSpec.ofChange merkleRootsWrong)

/-- 'arenanetlaw11.MerkleSets': WHATEVER THE INPUT: true; the input reads as it did. -/
def merkleSetsSpec : ChangeSpec := { name := "merkleSets", fn := fun _ => fun
  | [d1, d2, d3] => { results := [.lit (.bool true)], args := [d1, d2, d3] }
  | _ => none }
def merkleSetsRow : OpenClaim := { program := "ythpdohfekillkaa", sum := "c71d701eb030acc4e12ee94070c04797447acfce60ed99b8c6fbd15e8e49b6f0", func := "arenanet/arenanetlaw11.MerkleSets", spec := "merkleSets", unfollowed := true, recurses := true, plainKeys := false, apart := false }
def MerkleSetsSaid : Prop := merkleSetsRow.holds Try.pinned (OpenSpec.ofChange merkleSetsSpec)

/-- ITS FALSE NEIGHBOUR: 'it returns false'. Refute it at one input. -/
def merkleSetsWrong : ChangeSpec := { name := "merkleSets", fn := fun _ => fun
  | [d1, d2, d3] => { results := [.lit (.bool false)], args := [d1, d2, d3] }
  | _ => none }
def MerkleSetsWrongFalsely : Prop := merkleSetsRow.holds Try.pinned (OpenSpec.ofChange merkleSetsWrong)

/-- 'arenanetlaw11.MerkleVerifies': WHATEVER THE INPUT: true; the input reads as it did. -/
def merkleVerifiesSpec : ChangeSpec := { name := "merkleVerifies", fn := fun _ => fun
  | [d1, d2, d3, d4, d5, d6, d7] => { results := [.lit (.bool true)], args := [d1, d2, d3, d4, d5, d6, d7] }
  | _ => none }
def merkleVerifiesRow : OpenClaim := { program := "ythpdohfekillkaa", sum := "c71d701eb030acc4e12ee94070c04797447acfce60ed99b8c6fbd15e8e49b6f0", func := "arenanet/arenanetlaw11.MerkleVerifies", spec := "merkleVerifies", unfollowed := true, recurses := true, plainKeys := false, apart := false }
def MerkleVerifiesSaid : Prop := merkleVerifiesRow.holds Try.pinned (OpenSpec.ofChange merkleVerifiesSpec)

/-- ITS FALSE NEIGHBOUR: 'it returns false'. Refute it at one input. -/
def merkleVerifiesWrong : ChangeSpec := { name := "merkleVerifies", fn := fun _ => fun
  | [d1, d2, d3, d4, d5, d6, d7] => { results := [.lit (.bool false)], args := [d1, d2, d3, d4, d5, d6, d7] }
  | _ => none }
def MerkleVerifiesWrongFalsely : Prop := merkleVerifiesRow.holds Try.pinned (OpenSpec.ofChange merkleVerifiesWrong)

/-- 'arenanetlaw11.MerkleComplete': WHATEVER THE INPUT: true; the input reads as it did. -/
def merkleCompleteSpec : ChangeSpec := { name := "merkleComplete", fn := fun _ => fun
  | [d1, d2, d3] => { results := [.lit (.bool true)], args := [d1, d2, d3] }
  | _ => none }
def merkleCompleteRow : OpenClaim := { program := "ythpdohfekillkaa", sum := "c71d701eb030acc4e12ee94070c04797447acfce60ed99b8c6fbd15e8e49b6f0", func := "arenanet/arenanetlaw11.MerkleComplete", spec := "merkleComplete", unfollowed := true, recurses := true, plainKeys := false, apart := false }
def MerkleCompleteSaid : Prop := merkleCompleteRow.holds Try.pinned (OpenSpec.ofChange merkleCompleteSpec)

/-- ITS FALSE NEIGHBOUR: 'it returns false'. Refute it at one input. -/
def merkleCompleteWrong : ChangeSpec := { name := "merkleComplete", fn := fun _ => fun
  | [d1, d2, d3] => { results := [.lit (.bool false)], args := [d1, d2, d3] }
  | _ => none }
def MerkleCompleteWrongFalsely : Prop := merkleCompleteRow.holds Try.pinned (OpenSpec.ofChange merkleCompleteWrong)

/-- 'arenanetlaw11.MerkleSound': WHATEVER THE INPUT: true; the input reads as it did. -/
def merkleSoundSpec : ChangeSpec := { name := "merkleSound", fn := fun _ => fun
  | [d1, d2, d3, d4] => { results := [.lit (.bool true)], args := [d1, d2, d3, d4] }
  | _ => none }
def merkleSoundRow : OpenClaim := { program := "ythpdohfekillkaa", sum := "c71d701eb030acc4e12ee94070c04797447acfce60ed99b8c6fbd15e8e49b6f0", func := "arenanet/arenanetlaw11.MerkleSound", spec := "merkleSound", unfollowed := true, recurses := true, plainKeys := false, apart := false }
def MerkleSoundSaid : Prop := merkleSoundRow.holds Try.pinned (OpenSpec.ofChange merkleSoundSpec)

/-- ITS FALSE NEIGHBOUR: 'it returns false'. Refute it at one input. -/
def merkleSoundWrong : ChangeSpec := { name := "merkleSound", fn := fun _ => fun
  | [d1, d2, d3, d4] => { results := [.lit (.bool false)], args := [d1, d2, d3, d4] }
  | _ => none }
def MerkleSoundWrongFalsely : Prop := merkleSoundRow.holds Try.pinned (OpenSpec.ofChange merkleSoundWrong)

/-- 'arenanetlaw11.MerklePartial': WHATEVER THE INPUT: true; the input reads as it did. -/
def merklePartialSpec : ChangeSpec := { name := "merklePartial", fn := fun _ => fun
  | [d1, d2, d3, d4] => { results := [.lit (.bool true)], args := [d1, d2, d3, d4] }
  | _ => none }
def merklePartialRow : OpenClaim := { program := "ythpdohfekillkaa", sum := "c71d701eb030acc4e12ee94070c04797447acfce60ed99b8c6fbd15e8e49b6f0", func := "arenanet/arenanetlaw11.MerklePartial", spec := "merklePartial", unfollowed := true, recurses := true, plainKeys := false, apart := false }
def MerklePartialSaid : Prop := merklePartialRow.holds Try.pinned (OpenSpec.ofChange merklePartialSpec)

/-- ITS FALSE NEIGHBOUR: 'it returns false'. Refute it at one input. -/
def merklePartialWrong : ChangeSpec := { name := "merklePartial", fn := fun _ => fun
  | [d1, d2, d3, d4] => { results := [.lit (.bool false)], args := [d1, d2, d3, d4] }
  | _ => none }
def MerklePartialWrongFalsely : Prop := merklePartialRow.holds Try.pinned (OpenSpec.ofChange merklePartialWrong)

/-- 'arenanetlaw11.MerkleRejects': WHATEVER THE INPUT: true; the input reads as it did. -/
def merkleRejectsSpec : ChangeSpec := { name := "merkleRejects", fn := fun _ => fun
  | [d1, d2, d3, d4, d5, d6] => { results := [.lit (.bool true)], args := [d1, d2, d3, d4, d5, d6] }
  | _ => none }
def merkleRejectsRow : OpenClaim := { program := "ythpdohfekillkaa", sum := "c71d701eb030acc4e12ee94070c04797447acfce60ed99b8c6fbd15e8e49b6f0", func := "arenanet/arenanetlaw11.MerkleRejects", spec := "merkleRejects", unfollowed := true, recurses := true, plainKeys := false, apart := false }
def MerkleRejectsSaid : Prop := merkleRejectsRow.holds Try.pinned (OpenSpec.ofChange merkleRejectsSpec)

/-- ITS FALSE NEIGHBOUR: 'it returns false'. Refute it at one input. -/
def merkleRejectsWrong : ChangeSpec := { name := "merkleRejects", fn := fun _ => fun
  | [d1, d2, d3, d4, d5, d6] => { results := [.lit (.bool false)], args := [d1, d2, d3, d4, d5, d6] }
  | _ => none }
def MerkleRejectsWrongFalsely : Prop := merkleRejectsRow.holds Try.pinned (OpenSpec.ofChange merkleRejectsWrong)

/-- 'arenanetlaw11.MerkleOwn': WHATEVER THE INPUT: true; the input reads as it did. -/
def merkleOwnSpec : ChangeSpec := { name := "merkleOwn", fn := fun _ => fun
  | [d1, d2] => { results := [.lit (.bool true)], args := [d1, d2] }
  | _ => none }
def merkleOwnRow : OpenClaim := { program := "ythpdohfekillkaa", sum := "c71d701eb030acc4e12ee94070c04797447acfce60ed99b8c6fbd15e8e49b6f0", func := "arenanet/arenanetlaw11.MerkleOwn", spec := "merkleOwn", unfollowed := true, recurses := true, plainKeys := false, apart := false }
def MerkleOwnSaid : Prop := merkleOwnRow.holds Try.pinned (OpenSpec.ofChange merkleOwnSpec)

/-- ITS FALSE NEIGHBOUR: 'it returns false'. Refute it at one input. -/
def merkleOwnWrong : ChangeSpec := { name := "merkleOwn", fn := fun _ => fun
  | [d1, d2] => { results := [.lit (.bool false)], args := [d1, d2] }
  | _ => none }
def MerkleOwnWrongFalsely : Prop := merkleOwnRow.holds Try.pinned (OpenSpec.ofChange merkleOwnWrong)

/- THE SECOND FORM. 'bulk': how many values and letters a reading holds, each counted each time it is reached (what is shared counts as often as it is met; a slice's spare places count too). A statement '..UptoSaid' is the law's where the arguments, and the package variables that the reading takes, are together of bulk at most 1048576: NARROWER than '..Said'. Prove '..Said' where nothing that the law and all that it calls make is longer than what came in: it says more and counts as full. Else prove '..UptoSaid'. A law counts once. -/
mutual
def uptoBulk {H : Type} : DataW H → Nat
  | .lit (.string bytes) => bytes.length + 1
  | .lit _ => 1
  | .nil => 1
  | .ptr d => uptoBulk d + 1
  | .slice elems spare => uptoBulkAll elems + uptoBulkAll spare + 1
  | .agg parts => uptoBulkAll parts + 1
  | .iface _ d => uptoBulk d + 1
  | .map entries => uptoBulkEntries entries + 1
  | .held _ => 1
def uptoBulkAll {H : Type} : List (DataW H) → Nat
  | [] => 0
  | d :: r => uptoBulk d + uptoBulkAll r
def uptoBulkEntries {H : Type} : List (Lit × DataW H) → Nat
  | [] => 0
  | x :: r => uptoBulkEntry x + uptoBulkEntries r
def uptoBulkEntry {H : Type} : Lit × DataW H → Nat
  | (.string bytes, d) => bytes.length + uptoBulk d + 1
  | (_, d) => uptoBulk d + 1
 end
def uptoSmall : (H : Type) → List (DataW H) → Bool := fun _ ds => decide (uptoBulkAll ds ≤ 1048576)
def OpenSpec.upto (s : _root_.Go.ChangeSpec) : _root_.Go.OpenSpec := { _root_.Go.OpenSpec.ofChange s with cond := some uptoSmall }

/-- 'arenanetlaw11.MerkleRoots', WHERE WHAT IT READS IS OF BULK AT MOST 1048576: true; the input reads as it did. -/
def merkleRootsUptoRow : OpenClaim := { program := "ythpdohfekillkaa", sum := "c71d701eb030acc4e12ee94070c04797447acfce60ed99b8c6fbd15e8e49b6f0", func := "arenanet/arenanetlaw11.MerkleRoots", spec := "merkleRoots", unfollowed := true, recurses := true, plainKeys := false, apart := false, narrowed := true }
def MerkleRootsUptoSaid : Prop := merkleRootsUptoRow.holds Try.pinned (OpenSpec.upto merkleRootsSpec)

/-- 'arenanetlaw11.MerkleSets', WHERE WHAT IT READS IS OF BULK AT MOST 1048576: true; the input reads as it did. -/
def merkleSetsUptoRow : OpenClaim := { program := "ythpdohfekillkaa", sum := "c71d701eb030acc4e12ee94070c04797447acfce60ed99b8c6fbd15e8e49b6f0", func := "arenanet/arenanetlaw11.MerkleSets", spec := "merkleSets", unfollowed := true, recurses := true, plainKeys := false, apart := false, narrowed := true }
def MerkleSetsUptoSaid : Prop := merkleSetsUptoRow.holds Try.pinned (OpenSpec.upto merkleSetsSpec)

/-- 'arenanetlaw11.MerkleVerifies', WHERE WHAT IT READS IS OF BULK AT MOST 1048576: true; the input reads as it did. -/
def merkleVerifiesUptoRow : OpenClaim := { program := "ythpdohfekillkaa", sum := "c71d701eb030acc4e12ee94070c04797447acfce60ed99b8c6fbd15e8e49b6f0", func := "arenanet/arenanetlaw11.MerkleVerifies", spec := "merkleVerifies", unfollowed := true, recurses := true, plainKeys := false, apart := false, narrowed := true }
def MerkleVerifiesUptoSaid : Prop := merkleVerifiesUptoRow.holds Try.pinned (OpenSpec.upto merkleVerifiesSpec)

/-- 'arenanetlaw11.MerkleComplete', WHERE WHAT IT READS IS OF BULK AT MOST 1048576: true; the input reads as it did. -/
def merkleCompleteUptoRow : OpenClaim := { program := "ythpdohfekillkaa", sum := "c71d701eb030acc4e12ee94070c04797447acfce60ed99b8c6fbd15e8e49b6f0", func := "arenanet/arenanetlaw11.MerkleComplete", spec := "merkleComplete", unfollowed := true, recurses := true, plainKeys := false, apart := false, narrowed := true }
def MerkleCompleteUptoSaid : Prop := merkleCompleteUptoRow.holds Try.pinned (OpenSpec.upto merkleCompleteSpec)

/-- 'arenanetlaw11.MerkleSound', WHERE WHAT IT READS IS OF BULK AT MOST 1048576: true; the input reads as it did. -/
def merkleSoundUptoRow : OpenClaim := { program := "ythpdohfekillkaa", sum := "c71d701eb030acc4e12ee94070c04797447acfce60ed99b8c6fbd15e8e49b6f0", func := "arenanet/arenanetlaw11.MerkleSound", spec := "merkleSound", unfollowed := true, recurses := true, plainKeys := false, apart := false, narrowed := true }
def MerkleSoundUptoSaid : Prop := merkleSoundUptoRow.holds Try.pinned (OpenSpec.upto merkleSoundSpec)

/-- 'arenanetlaw11.MerklePartial', WHERE WHAT IT READS IS OF BULK AT MOST 1048576: true; the input reads as it did. -/
def merklePartialUptoRow : OpenClaim := { program := "ythpdohfekillkaa", sum := "c71d701eb030acc4e12ee94070c04797447acfce60ed99b8c6fbd15e8e49b6f0", func := "arenanet/arenanetlaw11.MerklePartial", spec := "merklePartial", unfollowed := true, recurses := true, plainKeys := false, apart := false, narrowed := true }
def MerklePartialUptoSaid : Prop := merklePartialUptoRow.holds Try.pinned (OpenSpec.upto merklePartialSpec)

/-- 'arenanetlaw11.MerkleRejects', WHERE WHAT IT READS IS OF BULK AT MOST 1048576: true; the input reads as it did. -/
def merkleRejectsUptoRow : OpenClaim := { program := "ythpdohfekillkaa", sum := "c71d701eb030acc4e12ee94070c04797447acfce60ed99b8c6fbd15e8e49b6f0", func := "arenanet/arenanetlaw11.MerkleRejects", spec := "merkleRejects", unfollowed := true, recurses := true, plainKeys := false, apart := false, narrowed := true }
def MerkleRejectsUptoSaid : Prop := merkleRejectsUptoRow.holds Try.pinned (OpenSpec.upto merkleRejectsSpec)

/-- 'arenanetlaw11.MerkleOwn', WHERE WHAT IT READS IS OF BULK AT MOST 1048576: true; the input reads as it did. -/
def merkleOwnUptoRow : OpenClaim := { program := "ythpdohfekillkaa", sum := "c71d701eb030acc4e12ee94070c04797447acfce60ed99b8c6fbd15e8e49b6f0", func := "arenanet/arenanetlaw11.MerkleOwn", spec := "merkleOwn", unfollowed := true, recurses := true, plainKeys := false, apart := false, narrowed := true }
def MerkleOwnUptoSaid : Prop := merkleOwnUptoRow.holds Try.pinned (OpenSpec.upto merkleOwnSpec)

end Rows
end Go.Proofs.Ythpdohfekillkaa
