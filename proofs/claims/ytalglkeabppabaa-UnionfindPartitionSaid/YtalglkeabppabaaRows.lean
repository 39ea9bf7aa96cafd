/-
  No cell of these rows narrows 'for every input' (looked for: loops, veiled, ifaces, maps, wideKeys, modest, calm, conditions, laid).
  DERIVED. THE GIVEN ROWS OF THIS SEAT. 8 by the template 'for every input the law returns true; each argument reads behind the call as it read before'; 0 by the template 'total and deterministic' (their statements: YtalglkeabppabaaTotals.lean).
  GIVEN WITH THE SEED: the statements are not yours to turn. If you find one false, say at which input.
  Laid BY PROGRAM, IN A SANDBOX (cutbox-rows.mjs): the forced cells as the released guide's own fill.sh prints them over the translation b0bd6f2b44e90747… (all of the seat's roots in one cut). By AI agents, Wed Nov 11 2026. No macro, syntax, notation, axiom, sorry.
-/
import Derived.Test.YtalglkeabppabaaChecked
import GoSem.Claim
import GoSem.ClaimJoined
import GoSem.ClaimMapViews
import Derived.JoinedTies
import Derived.KernelRfl
namespace Go.Proofs.Ytalglkeabppabaa
/- THE CELL 'sum', in the pinned program and in every row, IS THE sha256 OF THE DUMP (.gsa) THAT YtalglkeabppabaaProg.lean LOADS. Nothing in Lean hashes anything: it is a label: what it is worth is what the hold of that sum in a sandbox is worth. -/
noncomputable def Try.pinned : Pinned := { name := "ytalglkeabppabaa", sum := "b0bd6f2b44e9074732da70366eb000739d28eb3d29d8616806736ccbe894223b", checked := Try.checked }
namespace Rows
def none {H : Type} : Left H := { results := [], args := [] }

/-- 'arenanetlaw08.UnionfindPlays': WHATEVER THE INPUT: true; the input reads as it did. -/
def unionfindPlaysSpec : ChangeSpec := { name := "unionfindPlays", fn := fun _ => fun
  | [d1, d2, d3, d4] => { results := [.lit (.bool true)], args := [d1, d2, d3, d4] }
  | _ => none }
def unionfindPlaysRow : OpenClaim := { program := "ytalglkeabppabaa", sum := "b0bd6f2b44e9074732da70366eb000739d28eb3d29d8616806736ccbe894223b", func := "arenanet/arenanetlaw08.UnionfindPlays", spec := "unionfindPlays", unfollowed := true, recurses := true, apart := false }
def UnionfindPlaysSaid : Prop := unionfindPlaysRow.holds Try.pinned (OpenSpec.ofChange unionfindPlaysSpec)

/-- ITS FALSE NEIGHBOUR: 'it returns false'. Refute it at one input. -/
def unionfindPlaysWrong : ChangeSpec := { name := "unionfindPlays", fn := fun _ => fun
  | [d1, d2, d3, d4] => { results := [.lit (.bool false)], args := [d1, d2, d3, d4] }
  | _ => none }
def UnionfindPlaysWrongFalsely : Prop := unionfindPlaysRow.holds Try.pinned (OpenSpec.ofChange unionfindPlaysWrong)

/-- 'arenanetlaw08.UnionfindIslands': WHATEVER THE INPUT: true; the input reads as it did. -/
def unionfindIslandsSpec : ChangeSpec := { name := "unionfindIslands", fn := fun _ => fun
  | [d1, d2] => { results := [.lit (.bool true)], args := [d1, d2] }
  | _ => none }
def unionfindIslandsRow : OpenClaim := { program := "ytalglkeabppabaa", sum := "b0bd6f2b44e9074732da70366eb000739d28eb3d29d8616806736ccbe894223b", func := "arenanet/arenanetlaw08.UnionfindIslands", spec := "unionfindIslands", unfollowed := true, recurses := true, apart := false }
def UnionfindIslandsSaid : Prop := unionfindIslandsRow.holds Try.pinned (OpenSpec.ofChange unionfindIslandsSpec)

/-- ITS FALSE NEIGHBOUR: 'it returns false'. Refute it at one input. -/
def unionfindIslandsWrong : ChangeSpec := { name := "unionfindIslands", fn := fun _ => fun
  | [d1, d2] => { results := [.lit (.bool false)], args := [d1, d2] }
  | _ => none }
def UnionfindIslandsWrongFalsely : Prop := unionfindIslandsRow.holds Try.pinned (OpenSpec.ofChange unionfindIslandsWrong)

/-- 'arenanetlaw08.UnionfindEquivalence': WHATEVER THE INPUT: true; the input reads as it did. -/
def unionfindEquivalenceSpec : ChangeSpec := { name := "unionfindEquivalence", fn := fun _ => fun
  | [d1, d2] => { results := [.lit (.bool true)], args := [d1, d2] }
  | _ => none }
def unionfindEquivalenceRow : OpenClaim := { program := "ytalglkeabppabaa", sum := "b0bd6f2b44e9074732da70366eb000739d28eb3d29d8616806736ccbe894223b", func := "arenanet/arenanetlaw08.UnionfindEquivalence", spec := "unionfindEquivalence", unfollowed := true, recurses := true, apart := false }
def UnionfindEquivalenceSaid : Prop := unionfindEquivalenceRow.holds Try.pinned (OpenSpec.ofChange unionfindEquivalenceSpec)

/-- ITS FALSE NEIGHBOUR: 'it returns false'. Refute it at one input. -/
def unionfindEquivalenceWrong : ChangeSpec := { name := "unionfindEquivalence", fn := fun _ => fun
  | [d1, d2] => { results := [.lit (.bool false)], args := [d1, d2] }
  | _ => none }
def UnionfindEquivalenceWrongFalsely : Prop := unionfindEquivalenceRow.holds Try.pinned (OpenSpec.ofChange unionfindEquivalenceWrong)

/-- 'arenanetlaw08.UnionfindPartition': WHATEVER THE INPUT: true; the input reads as it did. -/
def unionfindPartitionSpec : ChangeSpec := { name := "unionfindPartition", fn := fun _ => fun
  | [d1, d2] => { results := [.lit (.bool true)], args := [d1, d2] }
  | _ => none }
def unionfindPartitionRow : OpenClaim := { program := "ytalglkeabppabaa", sum := "b0bd6f2b44e9074732da70366eb000739d28eb3d29d8616806736ccbe894223b", func := "arenanet/arenanetlaw08.UnionfindPartition", spec := "unionfindPartition", unfollowed := true, recurses := true, apart := false }
def UnionfindPartitionSaid : Prop := unionfindPartitionRow.holds Try.pinned (OpenSpec.ofChange unionfindPartitionSpec)

/-- ITS FALSE NEIGHBOUR: 'it returns false'. Refute it at one input. -/
def unionfindPartitionWrong : ChangeSpec := { name := "unionfindPartition", fn := fun _ => fun
  | [d1, d2] => { results := [.lit (.bool false)], args := [d1, d2] }
  | _ => none }
def UnionfindPartitionWrongFalsely : Prop := unionfindPartitionRow.holds Try.pinned (OpenSpec.ofChange unionfindPartitionWrong)

/-- 'arenanetlaw08.UnionfindOrder': WHATEVER THE INPUT: true; the input reads as it did. -/
def unionfindOrderSpec : ChangeSpec := { name := "unionfindOrder", fn := fun _ => fun
  | [d1, d2, d3] => { results := [.lit (.bool true)], args := [d1, d2, d3] }
  | _ => none }
def unionfindOrderRow : OpenClaim := { program := "ytalglkeabppabaa", sum := "b0bd6f2b44e9074732da70366eb000739d28eb3d29d8616806736ccbe894223b", func := "arenanet/arenanetlaw08.UnionfindOrder", spec := "unionfindOrder", unfollowed := true, recurses := true, apart := false }
def UnionfindOrderSaid : Prop := unionfindOrderRow.holds Try.pinned (OpenSpec.ofChange unionfindOrderSpec)

/-- ITS FALSE NEIGHBOUR: 'it returns false'. Refute it at one input. -/
def unionfindOrderWrong : ChangeSpec := { name := "unionfindOrder", fn := fun _ => fun
  | [d1, d2, d3] => { results := [.lit (.bool false)], args := [d1, d2, d3] }
  | _ => none }
def UnionfindOrderWrongFalsely : Prop := unionfindOrderRow.holds Try.pinned (OpenSpec.ofChange unionfindOrderWrong)

/-- 'arenanetlaw08.UnionfindPaths': WHATEVER THE INPUT: true; the input reads as it did. -/
def unionfindPathsSpec : ChangeSpec := { name := "unionfindPaths", fn := fun _ => fun
  | [d1, d2, d3] => { results := [.lit (.bool true)], args := [d1, d2, d3] }
  | _ => none }
def unionfindPathsRow : OpenClaim := { program := "ytalglkeabppabaa", sum := "b0bd6f2b44e9074732da70366eb000739d28eb3d29d8616806736ccbe894223b", func := "arenanet/arenanetlaw08.UnionfindPaths", spec := "unionfindPaths", unfollowed := true, recurses := true, apart := false }
def UnionfindPathsSaid : Prop := unionfindPathsRow.holds Try.pinned (OpenSpec.ofChange unionfindPathsSpec)

/-- ITS FALSE NEIGHBOUR: 'it returns false'. Refute it at one input. -/
def unionfindPathsWrong : ChangeSpec := { name := "unionfindPaths", fn := fun _ => fun
  | [d1, d2, d3] => { results := [.lit (.bool false)], args := [d1, d2, d3] }
  | _ => none }
def UnionfindPathsWrongFalsely : Prop := unionfindPathsRow.holds Try.pinned (OpenSpec.ofChange unionfindPathsWrong)

/-- 'arenanetlaw08.UnionfindMerge': WHATEVER THE INPUT: true; the input reads as it did. -/
def unionfindMergeSpec : ChangeSpec := { name := "unionfindMerge", fn := fun _ => fun
  | [d1, d2, d3, d4] => { results := [.lit (.bool true)], args := [d1, d2, d3, d4] }
  | _ => none }
def unionfindMergeRow : OpenClaim := { program := "ytalglkeabppabaa", sum := "b0bd6f2b44e9074732da70366eb000739d28eb3d29d8616806736ccbe894223b", func := "arenanet/arenanetlaw08.UnionfindMerge", spec := "unionfindMerge", unfollowed := true, recurses := true, apart := false }
def UnionfindMergeSaid : Prop := unionfindMergeRow.holds Try.pinned (OpenSpec.ofChange unionfindMergeSpec)

/-- ITS FALSE NEIGHBOUR: 'it returns false'. Refute it at one input. -/
def unionfindMergeWrong : ChangeSpec := { name := "unionfindMerge", fn := fun _ => fun
  | [d1, d2, d3, d4] => { results := [.lit (.bool false)], args := [d1, d2, d3, d4] }
  | _ => none }
def UnionfindMergeWrongFalsely : Prop := unionfindMergeRow.holds Try.pinned (OpenSpec.ofChange unionfindMergeWrong)

/-- 'arenanetlaw08.UnionfindOwn': WHATEVER THE INPUT: true; the input reads as it did. -/
def unionfindOwnSpec : ChangeSpec := { name := "unionfindOwn", fn := fun _ => fun
  | [d1, d2] => { results := [.lit (.bool true)], args := [d1, d2] }
  | _ => none }
def unionfindOwnRow : OpenClaim := { program := "ytalglkeabppabaa", sum := "b0bd6f2b44e9074732da70366eb000739d28eb3d29d8616806736ccbe894223b", func := "arenanet/arenanetlaw08.UnionfindOwn", spec := "unionfindOwn", unfollowed := true, recurses := true, apart := false }
def UnionfindOwnSaid : Prop := unionfindOwnRow.holds Try.pinned (OpenSpec.ofChange unionfindOwnSpec)

/-- ITS FALSE NEIGHBOUR: 'it returns false'. Refute it at one input. -/
def unionfindOwnWrong : ChangeSpec := { name := "unionfindOwn", fn := fun _ => fun
  | [d1, d2] => { results := [.lit (.bool false)], args := [d1, d2] }
  | _ => none }
def UnionfindOwnWrongFalsely : Prop := unionfindOwnRow.holds Try.pinned (OpenSpec.ofChange unionfindOwnWrong)

/- THE SECOND FORM. 'bulk': how many values and letters a reading holds, each counted each time it is reached (what is shared counts as often as it is met; a slice's spare places count too). A statement '..UptoSaid' is the law's where the arguments, and the package variables that the reading takes, are together of bulk at most 1048576: NARROWER than '..Said'. Prove '..Said' where nothing that the law and all that it calls make is longer than what came in: it says more and counts as full. Else prove '..UptoSaid'. A law counts once. -/
mutual
def uptoBulk {H : Type} : DataW H → Nat
  | .lit (.string bytes) => bytes.length + 1
  | .lit _ => 1
  | .nil => 1
  | .ptr d => uptoBulk d + 1
  | .slice elems spare => uptoBulkAll elems + uptoBulkAll spare + 1
  | .agg parts => uptoBulkAll parts + 1
  | .iface _ d => uptoBulk d + 1
  | .map entries => uptoBulkEntries entries + 1
  | .held _ => 1
def uptoBulkAll {H : Type} : List (DataW H) → Nat
  | [] => 0
  | d :: r => uptoBulk d + uptoBulkAll r
def uptoBulkEntries {H : Type} : List (Lit × DataW H) → Nat
  | [] => 0
  | x :: r => uptoBulkEntry x + uptoBulkEntries r
def uptoBulkEntry {H : Type} : Lit × DataW H → Nat
  | (.string bytes, d) => bytes.length + uptoBulk d + 1
  | (_, d) => uptoBulk d + 1
 end
def uptoSmall : (H : Type) → List (DataW H) → Bool := fun _ ds => decide (uptoBulkAll ds ≤ 1048576)
def OpenSpec.upto (s : _root_.Go.ChangeSpec) : _root_.Go.OpenSpec := { _root_.Go.OpenSpec.ofChange s with cond := some uptoSmall }

/-- 'arenanetlaw08.UnionfindPlays', WHERE WHAT IT READS IS OF BULK AT MOST 1048576: true; the input reads as it did. -/
def unionfindPlaysUptoRow : OpenClaim := { program := "ytalglkeabppabaa", sum := "b0bd6f2b44e9074732da70366eb000739d28eb3d29d8616806736ccbe894223b", func := "arenanet/arenanetlaw08.UnionfindPlays", spec := "unionfindPlays", unfollowed := true, recurses := true, apart := false, narrowed := true }
def UnionfindPlaysUptoSaid : Prop := unionfindPlaysUptoRow.holds Try.pinned (OpenSpec.upto unionfindPlaysSpec)

/-- 'arenanetlaw08.UnionfindIslands', WHERE WHAT IT READS IS OF BULK AT MOST 1048576: true; the input reads as it did. -/
def unionfindIslandsUptoRow : OpenClaim := { program := "ytalglkeabppabaa", sum := "b0bd6f2b44e9074732da70366eb000739d28eb3d29d8616806736ccbe894223b", func := "arenanet/arenanetlaw08.UnionfindIslands", spec := "unionfindIslands", unfollowed := true, recurses := true, apart := false, narrowed := true }
def UnionfindIslandsUptoSaid : Prop := unionfindIslandsUptoRow.holds Try.pinned (OpenSpec.upto unionfindIslandsSpec)

/-- 'arenanetlaw08.UnionfindEquivalence', WHERE WHAT IT READS IS OF BULK AT MOST 1048576: true; the input reads as it did. -/
def unionfindEquivalenceUptoRow : OpenClaim := { program := "ytalglkeabppabaa", sum := "b0bd6f2b44e9074732da70366eb000739d28eb3d29d8616806736ccbe894223b", func := "arenanet/arenanetlaw08.UnionfindEquivalence", spec := "unionfindEquivalence", unfollowed := true, recurses := true, apart := false, narrowed := true }
def UnionfindEquivalenceUptoSaid : Prop := unionfindEquivalenceUptoRow.holds Try.pinned (OpenSpec.upto unionfindEquivalenceSpec)

/-- 'arenanetlaw08.UnionfindPartition', WHERE WHAT IT READS IS OF BULK AT MOST 1048576: true; the input reads as it did. -/
def unionfindPartitionUptoRow : OpenClaim := { program := "ytalglkeabppabaa", sum := "b0bd6f2b44e9074732da70366eb000739d28eb3d29d8616806736ccbe894223b", func := "arenanet/arenanetlaw08.UnionfindPartition", spec := "unionfindPartition", unfollowed := true, recurses := true, apart := false, narrowed := true }
def UnionfindPartitionUptoSaid : Prop := unionfindPartitionUptoRow.holds Try.pinned (OpenSpec.upto unionfindPartitionSpec)

/-- 'arenanetlaw08.UnionfindOrder', WHERE WHAT IT READS IS OF BULK AT MOST 1048576: true; the input reads as it did. -/
def unionfindOrderUptoRow : OpenClaim := { program := "ytalglkeabppabaa", sum := "b0bd6f2b44e9074732da70366eb000739d28eb3d29d8616806736ccbe894223b", func := "arenanet/arenanetlaw08.UnionfindOrder", spec := "unionfindOrder", unfollowed := true, recurses := true, apart := false, narrowed := true }
def UnionfindOrderUptoSaid : Prop := unionfindOrderUptoRow.holds Try.pinned (OpenSpec.upto unionfindOrderSpec)

/-- 'arenanetlaw08.UnionfindPaths', WHERE WHAT IT READS IS OF BULK AT MOST 1048576: true; the input reads as it did. -/
def unionfindPathsUptoRow : OpenClaim := { program := "ytalglkeabppabaa", sum := "b0bd6f2b44e9074732da70366eb000739d28eb3d29d8616806736ccbe894223b", func := "arenanet/arenanetlaw08.UnionfindPaths", spec := "unionfindPaths", unfollowed := true, recurses := true, apart := false, narrowed := true }
def UnionfindPathsUptoSaid : Prop := unionfindPathsUptoRow.holds Try.pinned (OpenSpec.upto unionfindPathsSpec)

/-- 'arenanetlaw08.UnionfindMerge', WHERE WHAT IT READS IS OF BULK AT MOST 1048576: true; the input reads as it did. -/
def unionfindMergeUptoRow : OpenClaim := { program := "ytalglkeabppabaa", sum := "b0bd6f2b44e9074732da70366eb000739d28eb3d29d8616806736ccbe894223b", func := "arenanet/arenanetlaw08.UnionfindMerge", spec := "unionfindMerge", unfollowed := true, recurses := true, apart := false, narrowed := true }
def UnionfindMergeUptoSaid : Prop := unionfindMergeUptoRow.holds Try.pinned (OpenSpec.upto unionfindMergeSpec)

/-- 'arenanetlaw08.UnionfindOwn', WHERE WHAT IT READS IS OF BULK AT MOST 1048576: true; the input reads as it did. -/
def unionfindOwnUptoRow : OpenClaim := { program := "ytalglkeabppabaa", sum := "b0bd6f2b44e9074732da70366eb000739d28eb3d29d8616806736ccbe894223b", func := "arenanet/arenanetlaw08.UnionfindOwn", spec := "unionfindOwn", unfollowed := true, recurses := true, apart := false, narrowed := true }
def UnionfindOwnUptoSaid : Prop := unionfindOwnUptoRow.holds Try.pinned (OpenSpec.upto unionfindOwnSpec)

end Rows
end Go.Proofs.Ytalglkeabppabaa
