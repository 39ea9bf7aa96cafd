/-
  No cell of these rows narrows 'for every input' (looked for: loops, veiled, ifaces, maps, wideKeys, modest, calm, conditions, laid).
  DERIVED. THE GIVEN ROWS OF THIS SEAT. 8 by the template 'for every input the law returns true; each argument reads behind the call as it read before'; 0 by the template 'total and deterministic' (their statements: YtgbahacodamhjaaTotals.lean).
  GIVEN WITH THE SEED: the statements are not yours to turn. If you find one false, say at which input.
  Laid BY PROGRAM, IN A SANDBOX (cutbox-rows.mjs): the forced cells as the released guide's own fill.sh prints them over the translation 7407cac534374173… (all of the seat's roots in one cut). By AI agents, Wed Nov 11 2026. No macro, syntax, notation, axiom, sorry.
-/
import Derived.Test.YtgbahacodamhjaaChecked
import GoSem.Claim
import GoSem.ClaimJoined
import GoSem.ClaimMapViews
import Derived.JoinedTies
import Derived.KernelRfl
namespace Go.Proofs.Ytgbahacodamhjaa
/- THE CELL 'sum', in the pinned program and in every row, IS THE sha256 OF THE DUMP (.gsa) THAT YtgbahacodamhjaaProg.lean LOADS. Nothing in Lean hashes anything: it is a label: what it is worth is what the hold of that sum in a sandbox is worth. -/
noncomputable def Try.pinned : Pinned := { name := "ytgbahacodamhjaa", sum := "7407cac534374173009977f56cee0f3c40ff0544965a173987a9c420671cf123", checked := Try.checked }
namespace Rows
def none {H : Type} : Left H := { results := [], args := [] }

/-- 'arenanetlaw10.Hash64Sum': WHATEVER THE INPUT: true; the input reads as it did. -/
def hash64SumSpec : ChangeSpec := { name := "hash64Sum", fn := fun _ => fun
  | [d1, d2] => { results := [.lit (.bool true)], args := [d1, d2] }
  | _ => none }
def hash64SumRow : OpenClaim := { program := "ytgbahacodamhjaa", sum := "7407cac534374173009977f56cee0f3c40ff0544965a173987a9c420671cf123", func := "arenanet/arenanetlaw10.Hash64Sum", spec := "hash64Sum", unfollowed := true, recurses := true, apart := false }
def Hash64SumSaid : Prop := hash64SumRow.holds Try.pinned (OpenSpec.ofChange hash64SumSpec)

/-- ITS FALSE NEIGHBOUR: 'it returns false'. Refute it at one input. -/
def hash64SumWrong : ChangeSpec := { name := "hash64Sum", fn := fun _ => fun
  | [d1, d2] => { results := [.lit (.bool false)], args := [d1, d2] }
  | _ => none }
def Hash64SumWrongFalsely : Prop := hash64SumRow.holds Try.pinned (OpenSpec.ofChange hash64SumWrong)

/-- 'arenanetlaw10.Hash64Bytes': WHATEVER THE INPUT: true; the input reads as it did. -/
def hash64BytesSpec : ChangeSpec := { name := "hash64Bytes", fn := fun _ => fun
  | [d1, d2, d3, d4] => { results := [.lit (.bool true)], args := [d1, d2, d3, d4] }
  | _ => none }
def hash64BytesRow : OpenClaim := { program := "ytgbahacodamhjaa", sum := "7407cac534374173009977f56cee0f3c40ff0544965a173987a9c420671cf123", func := "arenanet/arenanetlaw10.Hash64Bytes", spec := "hash64Bytes", unfollowed := true, recurses := true, apart := false }
def Hash64BytesSaid : Prop := hash64BytesRow.holds Try.pinned (OpenSpec.ofChange hash64BytesSpec)

/-- ITS FALSE NEIGHBOUR: 'it returns false'. Refute it at one input. -/
def hash64BytesWrong : ChangeSpec := { name := "hash64Bytes", fn := fun _ => fun
  | [d1, d2, d3, d4] => { results := [.lit (.bool false)], args := [d1, d2, d3, d4] }
  | _ => none }
def Hash64BytesWrongFalsely : Prop := hash64BytesRow.holds Try.pinned (OpenSpec.ofChange hash64BytesWrong)

/-- 'arenanetlaw10.Hash64OneWord': WHATEVER THE INPUT: true; the input reads as it did. -/
def hash64OneWordSpec : ChangeSpec := { name := "hash64OneWord", fn := fun _ => fun
  | [d1, d2, d3, d4] => { results := [.lit (.bool true)], args := [d1, d2, d3, d4] }
  | _ => none }
def hash64OneWordRow : OpenClaim := { program := "ytgbahacodamhjaa", sum := "7407cac534374173009977f56cee0f3c40ff0544965a173987a9c420671cf123", func := "arenanet/arenanetlaw10.Hash64OneWord", spec := "hash64OneWord", unfollowed := true, recurses := true, apart := false }
def Hash64OneWordSaid : Prop := hash64OneWordRow.holds Try.pinned (OpenSpec.ofChange hash64OneWordSpec)

/-- ITS FALSE NEIGHBOUR: 'it returns false'. Refute it at one input. -/
def hash64OneWordWrong : ChangeSpec := { name := "hash64OneWord", fn := fun _ => fun
  | [d1, d2, d3, d4] => { results := [.lit (.bool false)], args := [d1, d2, d3, d4] }
  | _ => none }
def Hash64OneWordWrongFalsely : Prop := hash64OneWordRow.holds Try.pinned (OpenSpec.ofChange hash64OneWordWrong)

/-- 'arenanetlaw10.Hash64OneGroup': WHATEVER THE INPUT: true; the input reads as it did. -/
def hash64OneGroupSpec : ChangeSpec := { name := "hash64OneGroup", fn := fun _ => fun
  | [d1, d2, d3, d4, d5] => { results := [.lit (.bool true)], args := [d1, d2, d3, d4, d5] }
  | _ => none }
def hash64OneGroupRow : OpenClaim := { program := "ytgbahacodamhjaa", sum := "7407cac534374173009977f56cee0f3c40ff0544965a173987a9c420671cf123", func := "arenanet/arenanetlaw10.Hash64OneGroup", spec := "hash64OneGroup", unfollowed := true, recurses := true, apart := false }
def Hash64OneGroupSaid : Prop := hash64OneGroupRow.holds Try.pinned (OpenSpec.ofChange hash64OneGroupSpec)

/-- ITS FALSE NEIGHBOUR: 'it returns false'. Refute it at one input. -/
def hash64OneGroupWrong : ChangeSpec := { name := "hash64OneGroup", fn := fun _ => fun
  | [d1, d2, d3, d4, d5] => { results := [.lit (.bool false)], args := [d1, d2, d3, d4, d5] }
  | _ => none }
def Hash64OneGroupWrongFalsely : Prop := hash64OneGroupRow.holds Try.pinned (OpenSpec.ofChange hash64OneGroupWrong)

/-- 'arenanetlaw10.Hash64OneLabel': WHATEVER THE INPUT: true; the input reads as it did. -/
def hash64OneLabelSpec : ChangeSpec := { name := "hash64OneLabel", fn := fun _ => fun
  | [d1, d2, d3, d4] => { results := [.lit (.bool true)], args := [d1, d2, d3, d4] }
  | _ => none }
def hash64OneLabelRow : OpenClaim := { program := "ytgbahacodamhjaa", sum := "7407cac534374173009977f56cee0f3c40ff0544965a173987a9c420671cf123", func := "arenanet/arenanetlaw10.Hash64OneLabel", spec := "hash64OneLabel", unfollowed := true, recurses := true, apart := false }
def Hash64OneLabelSaid : Prop := hash64OneLabelRow.holds Try.pinned (OpenSpec.ofChange hash64OneLabelSpec)

/-- ITS FALSE NEIGHBOUR: 'it returns false'. Refute it at one input. -/
def hash64OneLabelWrong : ChangeSpec := { name := "hash64OneLabel", fn := fun _ => fun
  | [d1, d2, d3, d4] => { results := [.lit (.bool false)], args := [d1, d2, d3, d4] }
  | _ => none }
def Hash64OneLabelWrongFalsely : Prop := hash64OneLabelRow.holds Try.pinned (OpenSpec.ofChange hash64OneLabelWrong)

/-- 'arenanetlaw10.Hash64Groups': WHATEVER THE INPUT: true; the input reads as it did. -/
def hash64GroupsSpec : ChangeSpec := { name := "hash64Groups", fn := fun _ => fun
  | [d1, d2] => { results := [.lit (.bool true)], args := [d1, d2] }
  | _ => none }
def hash64GroupsRow : OpenClaim := { program := "ytgbahacodamhjaa", sum := "7407cac534374173009977f56cee0f3c40ff0544965a173987a9c420671cf123", func := "arenanet/arenanetlaw10.Hash64Groups", spec := "hash64Groups", unfollowed := true, recurses := true, apart := false }
def Hash64GroupsSaid : Prop := hash64GroupsRow.holds Try.pinned (OpenSpec.ofChange hash64GroupsSpec)

/-- ITS FALSE NEIGHBOUR: 'it returns false'. Refute it at one input. -/
def hash64GroupsWrong : ChangeSpec := { name := "hash64Groups", fn := fun _ => fun
  | [d1, d2] => { results := [.lit (.bool false)], args := [d1, d2] }
  | _ => none }
def Hash64GroupsWrongFalsely : Prop := hash64GroupsRow.holds Try.pinned (OpenSpec.ofChange hash64GroupsWrong)

/-- 'arenanetlaw10.Hash64Pairs': WHATEVER THE INPUT: true; the input reads as it did. -/
def hash64PairsSpec : ChangeSpec := { name := "hash64Pairs", fn := fun _ => fun
  | [d1, d2, d3] => { results := [.lit (.bool true)], args := [d1, d2, d3] }
  | _ => none }
def hash64PairsRow : OpenClaim := { program := "ytgbahacodamhjaa", sum := "7407cac534374173009977f56cee0f3c40ff0544965a173987a9c420671cf123", func := "arenanet/arenanetlaw10.Hash64Pairs", spec := "hash64Pairs", unfollowed := true, recurses := true, apart := false }
def Hash64PairsSaid : Prop := hash64PairsRow.holds Try.pinned (OpenSpec.ofChange hash64PairsSpec)

/-- ITS FALSE NEIGHBOUR: 'it returns false'. Refute it at one input. -/
def hash64PairsWrong : ChangeSpec := { name := "hash64Pairs", fn := fun _ => fun
  | [d1, d2, d3] => { results := [.lit (.bool false)], args := [d1, d2, d3] }
  | _ => none }
def Hash64PairsWrongFalsely : Prop := hash64PairsRow.holds Try.pinned (OpenSpec.ofChange hash64PairsWrong)

/-- 'arenanetlaw10.Hash64Arguments': WHATEVER THE INPUT: true; the input reads as it did. -/
def hash64ArgumentsSpec : ChangeSpec := { name := "hash64Arguments", fn := fun _ => fun
  | [d1, d2] => { results := [.lit (.bool true)], args := [d1, d2] }
  | _ => none }
def hash64ArgumentsRow : OpenClaim := { program := "ytgbahacodamhjaa", sum := "7407cac534374173009977f56cee0f3c40ff0544965a173987a9c420671cf123", func := "arenanet/arenanetlaw10.Hash64Arguments", spec := "hash64Arguments", unfollowed := true, recurses := true, apart := false }
def Hash64ArgumentsSaid : Prop := hash64ArgumentsRow.holds Try.pinned (OpenSpec.ofChange hash64ArgumentsSpec)

/-- ITS FALSE NEIGHBOUR: 'it returns false'. Refute it at one input. -/
def hash64ArgumentsWrong : ChangeSpec := { name := "hash64Arguments", fn := fun _ => fun
  | [d1, d2] => { results := [.lit (.bool false)], args := [d1, d2] }
  | _ => none }
def Hash64ArgumentsWrongFalsely : Prop := hash64ArgumentsRow.holds Try.pinned (OpenSpec.ofChange hash64ArgumentsWrong)

/- THE SECOND FORM. 'bulk': how many values and letters a reading holds, each counted each time it is reached (what is shared counts as often as it is met; a slice's spare places count too). A statement '..UptoSaid' is the law's where the arguments, and the package variables that the reading takes, are together of bulk at most 1048576: NARROWER than '..Said'. Prove '..Said' where nothing that the law and all that it calls make is longer than what came in: it says more and counts as full. Else prove '..UptoSaid'. A law counts once. -/
mutual
def uptoBulk {H : Type} : DataW H → Nat
  | .lit (.string bytes) => bytes.length + 1
  | .lit _ => 1
  | .nil => 1
  | .ptr d => uptoBulk d + 1
  | .slice elems spare => uptoBulkAll elems + uptoBulkAll spare + 1
  | .agg parts => uptoBulkAll parts + 1
  | .iface _ d => uptoBulk d + 1
  | .map entries => uptoBulkEntries entries + 1
  | .held _ => 1
def uptoBulkAll {H : Type} : List (DataW H) → Nat
  | [] => 0
  | d :: r => uptoBulk d + uptoBulkAll r
def uptoBulkEntries {H : Type} : List (Lit × DataW H) → Nat
  | [] => 0
  | x :: r => uptoBulkEntry x + uptoBulkEntries r
def uptoBulkEntry {H : Type} : Lit × DataW H → Nat
  | (.string bytes, d) => bytes.length + uptoBulk d + 1
  | (_, d) => uptoBulk d + 1
 end
def uptoSmall : (H : Type) → List (DataW H) → Bool := fun _ ds => decide (uptoBulkAll ds ≤ 1048576)
def OpenSpec.upto (s : _root_.Go.ChangeSpec) : _root_.Go.OpenSpec := { _root_.Go.OpenSpec.ofChange s with cond := some uptoSmall }

/-- 'arenanetlaw10.Hash64Sum', WHERE WHAT IT READS IS OF BULK AT MOST 1048576: true; the input reads as it did. -/
def hash64SumUptoRow : OpenClaim := { program := "ytgbahacodamhjaa", sum := "7407cac534374173009977f56cee0f3c40ff0544965a173987a9c420671cf123", func := "arenanet/arenanetlaw10.Hash64Sum", spec := "hash64Sum", unfollowed := true, recurses := true, apart := false, narrowed := true }
def Hash64SumUptoSaid : Prop := hash64SumUptoRow.holds Try.pinned (OpenSpec.upto hash64SumSpec)

/-- 'arenanetlaw10.Hash64Bytes', WHERE WHAT IT READS IS OF BULK AT MOST 1048576: true; the input reads as it did. -/
def hash64BytesUptoRow : OpenClaim := { program := "ytgbahacodamhjaa", sum := "7407cac534374173009977f56cee0f3c40ff0544965a173987a9c420671cf123", func := "arenanet/arenanetlaw10.Hash64Bytes", spec := "hash64Bytes", unfollowed := true, recurses := true, apart := false, narrowed := true }
def Hash64BytesUptoSaid : Prop := hash64BytesUptoRow.holds Try.pinned (OpenSpec.upto hash64BytesSpec)

/-- 'arenanetlaw10.Hash64OneWord', WHERE WHAT IT READS IS OF BULK AT MOST 1048576: true; the input reads as it did. -/
def hash64OneWordUptoRow : OpenClaim := { program := "ytgbahacodamhjaa", sum := "7407cac534374173009977f56cee0f3c40ff0544965a173987a9c420671cf123", func := "arenanet/arenanetlaw10.Hash64OneWord", spec := "hash64OneWord", unfollowed := true, recurses := true, apart := false, narrowed := true }
def Hash64OneWordUptoSaid : Prop := hash64OneWordUptoRow.holds Try.pinned (OpenSpec.upto hash64OneWordSpec)

/-- 'arenanetlaw10.Hash64OneGroup', WHERE WHAT IT READS IS OF BULK AT MOST 1048576: true; the input reads as it did. -/
def hash64OneGroupUptoRow : OpenClaim := { program := "ytgbahacodamhjaa", sum := "7407cac534374173009977f56cee0f3c40ff0544965a173987a9c420671cf123", func := "arenanet/arenanetlaw10.Hash64OneGroup", spec := "hash64OneGroup", unfollowed := true, recurses := true, apart := false, narrowed := true }
def Hash64OneGroupUptoSaid : Prop := hash64OneGroupUptoRow.holds Try.pinned (OpenSpec.upto hash64OneGroupSpec)

/-- 'arenanetlaw10.Hash64OneLabel', WHERE WHAT IT READS IS OF BULK AT MOST 1048576: true; the input reads as it did. -/
def hash64OneLabelUptoRow : OpenClaim := { program := "ytgbahacodamhjaa", sum := "7407cac534374173009977f56cee0f3c40ff0544965a173987a9c420671cf123", func := "arenanet/arenanetlaw10.Hash64OneLabel", spec := "hash64OneLabel", unfollowed := true, recurses := true, apart := false, narrowed := true }
def Hash64OneLabelUptoSaid : Prop := hash64OneLabelUptoRow.holds Try.pinned (OpenSpec.upto hash64OneLabelSpec)

/-- 'arenanetlaw10.Hash64Groups', WHERE WHAT IT READS IS OF BULK AT MOST 1048576: true; the input reads as it did. -/
def hash64GroupsUptoRow : OpenClaim := { program := "ytgbahacodamhjaa", sum := "7407cac534374173009977f56cee0f3c40ff0544965a173987a9c420671cf123", func := "arenanet/arenanetlaw10.Hash64Groups", spec := "hash64Groups", unfollowed := true, recurses := true, apart := false, narrowed := true }
def Hash64GroupsUptoSaid : Prop := hash64GroupsUptoRow.holds Try.pinned (OpenSpec.upto hash64GroupsSpec)

/-- 'arenanetlaw10.Hash64Pairs', WHERE WHAT IT READS IS OF BULK AT MOST 1048576: true; the input reads as it did. -/
def hash64PairsUptoRow : OpenClaim := { program := "ytgbahacodamhjaa", sum := "7407cac534374173009977f56cee0f3c40ff0544965a173987a9c420671cf123", func := "arenanet/arenanetlaw10.Hash64Pairs", spec := "hash64Pairs", unfollowed := true, recurses := true, apart := false, narrowed := true }
def Hash64PairsUptoSaid : Prop := hash64PairsUptoRow.holds Try.pinned (OpenSpec.upto hash64PairsSpec)

/-- 'arenanetlaw10.Hash64Arguments', WHERE WHAT IT READS IS OF BULK AT MOST 1048576: true; the input reads as it did. -/
def hash64ArgumentsUptoRow : OpenClaim := { program := "ytgbahacodamhjaa", sum := "7407cac534374173009977f56cee0f3c40ff0544965a173987a9c420671cf123", func := "arenanet/arenanetlaw10.Hash64Arguments", spec := "hash64Arguments", unfollowed := true, recurses := true, apart := false, narrowed := true }
def Hash64ArgumentsUptoSaid : Prop := hash64ArgumentsUptoRow.holds Try.pinned (OpenSpec.upto hash64ArgumentsSpec)

end Rows
end Go.Proofs.Ytgbahacodamhjaa
