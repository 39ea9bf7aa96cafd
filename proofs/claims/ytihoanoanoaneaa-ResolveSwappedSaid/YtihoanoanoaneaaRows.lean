/-
  No cell of these rows narrows 'for every input' (looked for: loops, veiled, ifaces, maps, wideKeys, modest, calm, conditions, laid).
  DERIVED. THE GIVEN ROWS OF THIS SEAT. 6 by the template 'for every input the law returns true; each argument reads behind the call as it read before'; 0 by the template 'total and deterministic' (their statements: YtihoanoanoaneaaTotals.lean).
  GIVEN WITH THE SEED: the statements are not yours to turn. If you find one false, say at which input.
  Laid BY PROGRAM, IN A SANDBOX (cutbox-rows.mjs): the forced cells as the released guide's own fill.sh prints them over the translation af60b3203fdfd1d5… (all of the seat's roots in one cut). By AI agents, Wed Nov 11 2026. No macro, syntax, notation, axiom, sorry.
-/
import Derived.Test.YtihoanoanoaneaaChecked
import GoSem.Claim
import GoSem.ClaimJoined
import GoSem.ClaimMapViews
import Derived.JoinedTies
import Derived.KernelRfl
namespace Go.Proofs.Ytihoanoanoaneaa
/- THE CELL 'sum', in the pinned program and in every row, IS THE sha256 OF THE DUMP (.gsa) THAT YtihoanoanoaneaaProg.lean LOADS. Nothing in Lean hashes anything: it is a label: what it is worth is what the hold of that sum in a sandbox is worth. -/
noncomputable def Try.pinned : Pinned := { name := "ytihoanoanoaneaa", sum := "af60b3203fdfd1d5a905a50341ce7a249954ce514b1194df594364f06dd26aff", checked := Try.checked }
namespace Rows
def none {H : Type} : Left H := { results := [], args := [] }

/-- 'arenanetlaw07.ResolveExact': WHATEVER THE INPUT: true; the input reads as it did. -/
def resolveExactSpec : ChangeSpec := { name := "resolveExact", fn := fun _ => fun
  | [d1, d2, d3, d4] => { results := [.lit (.bool true)], args := [d1, d2, d3, d4] }
  | _ => none }
def resolveExactRow : OpenClaim := { program := "ytihoanoanoaneaa", sum := "af60b3203fdfd1d5a905a50341ce7a249954ce514b1194df594364f06dd26aff", func := "arenanet/arenanetlaw07.ResolveExact", spec := "resolveExact", unfollowed := true, recurses := true, apart := false }
def ResolveExactSaid : Prop := resolveExactRow.holds Try.pinned (OpenSpec.ofChange resolveExactSpec)

/-- ITS FALSE NEIGHBOUR: 'it returns false'. Refute it at one input. -/
def resolveExactWrong : ChangeSpec := { name := "resolveExact", fn := fun _ => fun
  | [d1, d2, d3, d4] => { results := [.lit (.bool false)], args := [d1, d2, d3, d4] }
  | _ => none }
def ResolveExactWrongFalsely : Prop := resolveExactRow.holds Try.pinned (OpenSpec.ofChange resolveExactWrong)

/-- 'arenanetlaw07.ResolveStatic': WHATEVER THE INPUT: true; the input reads as it did. -/
def resolveStaticSpec : ChangeSpec := { name := "resolveStatic", fn := fun _ => fun
  | [d1, d2, d3, d4] => { results := [.lit (.bool true)], args := [d1, d2, d3, d4] }
  | _ => none }
def resolveStaticRow : OpenClaim := { program := "ytihoanoanoaneaa", sum := "af60b3203fdfd1d5a905a50341ce7a249954ce514b1194df594364f06dd26aff", func := "arenanet/arenanetlaw07.ResolveStatic", spec := "resolveStatic", unfollowed := true, recurses := true, apart := false }
def ResolveStaticSaid : Prop := resolveStaticRow.holds Try.pinned (OpenSpec.ofChange resolveStaticSpec)

/-- ITS FALSE NEIGHBOUR: 'it returns false'. Refute it at one input. -/
def resolveStaticWrong : ChangeSpec := { name := "resolveStatic", fn := fun _ => fun
  | [d1, d2, d3, d4] => { results := [.lit (.bool false)], args := [d1, d2, d3, d4] }
  | _ => none }
def ResolveStaticWrongFalsely : Prop := resolveStaticRow.holds Try.pinned (OpenSpec.ofChange resolveStaticWrong)

/-- 'arenanetlaw07.ResolveMomentum': WHATEVER THE INPUT: true; the input reads as it did. -/
def resolveMomentumSpec : ChangeSpec := { name := "resolveMomentum", fn := fun _ => fun
  | [d1, d2, d3, d4, d5] => { results := [.lit (.bool true)], args := [d1, d2, d3, d4, d5] }
  | _ => none }
def resolveMomentumRow : OpenClaim := { program := "ytihoanoanoaneaa", sum := "af60b3203fdfd1d5a905a50341ce7a249954ce514b1194df594364f06dd26aff", func := "arenanet/arenanetlaw07.ResolveMomentum", spec := "resolveMomentum", unfollowed := true, recurses := true, apart := false }
def ResolveMomentumSaid : Prop := resolveMomentumRow.holds Try.pinned (OpenSpec.ofChange resolveMomentumSpec)

/-- ITS FALSE NEIGHBOUR: 'it returns false'. Refute it at one input. -/
def resolveMomentumWrong : ChangeSpec := { name := "resolveMomentum", fn := fun _ => fun
  | [d1, d2, d3, d4, d5] => { results := [.lit (.bool false)], args := [d1, d2, d3, d4, d5] }
  | _ => none }
def ResolveMomentumWrongFalsely : Prop := resolveMomentumRow.holds Try.pinned (OpenSpec.ofChange resolveMomentumWrong)

/-- 'arenanetlaw07.ResolveSwapped': WHATEVER THE INPUT: true; the input reads as it did. -/
def resolveSwappedSpec : ChangeSpec := { name := "resolveSwapped", fn := fun _ => fun
  | [d1, d2, d3, d4, d5] => { results := [.lit (.bool true)], args := [d1, d2, d3, d4, d5] }
  | _ => none }
def resolveSwappedRow : OpenClaim := { program := "ytihoanoanoaneaa", sum := "af60b3203fdfd1d5a905a50341ce7a249954ce514b1194df594364f06dd26aff", func := "arenanet/arenanetlaw07.ResolveSwapped", spec := "resolveSwapped", unfollowed := true, recurses := true, apart := false }
def ResolveSwappedSaid : Prop := resolveSwappedRow.holds Try.pinned (OpenSpec.ofChange resolveSwappedSpec)

/-- ITS FALSE NEIGHBOUR: 'it returns false'. Refute it at one input. -/
def resolveSwappedWrong : ChangeSpec := { name := "resolveSwapped", fn := fun _ => fun
  | [d1, d2, d3, d4, d5] => { results := [.lit (.bool false)], args := [d1, d2, d3, d4, d5] }
  | _ => none }
def ResolveSwappedWrongFalsely : Prop := resolveSwappedRow.holds Try.pinned (OpenSpec.ofChange resolveSwappedWrong)

/-- 'arenanetlaw07.ResolveShifted': WHATEVER THE INPUT: true; the input reads as it did. -/
def resolveShiftedSpec : ChangeSpec := { name := "resolveShifted", fn := fun _ => fun
  | [d1, d2, d3, d4, d5, d6] => { results := [.lit (.bool true)], args := [d1, d2, d3, d4, d5, d6] }
  | _ => none }
def resolveShiftedRow : OpenClaim := { program := "ytihoanoanoaneaa", sum := "af60b3203fdfd1d5a905a50341ce7a249954ce514b1194df594364f06dd26aff", func := "arenanet/arenanetlaw07.ResolveShifted", spec := "resolveShifted", unfollowed := true, recurses := true, apart := false }
def ResolveShiftedSaid : Prop := resolveShiftedRow.holds Try.pinned (OpenSpec.ofChange resolveShiftedSpec)

/-- ITS FALSE NEIGHBOUR: 'it returns false'. Refute it at one input. -/
def resolveShiftedWrong : ChangeSpec := { name := "resolveShifted", fn := fun _ => fun
  | [d1, d2, d3, d4, d5, d6] => { results := [.lit (.bool false)], args := [d1, d2, d3, d4, d5, d6] }
  | _ => none }
def ResolveShiftedWrongFalsely : Prop := resolveShiftedRow.holds Try.pinned (OpenSpec.ofChange resolveShiftedWrong)

/-- 'arenanetlaw07.ResolveSeparates': WHATEVER THE INPUT: true; the input reads as it did. -/
def resolveSeparatesSpec : ChangeSpec := { name := "resolveSeparates", fn := fun _ => fun
  | [d1, d2, d3, d4] => { results := [.lit (.bool true)], args := [d1, d2, d3, d4] }
  | _ => none }
def resolveSeparatesRow : OpenClaim := { program := "ytihoanoanoaneaa", sum := "af60b3203fdfd1d5a905a50341ce7a249954ce514b1194df594364f06dd26aff", func := "arenanet/arenanetlaw07.ResolveSeparates", spec := "resolveSeparates", unfollowed := true, recurses := true, apart := false }
def ResolveSeparatesSaid : Prop := resolveSeparatesRow.holds Try.pinned (OpenSpec.ofChange resolveSeparatesSpec)

/-- ITS FALSE NEIGHBOUR: 'it returns false'. Refute it at one input. -/
def resolveSeparatesWrong : ChangeSpec := { name := "resolveSeparates", fn := fun _ => fun
  | [d1, d2, d3, d4] => { results := [.lit (.bool false)], args := [d1, d2, d3, d4] }
  | _ => none }
def ResolveSeparatesWrongFalsely : Prop := resolveSeparatesRow.holds Try.pinned (OpenSpec.ofChange resolveSeparatesWrong)

/- THE SECOND FORM. 'bulk': how many values and letters a reading holds, each counted each time it is reached (what is shared counts as often as it is met; a slice's spare places count too). A statement '..UptoSaid' is the law's where the arguments, and the package variables that the reading takes, are together of bulk at most 1048576: NARROWER than '..Said'. Prove '..Said' where nothing that the law and all that it calls make is longer than what came in: it says more and counts as full. Else prove '..UptoSaid'. A law counts once. -/
mutual
def uptoBulk {H : Type} : DataW H → Nat
  | .lit (.string bytes) => bytes.length + 1
  | .lit _ => 1
  | .nil => 1
  | .ptr d => uptoBulk d + 1
  | .slice elems spare => uptoBulkAll elems + uptoBulkAll spare + 1
  | .agg parts => uptoBulkAll parts + 1
  | .iface _ d => uptoBulk d + 1
  | .map entries => uptoBulkEntries entries + 1
  | .held _ => 1
def uptoBulkAll {H : Type} : List (DataW H) → Nat
  | [] => 0
  | d :: r => uptoBulk d + uptoBulkAll r
def uptoBulkEntries {H : Type} : List (Lit × DataW H) → Nat
  | [] => 0
  | x :: r => uptoBulkEntry x + uptoBulkEntries r
def uptoBulkEntry {H : Type} : Lit × DataW H → Nat
  | (.string bytes, d) => bytes.length + uptoBulk d + 1
  | (_, d) => uptoBulk d + 1
 end
def uptoSmall : (H : Type) → List (DataW H) → Bool := fun _ ds => decide (uptoBulkAll ds ≤ 1048576)
def OpenSpec.upto (s : _root_.Go.ChangeSpec) : _root_.Go.OpenSpec := { _root_.Go.OpenSpec.ofChange s with cond := some uptoSmall }

/-- 'arenanetlaw07.ResolveExact', WHERE WHAT IT READS IS OF BULK AT MOST 1048576: true; the input reads as it did. -/
def resolveExactUptoRow : OpenClaim := { program := "ytihoanoanoaneaa", sum := "af60b3203fdfd1d5a905a50341ce7a249954ce514b1194df594364f06dd26aff", func := "arenanet/arenanetlaw07.ResolveExact", spec := "resolveExact", unfollowed := true, recurses := true, apart := false, narrowed := true }
def ResolveExactUptoSaid : Prop := resolveExactUptoRow.holds Try.pinned (OpenSpec.upto resolveExactSpec)

/-- 'arenanetlaw07.ResolveStatic', WHERE WHAT IT READS IS OF BULK AT MOST 1048576: true; the input reads as it did. -/
def resolveStaticUptoRow : OpenClaim := { program := "ytihoanoanoaneaa", sum := "af60b3203fdfd1d5a905a50341ce7a249954ce514b1194df594364f06dd26aff", func := "arenanet/arenanetlaw07.ResolveStatic", spec := "resolveStatic", unfollowed := true, recurses := true, apart := false, narrowed := true }
def ResolveStaticUptoSaid : Prop := resolveStaticUptoRow.holds Try.pinned (OpenSpec.upto resolveStaticSpec)

/-- 'arenanetlaw07.ResolveMomentum', WHERE WHAT IT READS IS OF BULK AT MOST 1048576: true; the input reads as it did. -/
def resolveMomentumUptoRow : OpenClaim := { program := "ytihoanoanoaneaa", sum := "af60b3203fdfd1d5a905a50341ce7a249954ce514b1194df594364f06dd26aff", func := "arenanet/arenanetlaw07.ResolveMomentum", spec := "resolveMomentum", unfollowed := true, recurses := true, apart := false, narrowed := true }
def ResolveMomentumUptoSaid : Prop := resolveMomentumUptoRow.holds Try.pinned (OpenSpec.upto resolveMomentumSpec)

/-- 'arenanetlaw07.ResolveSwapped', WHERE WHAT IT READS IS OF BULK AT MOST 1048576: true; the input reads as it did. -/
def resolveSwappedUptoRow : OpenClaim := { program := "ytihoanoanoaneaa", sum := "af60b3203fdfd1d5a905a50341ce7a249954ce514b1194df594364f06dd26aff", func := "arenanet/arenanetlaw07.ResolveSwapped", spec := "resolveSwapped", unfollowed := true, recurses := true, apart := false, narrowed := true }
def ResolveSwappedUptoSaid : Prop := resolveSwappedUptoRow.holds Try.pinned (OpenSpec.upto resolveSwappedSpec)

/-- 'arenanetlaw07.ResolveShifted', WHERE WHAT IT READS IS OF BULK AT MOST 1048576: true; the input reads as it did. -/
def resolveShiftedUptoRow : OpenClaim := { program := "ytihoanoanoaneaa", sum := "af60b3203fdfd1d5a905a50341ce7a249954ce514b1194df594364f06dd26aff", func := "arenanet/arenanetlaw07.ResolveShifted", spec := "resolveShifted", unfollowed := true, recurses := true, apart := false, narrowed := true }
def ResolveShiftedUptoSaid : Prop := resolveShiftedUptoRow.holds Try.pinned (OpenSpec.upto resolveShiftedSpec)

/-- 'arenanetlaw07.ResolveSeparates', WHERE WHAT IT READS IS OF BULK AT MOST 1048576: true; the input reads as it did. -/
def resolveSeparatesUptoRow : OpenClaim := { program := "ytihoanoanoaneaa", sum := "af60b3203fdfd1d5a905a50341ce7a249954ce514b1194df594364f06dd26aff", func := "arenanet/arenanetlaw07.ResolveSeparates", spec := "resolveSeparates", unfollowed := true, recurses := true, apart := false, narrowed := true }
def ResolveSeparatesUptoSaid : Prop := resolveSeparatesUptoRow.holds Try.pinned (OpenSpec.upto resolveSeparatesSpec)

end Rows
end Go.Proofs.Ytihoanoanoaneaa
