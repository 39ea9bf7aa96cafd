/-
  No cell of these rows narrows 'for every input' (looked for: loops, veiled, ifaces, maps, wideKeys, modest, calm, conditions, laid).
  DERIVED. THE GIVEN ROWS OF THIS SEAT. 8 by the template 'for every input the law returns true; each argument reads behind the call as it read before'; 0 by the template 'total and deterministic' (their statements: YtapbeeifffpdgaaTotals.lean).
  GIVEN WITH THE SEED: the statements are not yours to turn. If you find one false, say at which input.
  Laid BY PROGRAM, IN A SANDBOX (cutbox-rows.mjs): the forced cells as the released guide's own fill.sh prints them over the translation 33cd20198e765720… (all of the seat's roots in one cut). By AI agents, Wed Nov 11 2026. No macro, syntax, notation, axiom, sorry.
-/
import Derived.Test.YtapbeeifffpdgaaChecked
import GoSem.Claim
import GoSem.ClaimJoined
import GoSem.ClaimMapViews
import Derived.JoinedTies
import Derived.KernelRfl
namespace Go.Proofs.Ytapbeeifffpdgaa
/- THE CELL 'sum', in the pinned program and in every row, IS THE sha256 OF THE DUMP (.gsa) THAT YtapbeeifffpdgaaProg.lean LOADS. Nothing in Lean hashes anything: it is a label: what it is worth is what the hold of that sum in a sandbox is worth. -/
noncomputable def Try.pinned : Pinned := { name := "ytapbeeifffpdgaa", sum := "33cd20198e765720b1221a95fe81b76f9a8dd725dfe6f52b4577eb3abe972c37", checked := Try.checked }
namespace Rows
def none {H : Type} : Left H := { results := [], args := [] }

/-- 'arenanetlaw02.VecComponents': WHATEVER THE INPUT: true; the input reads as it did. -/
def vecComponentsSpec : ChangeSpec := { name := "vecComponents", fn := fun _ => fun
  | [d1, d2, d3] => { results := [.lit (.bool true)], args := [d1, d2, d3] }
  | _ => none }
def vecComponentsRow : OpenClaim := { program := "ytapbeeifffpdgaa", sum := "33cd20198e765720b1221a95fe81b76f9a8dd725dfe6f52b4577eb3abe972c37", func := "arenanet/arenanetlaw02.VecComponents", spec := "vecComponents", unfollowed := true, recurses := true, apart := false }
def VecComponentsSaid : Prop := vecComponentsRow.holds Try.pinned (OpenSpec.ofChange vecComponentsSpec)

/-- ITS FALSE NEIGHBOUR: 'it returns false'. Refute it at one input. -/
def vecComponentsWrong : ChangeSpec := { name := "vecComponents", fn := fun _ => fun
  | [d1, d2, d3] => { results := [.lit (.bool false)], args := [d1, d2, d3] }
  | _ => none }
def VecComponentsWrongFalsely : Prop := vecComponentsRow.holds Try.pinned (OpenSpec.ofChange vecComponentsWrong)

/-- 'arenanetlaw02.VecProducts': WHATEVER THE INPUT: true; the input reads as it did. -/
def vecProductsSpec : ChangeSpec := { name := "vecProducts", fn := fun _ => fun
  | [d] => { results := [.lit (.bool true)], args := [d] }
  | _ => none }
def vecProductsRow : OpenClaim := { program := "ytapbeeifffpdgaa", sum := "33cd20198e765720b1221a95fe81b76f9a8dd725dfe6f52b4577eb3abe972c37", func := "arenanet/arenanetlaw02.VecProducts", spec := "vecProducts", unfollowed := true, recurses := true, apart := false }
def VecProductsSaid : Prop := vecProductsRow.holds Try.pinned (OpenSpec.ofChange vecProductsSpec)

/-- ITS FALSE NEIGHBOUR: 'it returns false'. Refute it at one input. -/
def vecProductsWrong : ChangeSpec := { name := "vecProducts", fn := fun _ => fun
  | [d] => { results := [.lit (.bool false)], args := [d] }
  | _ => none }
def VecProductsWrongFalsely : Prop := vecProductsRow.holds Try.pinned (OpenSpec.ofChange vecProductsWrong)

/-- 'arenanetlaw02.VecGroup': WHATEVER THE INPUT: true; the input reads as it did. -/
def vecGroupSpec : ChangeSpec := { name := "vecGroup", fn := fun _ => fun
  | [d] => { results := [.lit (.bool true)], args := [d] }
  | _ => none }
def vecGroupRow : OpenClaim := { program := "ytapbeeifffpdgaa", sum := "33cd20198e765720b1221a95fe81b76f9a8dd725dfe6f52b4577eb3abe972c37", func := "arenanet/arenanetlaw02.VecGroup", spec := "vecGroup", unfollowed := true, recurses := true, apart := false }
def VecGroupSaid : Prop := vecGroupRow.holds Try.pinned (OpenSpec.ofChange vecGroupSpec)

/-- ITS FALSE NEIGHBOUR: 'it returns false'. Refute it at one input. -/
def vecGroupWrong : ChangeSpec := { name := "vecGroup", fn := fun _ => fun
  | [d] => { results := [.lit (.bool false)], args := [d] }
  | _ => none }
def VecGroupWrongFalsely : Prop := vecGroupRow.holds Try.pinned (OpenSpec.ofChange vecGroupWrong)

/-- 'arenanetlaw02.VecPerp': WHATEVER THE INPUT: true; the input reads as it did. -/
def vecPerpSpec : ChangeSpec := { name := "vecPerp", fn := fun _ => fun
  | [d] => { results := [.lit (.bool true)], args := [d] }
  | _ => none }
def vecPerpRow : OpenClaim := { program := "ytapbeeifffpdgaa", sum := "33cd20198e765720b1221a95fe81b76f9a8dd725dfe6f52b4577eb3abe972c37", func := "arenanet/arenanetlaw02.VecPerp", spec := "vecPerp", unfollowed := true, recurses := true, apart := false }
def VecPerpSaid : Prop := vecPerpRow.holds Try.pinned (OpenSpec.ofChange vecPerpSpec)

/-- ITS FALSE NEIGHBOUR: 'it returns false'. Refute it at one input. -/
def vecPerpWrong : ChangeSpec := { name := "vecPerp", fn := fun _ => fun
  | [d] => { results := [.lit (.bool false)], args := [d] }
  | _ => none }
def VecPerpWrongFalsely : Prop := vecPerpRow.holds Try.pinned (OpenSpec.ofChange vecPerpWrong)

/-- 'arenanetlaw02.VecCauchy': WHATEVER THE INPUT: true; the input reads as it did. -/
def vecCauchySpec : ChangeSpec := { name := "vecCauchy", fn := fun _ => fun
  | [d] => { results := [.lit (.bool true)], args := [d] }
  | _ => none }
def vecCauchyRow : OpenClaim := { program := "ytapbeeifffpdgaa", sum := "33cd20198e765720b1221a95fe81b76f9a8dd725dfe6f52b4577eb3abe972c37", func := "arenanet/arenanetlaw02.VecCauchy", spec := "vecCauchy", unfollowed := true, recurses := true, apart := false }
def VecCauchySaid : Prop := vecCauchyRow.holds Try.pinned (OpenSpec.ofChange vecCauchySpec)

/-- ITS FALSE NEIGHBOUR: 'it returns false'. Refute it at one input. -/
def vecCauchyWrong : ChangeSpec := { name := "vecCauchy", fn := fun _ => fun
  | [d] => { results := [.lit (.bool false)], args := [d] }
  | _ => none }
def VecCauchyWrongFalsely : Prop := vecCauchyRow.holds Try.pinned (OpenSpec.ofChange vecCauchyWrong)

/-- 'arenanetlaw02.VecTriangle': WHATEVER THE INPUT: true; the input reads as it did. -/
def vecTriangleSpec : ChangeSpec := { name := "vecTriangle", fn := fun _ => fun
  | [d] => { results := [.lit (.bool true)], args := [d] }
  | _ => none }
def vecTriangleRow : OpenClaim := { program := "ytapbeeifffpdgaa", sum := "33cd20198e765720b1221a95fe81b76f9a8dd725dfe6f52b4577eb3abe972c37", func := "arenanet/arenanetlaw02.VecTriangle", spec := "vecTriangle", unfollowed := true, recurses := true, apart := false }
def VecTriangleSaid : Prop := vecTriangleRow.holds Try.pinned (OpenSpec.ofChange vecTriangleSpec)

/-- ITS FALSE NEIGHBOUR: 'it returns false'. Refute it at one input. -/
def vecTriangleWrong : ChangeSpec := { name := "vecTriangle", fn := fun _ => fun
  | [d] => { results := [.lit (.bool false)], args := [d] }
  | _ => none }
def VecTriangleWrongFalsely : Prop := vecTriangleRow.holds Try.pinned (OpenSpec.ofChange vecTriangleWrong)

/-- 'arenanetlaw02.VecUnit': WHATEVER THE INPUT: true; the input reads as it did. -/
def vecUnitSpec : ChangeSpec := { name := "vecUnit", fn := fun _ => fun
  | [d] => { results := [.lit (.bool true)], args := [d] }
  | _ => none }
def vecUnitRow : OpenClaim := { program := "ytapbeeifffpdgaa", sum := "33cd20198e765720b1221a95fe81b76f9a8dd725dfe6f52b4577eb3abe972c37", func := "arenanet/arenanetlaw02.VecUnit", spec := "vecUnit", unfollowed := true, recurses := true, apart := false }
def VecUnitSaid : Prop := vecUnitRow.holds Try.pinned (OpenSpec.ofChange vecUnitSpec)

/-- ITS FALSE NEIGHBOUR: 'it returns false'. Refute it at one input. -/
def vecUnitWrong : ChangeSpec := { name := "vecUnit", fn := fun _ => fun
  | [d] => { results := [.lit (.bool false)], args := [d] }
  | _ => none }
def VecUnitWrongFalsely : Prop := vecUnitRow.holds Try.pinned (OpenSpec.ofChange vecUnitWrong)

/-- 'arenanetlaw02.VecScales': WHATEVER THE INPUT: true; the input reads as it did. -/
def vecScalesSpec : ChangeSpec := { name := "vecScales", fn := fun _ => fun
  | [d1, d2, d3] => { results := [.lit (.bool true)], args := [d1, d2, d3] }
  | _ => none }
def vecScalesRow : OpenClaim := { program := "ytapbeeifffpdgaa", sum := "33cd20198e765720b1221a95fe81b76f9a8dd725dfe6f52b4577eb3abe972c37", func := "arenanet/arenanetlaw02.VecScales", spec := "vecScales", unfollowed := true, recurses := true, apart := false }
def VecScalesSaid : Prop := vecScalesRow.holds Try.pinned (OpenSpec.ofChange vecScalesSpec)

/-- ITS FALSE NEIGHBOUR: 'it returns false'. Refute it at one input. -/
def vecScalesWrong : ChangeSpec := { name := "vecScales", fn := fun _ => fun
  | [d1, d2, d3] => { results := [.lit (.bool false)], args := [d1, d2, d3] }
  | _ => none }
def VecScalesWrongFalsely : Prop := vecScalesRow.holds Try.pinned (OpenSpec.ofChange vecScalesWrong)

/- THE SECOND FORM. 'bulk': how many values and letters a reading holds, each counted each time it is reached (what is shared counts as often as it is met; a slice's spare places count too). A statement '..UptoSaid' is the law's where the arguments, and the package variables that the reading takes, are together of bulk at most 1048576: NARROWER than '..Said'. Prove '..Said' where nothing that the law and all that it calls make is longer than what came in: it says more and counts as full. Else prove '..UptoSaid'. A law counts once. -/
mutual
def uptoBulk {H : Type} : DataW H → Nat
  | .lit (.string bytes) => bytes.length + 1
  | .lit _ => 1
  | .nil => 1
  | .ptr d => uptoBulk d + 1
  | .slice elems spare => uptoBulkAll elems + uptoBulkAll spare + 1
  | .agg parts => uptoBulkAll parts + 1
  | .iface _ d => uptoBulk d + 1
  | .map entries => uptoBulkEntries entries + 1
  | .held _ => 1
def uptoBulkAll {H : Type} : List (DataW H) → Nat
  | [] => 0
  | d :: r => uptoBulk d + uptoBulkAll r
def uptoBulkEntries {H : Type} : List (Lit × DataW H) → Nat
  | [] => 0
  | x :: r => uptoBulkEntry x + uptoBulkEntries r
def uptoBulkEntry {H : Type} : Lit × DataW H → Nat
  | (.string bytes, d) => bytes.length + uptoBulk d + 1
  | (_, d) => uptoBulk d + 1
 end
def uptoSmall : (H : Type) → List (DataW H) → Bool := fun _ ds => decide (uptoBulkAll ds ≤ 1048576)
def OpenSpec.upto (s : _root_.Go.ChangeSpec) : _root_.Go.OpenSpec := { _root_.Go.OpenSpec.ofChange s with cond := some uptoSmall }

/-- 'arenanetlaw02.VecComponents', WHERE WHAT IT READS IS OF BULK AT MOST 1048576: true; the input reads as it did. -/
def vecComponentsUptoRow : OpenClaim := { program := "ytapbeeifffpdgaa", sum := "33cd20198e765720b1221a95fe81b76f9a8dd725dfe6f52b4577eb3abe972c37", func := "arenanet/arenanetlaw02.VecComponents", spec := "vecComponents", unfollowed := true, recurses := true, apart := false, narrowed := true }
def VecComponentsUptoSaid : Prop := vecComponentsUptoRow.holds Try.pinned (OpenSpec.upto vecComponentsSpec)

/-- 'arenanetlaw02.VecProducts', WHERE WHAT IT READS IS OF BULK AT MOST 1048576: true; the input reads as it did. -/
def vecProductsUptoRow : OpenClaim := { program := "ytapbeeifffpdgaa", sum := "33cd20198e765720b1221a95fe81b76f9a8dd725dfe6f52b4577eb3abe972c37", func := "arenanet/arenanetlaw02.VecProducts", spec := "vecProducts", unfollowed := true, recurses := true, apart := false, narrowed := true }
def VecProductsUptoSaid : Prop := vecProductsUptoRow.holds Try.pinned (OpenSpec.upto vecProductsSpec)

/-- 'arenanetlaw02.VecGroup', WHERE WHAT IT READS IS OF BULK AT MOST 1048576: true; the input reads as it did. -/
def vecGroupUptoRow : OpenClaim := { program := "ytapbeeifffpdgaa", sum := "33cd20198e765720b1221a95fe81b76f9a8dd725dfe6f52b4577eb3abe972c37", func := "arenanet/arenanetlaw02.VecGroup", spec := "vecGroup", unfollowed := true, recurses := true, apart := false, narrowed := true }
def VecGroupUptoSaid : Prop := vecGroupUptoRow.holds Try.pinned (OpenSpec.upto vecGroupSpec)

/-- 'arenanetlaw02.VecPerp', WHERE WHAT IT READS IS OF BULK AT MOST 1048576: true; the input reads as it did. -/
def vecPerpUptoRow : OpenClaim := { program := "ytapbeeifffpdgaa", sum := "33cd20198e765720b1221a95fe81b76f9a8dd725dfe6f52b4577eb3abe972c37", func := "arenanet/arenanetlaw02.VecPerp", spec := "vecPerp", unfollowed := true, recurses := true, apart := false, narrowed := true }
def VecPerpUptoSaid : Prop := vecPerpUptoRow.holds Try.pinned (OpenSpec.upto vecPerpSpec)

/-- 'arenanetlaw02.VecCauchy', WHERE WHAT IT READS IS OF BULK AT MOST 1048576: true; the input reads as it did. -/
def vecCauchyUptoRow : OpenClaim := { program := "ytapbeeifffpdgaa", sum := "33cd20198e765720b1221a95fe81b76f9a8dd725dfe6f52b4577eb3abe972c37", func := "arenanet/arenanetlaw02.VecCauchy", spec := "vecCauchy", unfollowed := true, recurses := true, apart := false, narrowed := true }
def VecCauchyUptoSaid : Prop := vecCauchyUptoRow.holds Try.pinned (OpenSpec.upto vecCauchySpec)

/-- 'arenanetlaw02.VecTriangle', WHERE WHAT IT READS IS OF BULK AT MOST 1048576: true; the input reads as it did. -/
def vecTriangleUptoRow : OpenClaim := { program := "ytapbeeifffpdgaa", sum := "33cd20198e765720b1221a95fe81b76f9a8dd725dfe6f52b4577eb3abe972c37", func := "arenanet/arenanetlaw02.VecTriangle", spec := "vecTriangle", unfollowed := true, recurses := true, apart := false, narrowed := true }
def VecTriangleUptoSaid : Prop := vecTriangleUptoRow.holds Try.pinned (OpenSpec.upto vecTriangleSpec)

/-- 'arenanetlaw02.VecUnit', WHERE WHAT IT READS IS OF BULK AT MOST 1048576: true; the input reads as it did. -/
def vecUnitUptoRow : OpenClaim := { program := "ytapbeeifffpdgaa", sum := "33cd20198e765720b1221a95fe81b76f9a8dd725dfe6f52b4577eb3abe972c37", func := "arenanet/arenanetlaw02.VecUnit", spec := "vecUnit", unfollowed := true, recurses := true, apart := false, narrowed := true }
def VecUnitUptoSaid : Prop := vecUnitUptoRow.holds Try.pinned (OpenSpec.upto vecUnitSpec)

/-- 'arenanetlaw02.VecScales', WHERE WHAT IT READS IS OF BULK AT MOST 1048576: true; the input reads as it did. -/
def vecScalesUptoRow : OpenClaim := { program := "ytapbeeifffpdgaa", sum := "33cd20198e765720b1221a95fe81b76f9a8dd725dfe6f52b4577eb3abe972c37", func := "arenanet/arenanetlaw02.VecScales", spec := "vecScales", unfollowed := true, recurses := true, apart := false, narrowed := true }
def VecScalesUptoSaid : Prop := vecScalesUptoRow.holds Try.pinned (OpenSpec.upto vecScalesSpec)

end Rows
end Go.Proofs.Ytapbeeifffpdgaa
