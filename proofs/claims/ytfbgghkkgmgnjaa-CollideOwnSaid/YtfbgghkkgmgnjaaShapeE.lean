/- Package shape: isConvex. -/
import Derived.Test.YtfbgghkkgmgnjaaShapeB
namespace Go.Proofs.Ytfbgghkkgmgnjaa
open Go.ChangeShapes Go.WideShapes Go.ChangeAt Go.RowKit Go.Shelf
open Fxm
set_option linter.unusedSimpArgs false
set_option linter.unusedVariables false
attribute [local go_sem] Oper.semAt_some

/-- The slice of n = vs.length vertices that starts at cell off of block g, of capacity cap, holds vs. -/
structure RowO (w : World) (g off cap : Nat) (vs : List (Int × Int)) : Prop where
  le : vs.length ≤ cap
  max : cap ≤ maxLen
  cells : ∀ i u, (flatV vs)[i]? = some u → w.cell? ⟨g, off + i, none⟩ = some u
theorem RowO.carry {w w' : World} {g off cap : Nat} {vs : List (Int × Int)} (h : RowO w g off cap vs) (hb : Below w.heap.size w w') : RowO w' g off cap vs :=
  ⟨h.le, h.max, fun i u hu => Proofs.Ytfbgghkkgmgnjaa.carry hb (h.cells i u hu)⟩
theorem Row.o {w : World} {g cap : Nat} {vs : List (Int × Int)} (h : Row w g cap vs) : RowO w g 0 cap vs := ⟨h.le, h.max, fun i u hu => by rw [Nat.zero_add]; exact h.cells i u hu⟩
theorem RowO.at {w : World} {g off cap : Nat} {vs : List (Int × Int)} (h : RowO w g off cap vs) {i : Nat} (hi : i < vs.length) :
    w.cell? ⟨g, off + i * 2, none⟩ = some (.int .i64 (at' vs i).1) ∧ w.cell? ⟨g, off + i * 2 + 1, none⟩ = some (.int .i64 (at' vs i).2) := by
  have := flatV_at vs i hi
  have e : at' vs i = vs[i] := by unfold at'; rw [List.getD_eq_getElem?_getD, List.getElem?_eq_getElem hi]; rfl
  rw [e]
  exact ⟨h.cells _ _ this.1, by rw [Nat.add_assoc]; exact h.cells _ _ this.2⟩

/-- The origin and all other vertices lie strictly to the left of edge c. -/
def EdgeOk (vs : List (Int × Int)) (c : Nat) : Prop :=
  0 < leftV (at' vs c) (at' vs ((c + 1) % vs.length)) (0, 0) ∧ ∀ j, j < vs.length → j ≠ c → j ≠ (c + 1) % vs.length → 0 < leftV (at' vs c) (at' vs ((c + 1) % vs.length)) (at' vs j)
def Convex (vs : List (Int × Int)) : Prop := ∀ c, c < vs.length → EdgeOk vs c
section
open Classical in
noncomputable def convexB (vs : List (Int × Int)) : Bool := if Convex vs then true else false
end
theorem convex_true {vs : List (Int × Int)} (h : Convex vs) : convexB vs = true := by unfold convexB; rw [if_pos h]
theorem convex_false {vs : List (Int × Int)} {c : Nat} (hc : c < vs.length) (h : ¬ EdgeOk vs c) : convexB vs = false := by unfold convexB; rw [if_neg fun k => h (k c hc)]
theorem small_bq {x : Int} (hx : -32768 ≤ x ∧ x ≤ 32768) : Bq x := by unfold Bq; omega
theorem bq_zero : Bq 0 := by unfold Bq; omega

end Go.Proofs.Ytfbgghkkgmgnjaa
