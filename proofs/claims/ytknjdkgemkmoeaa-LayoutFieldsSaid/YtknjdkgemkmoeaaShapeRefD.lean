/- The reference's queries: left, Contains. -/
import Derived.Test.YtknjdkgemkmoeaaShapeRefC
namespace Go.Proofs.Ytknjdkgemkmoeaa
open Go.ChangeShapes Go.WideShapes Go.ChangeAt Go.RowKit
open Fxm
set_option linter.unusedSimpArgs false
set_option linter.unusedVariables false

/-- 2^26. -/
def Bq (a : Int) : Prop := -67108864 ≤ a ∧ a ≤ 67108864
theorem Bd.bq {a : Int} (h : Bd a) : Bq a := by unfold Bd at h; unfold Bq; omega
theorem prod27 {a b : Int} (a1 : -134217728 ≤ a) (a2 : a ≤ 134217728) (b1 : -134217728 ≤ b) (b2 : b ≤ 134217728) : -18014398509481984 ≤ a * b ∧ a * b ≤ 18014398509481984 := by
  have := prod_bd (a := a) (b := b) (A := 134217728) (B := 134217728) (by omega) (by omega) a1 a2 b1 b2
  omega
def leftV (v w p : Int × Int) : Int := (w.1 - v.1) * (p.2 - v.2) - (w.2 - v.2) * (p.1 - v.1)

theorem left_any (v0 v1 w0 w1 p0 p1 : Int) (w : World) (hv0 : Bq v0) (hv1 : Bq v1) (hw0 : Bq w0) (hw1 : Bq w1) (hp0 : Bq p0) (hp1 : Bq p1) :
    Calls Try.prog 98 #[.agg #[.int .i64 v0, .int .i64 v1], .agg #[.int .i64 w0, .int .i64 w1], .agg #[.int .i64 p0, .int .i64 p1]] w fun e w' =>
      e = .returned (.int .i64 (leftV (v0, v1) (w0, w1) (p0, p1))) ∧ Below w.heap.size w w' := by
  unfold Bq at *
  have p1 := prod27 (a := w0 - v0) (b := p1 - v1) (by omega) (by omega) (by omega) (by omega)
  have p2 := prod27 (a := w1 - v1) (b := p0 - v0) (by omega) (by omega) (by omega) (by omega)
  go_enter Try.func98, Try.ntmps98
  go_wp2
  go_ret
  refine ⟨rfl, ?_⟩
  repeat (first | exact Below.refl _ _ | (refine Below.setCell ?_ (by first | (simp; done) | (simp; omega) | omega) _) | (refine Below.alloc ?_ (by first | exact Nat.le_refl _ | (simp; done) | (simp; omega) | omega) _) | refine Below.drew ?_ | (refine Below.trans ?_ ((hb _).mono (by first | (simp; done) | (simp; omega) | omega))) | (refine Below.trans ?_ (hb1.mono (by first | (simp; done) | (simp; omega) | omega))))

def at' (vs : List (Int × Int)) (i : Nat) : Int × Int := vs.getD i (0, 0)
/-- d lies on or to the left of every edge. -/
def insideB (vs : List (Int × Int)) (d : Int × Int) : Bool := (List.range vs.length).all fun i => decide (0 ≤ leftV (at' vs i) (at' vs ((i + 1) % vs.length)) d)
theorem inside_true {vs : List (Int × Int)} {d : Int × Int} (h : ∀ i, i < vs.length → 0 ≤ leftV (at' vs i) (at' vs ((i + 1) % vs.length)) d) : insideB vs d = true := by
  unfold insideB; rw [List.all_eq_true]; intro i hi; exact decide_eq_true (h i (List.mem_range.1 hi))
theorem inside_false {vs : List (Int × Int)} {d : Int × Int} {i : Nat} (hi : i < vs.length) (h : leftV (at' vs i) (at' vs ((i + 1) % vs.length)) d < 0) : insideB vs d = false := by
  cases hb : insideB vs d with
  | false => rfl
  | true =>
    unfold insideB at hb
    rw [List.all_eq_true] at hb
    have := of_decide_eq_true (hb i (List.mem_range.2 hi))
    omega
/-- Every vertex' components are at most 2^15. -/
def Small (vs : List (Int × Int)) : Prop := ∀ i, i < vs.length → (-32768 ≤ (at' vs i).1 ∧ (at' vs i).1 ≤ 32768) ∧ (-32768 ≤ (at' vs i).2 ∧ (at' vs i).2 ≤ 32768)
theorem Row.at {w : World} {g cap : Nat} {vs : List (Int × Int)} (h : Row w g cap vs) {i : Nat} (hi : i < vs.length) :
    w.cell? ⟨g, i * 2, none⟩ = some (.int .i64 (at' vs i).1) ∧ w.cell? ⟨g, i * 2 + 1, none⟩ = some (.int .i64 (at' vs i).2) := by
  have := flatV_at vs i hi
  have e : at' vs i = vs[i] := by unfold at'; rw [List.getD_eq_getElem?_getD, List.getElem?_eq_getElem hi]; rfl
  rw [e]
  exact ⟨h.cells _ _ this.1, h.cells _ _ this.2⟩

end Go.Proofs.Ytknjdkgemkmoeaa
