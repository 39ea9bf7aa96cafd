/- Package collide: larger circles; two circles. -/
import Derived.Test.YtnlnnpcpheaomaaCollM
namespace Go.Proofs.Ytnlnnpcpheaomaa
open Go.ChangeShapes Go.WideShapes Go.ChangeAt Go.RowKit Go.Shelf
open Fxm
set_option linter.unusedSimpArgs false
set_option linter.unusedVariables false

theorem grow_axis (r r' : Int) (t : Sp) (p q : Int × Int) : axisV (.c r') t p q = axisV (.c r) t p q := by
  funext k
  unfold axisV dirV
  cases t <;> rfl
theorem grow_ndir (r r' : Int) (t : Sp) : ndir (.c r') t = ndir (.c r) t := rfl
theorem grow_dpt {r r' : Int} (h : r ≤ r') (t : Sp) (p q : Int × Int) (k : Nat) : dpt (.c r) t p q k ≤ dpt (.c r') t p q k := by
  unfold dpt
  rw [grow_axis r r']
  unfold depthV
  simp only [Sp.ph, Sp.pl]
  omega
theorem grow_hit {r r' : Int} (h : r ≤ r') {t : Sp} {p q : Int × Int} (hh : Hit (.c r) t p q) : Hit (.c r') t p q := by
  obtain ⟨ho, hn⟩ := hh
  refine ⟨?_, ?_⟩
  · unfold Bo.Ov bxS at *
    simp only [Sp.xa, Sp.ya, Sp.xb, Sp.yb] at *
    omega
  · rintro ⟨k, hk, hd⟩
    exact hn ⟨k, hk, Int.le_trans (grow_dpt h t p q k) hd⟩
theorem grow_depth {r r' : Int} (h : r ≤ r') {t : Sp} {p q : Int × Int} (hn : 1 ≤ ndir (.c r) t) : hitD (.c r) t p q ≤ hitD (.c r') t p q := by
  unfold hitD hitK
  rw [grow_ndir r r']
  refine Int.le_trans (bst_min (dpt (.c r) t p q) (ndir (.c r) t - 1) (bst (dpt (.c r') t p q) (ndir (.c r) t - 1)) (bst_le _ _)) (grow_dpt h t p q _)
theorem grow_col {r r' : Int} (h : r ≤ r') {t : Sp} {p q : Int × Int} (hn : 1 ≤ ndir (.c r) t) :
    colB (.c r) t p q = false ∨ (colB (.c r) t p q = true ∧ colB (.c r') t p q = true ∧ (colN (.c r) t p q).2.2 ≤ (colN (.c r') t p q).2.2) := by
  by_cases hh : Hit (.c r) t p q
  · obtain ⟨a, b⟩ := col_yes hh
    obtain ⟨c, d⟩ := col_yes (grow_hit h hh)
    rw [a, b, c, d]
    exact .inr ⟨rfl, rfl, grow_depth h hn⟩
  · exact .inl (col_no hh).2

/-! ### two circles -/
theorem part_low {L x a : Int} (hL : 0 < L) (h1 : L * a ≤ x * 1024) (h2 : x * 1024 < L * a + L) (hx : -L ≤ x ∧ x ≤ L) : 1024 * (x * x) - L * L ≤ L * (x * a) ∧ L * (x * a) ≤ 1024 * (x * x) + L * L := by
  have e1 : L * (x * a) = x * (L * a) := by grind
  have e2 : 1024 * (x * x) = x * (x * 1024) := by grind
  rw [e1, e2]
  obtain ⟨f, hf⟩ : ∃ f, f = x * 1024 - L * a := ⟨_, rfl⟩
  have e3 : L * a = x * 1024 - f := by omega
  rw [e3, Int.mul_sub]
  have hf1 : 0 ≤ f := by omega
  have hf2 : f ≤ L := by omega
  have hb := prod_bd (a := x) (b := f) (A := L) (B := L) (by omega) (by omega) hx.1 hx.2 (by omega) hf2
  omega
/-- The projections of two points, on the axis between them, differ by their distance, up to the rounding. -/
theorem between {dx dy : Int} (hL : 1024 ≤ isq (dx * dx + dy * dy)) :
    1024 * isq (dx * dx + dy * dy) - 2 * isq (dx * dx + dy * dy) ≤ dx * flr (dx * 1024) (isq (dx * dx + dy * dy)) + dy * flr (dy * 1024) (isq (dx * dx + dy * dy)) ∧
    dx * flr (dx * 1024) (isq (dx * dx + dy * dy)) + dy * flr (dy * 1024) (isq (dx * dx + dy * dy)) ≤ 1024 * isq (dx * dx + dy * dy) + 2048 + 2 * isq (dx * dx + dy * dy) := by
  have hx := Vcm.mul_self_nonneg dx
  have hy := Vcm.mul_self_nonneg dy
  obtain ⟨n1, n2⟩ := isq_spec (n := dx * dx + dy * dy) (by omega)
  generalize hn : dx * dx + dy * dy = n at *
  generalize isq n = L at *
  have hp : 0 < L := by omega
  have x1 := Vcm.abs_lt_of_sq (x := dx) (m := L + 1) (by omega) (by omega)
  have y1 := Vcm.abs_lt_of_sq (x := dy) (m := L + 1) (by omega) (by omega)
  obtain ⟨k1, k2⟩ := flr_spec_pos (a := dx * 1024) hp
  obtain ⟨k3, k4⟩ := flr_spec_pos (a := dy * 1024) hp
  generalize flr (dx * 1024) L = a at *
  generalize flr (dy * 1024) L = b at *
  obtain ⟨p1, p2⟩ := part_low hp k1 k2 ⟨by omega, by omega⟩
  obtain ⟨p3, p4⟩ := part_low hp k3 k4 ⟨by omega, by omega⟩
  have e : L * (dx * a + dy * b) = L * (dx * a) + L * (dy * b) := Int.mul_add _ _ _
  generalize dx * a + dy * b = S at *
  rw [sq_succ] at n2
  constructor
  · have : L * (1024 * L - 2 * L) ≤ L * S := by
      rw [show L * (1024 * L - 2 * L) = 1024 * (L * L) - 2 * (L * L) by grind]
      omega
    exact Int.le_of_mul_le_mul_left this hp
  · have : L * S ≤ L * (1024 * L + 2048 + 2 * L) := by
      rw [show L * (1024 * L + 2048 + 2 * L) = 1024 * (L * L) + 2048 * L + 2 * (L * L) by grind]
      omega
    exact Int.le_of_mul_le_mul_left this hp
end Go.Proofs.Ytnlnnpcpheaomaa
