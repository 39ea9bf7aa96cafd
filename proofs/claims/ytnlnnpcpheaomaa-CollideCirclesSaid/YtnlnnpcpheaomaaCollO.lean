/- Package collide: two circles. -/
import Derived.Test.YtnlnnpcpheaomaaCollN
namespace Go.Proofs.Ytnlnnpcpheaomaa
open Go.ChangeShapes Go.WideShapes Go.ChangeAt Go.RowKit Go.Shelf
open Fxm
set_option linter.unusedSimpArgs false
set_option linter.unusedVariables false

theorem circ_axis (r t : Int) (p q : Int × Int) (hL : 1024 ≤ isq ((q.1 - p.1) * (q.1 - p.1) + (q.2 - p.2) * (q.2 - p.2))) : axisV (.c r) (.c t) p q 0 = nrm (q.1 - p.1, q.2 - p.2) := by
  unfold axisV
  rw [show dirV (.c r) (.c t) p q 0 = (q.1 - p.1, q.2 - p.2) from rfl]
  unfold axV
  rw [if_neg]
  rintro ⟨h1, h2⟩
  have hb := (between hL).1
  unfold nrm at h1 h2
  simp only at h1 h2
  rw [h1, h2] at hb
  simp only [Int.mul_zero, Int.add_zero] at hb
  omega

theorem circ_gap {r t : Int} {p q : Int × Int} (hL : 1024 ≤ isq ((q.1 - p.1) * (q.1 - p.1) + (q.2 - p.2) * (q.2 - p.2))) :
    ∃ P Q : Int, dpt (.c r) (.c t) p q 0 = min (P + r) (Q + t) - max (P - r) (Q - t) ∧
      1022 * isq ((q.1 - p.1) * (q.1 - p.1) + (q.2 - p.2) * (q.2 - p.2)) - 1023 ≤ 1024 * (Q - P) ∧ 1024 * (Q - P) ≤ 1026 * isq ((q.1 - p.1) * (q.1 - p.1) + (q.2 - p.2) * (q.2 - p.2)) + 2048 + 1023 := by
  obtain ⟨hb1, hb2⟩ := between hL
  refine ⟨flr (p.1 * (nrm (q.1 - p.1, q.2 - p.2)).1 + p.2 * (nrm (q.1 - p.1, q.2 - p.2)).2) 1024, flr (q.1 * (nrm (q.1 - p.1, q.2 - p.2)).1 + q.2 * (nrm (q.1 - p.1, q.2 - p.2)).2) 1024, ?_, ?_⟩
  · unfold dpt
    rw [circ_axis r t p q hL]
    rfl
  · have e1 : (nrm (q.1 - p.1, q.2 - p.2)).1 = flr ((q.1 - p.1) * 1024) (isq ((q.1 - p.1) * (q.1 - p.1) + (q.2 - p.2) * (q.2 - p.2))) := rfl
    have e2 : (nrm (q.1 - p.1, q.2 - p.2)).2 = flr ((q.2 - p.2) * 1024) (isq ((q.1 - p.1) * (q.1 - p.1) + (q.2 - p.2) * (q.2 - p.2))) := rfl
    rw [← e1, ← e2] at hb1 hb2
    clear e1 e2
    generalize (nrm (q.1 - p.1, q.2 - p.2)).1 = a at *
    generalize (nrm (q.1 - p.1, q.2 - p.2)).2 = b at *
    generalize isq ((q.1 - p.1) * (q.1 - p.1) + (q.2 - p.2) * (q.2 - p.2)) = L at *
    rw [Int.sub_mul, Int.sub_mul] at hb1 hb2
    obtain ⟨k1, k2⟩ := flr_spec_pos (a := p.1 * a + p.2 * b) (b := 1024) (by omega)
    obtain ⟨k3, k4⟩ := flr_spec_pos (a := q.1 * a + q.2 * b) (b := 1024) (by omega)
    generalize flr (p.1 * a + p.2 * b) 1024 = P at *
    generalize flr (q.1 * a + q.2 * b) 1024 = Q at *
    generalize p.1 * a = m1 at *
    generalize p.2 * b = m2 at *
    generalize q.1 * a = m3 at *
    generalize q.2 * b = m4 at *
    omega

theorem circ_col {r t : Int} (hr : 1024 ≤ r) (ht : 1024 ≤ t) {p q : Int × Int} {L : Int} (hLe : L = isq ((q.1 - p.1) * (q.1 - p.1) + (q.2 - p.2) * (q.2 - p.2))) (hL : 1024 ≤ L) :
    (colB (.c r) (.c t) p q = true ∧ (colN (.c r) (.c t) p q).2.2 ≤ r + t - L + (L / 256 + 3) ∧ L < r + t + (L / 256 + 3)) ∨ (colB (.c r) (.c t) p q = false ∧ r + t - (L / 256 + 3) < L) := by
  have hL' : 1024 ≤ isq ((q.1 - p.1) * (q.1 - p.1) + (q.2 - p.2) * (q.2 - p.2)) := by omega
  obtain ⟨P, Q, hd, hg1, hg2⟩ := circ_gap (r := r) (t := t) hL'
  rw [← hLe] at hg1 hg2
  by_cases hh : Hit (.c r) (.c t) p q
  · obtain ⟨a, b⟩ := col_yes hh
    rw [a, b]
    have hD : hitD (.c r) (.c t) p q = dpt (.c r) (.c t) p q 0 := rfl
    have hpos : 0 < dpt (.c r) (.c t) p q 0 := by
      by_cases h0 : 0 < dpt (.c r) (.c t) p q 0
      · exact h0
      · exact absurd ⟨0, by show 0 < 1; omega, by omega⟩ hh.2
    refine .inl ⟨rfl, ?_, ?_⟩
    · show hitD (.c r) (.c t) p q ≤ _
      rw [hD, hd]
      omega
    · rw [hd] at hpos
      omega
  · refine .inr ⟨(col_no hh).2, ?_⟩
    by_cases ho : Bo.Ov (bxS (.c r) p) (bxS (.c t) q)
    · have hA : Apart (.c r) (.c t) p q := Classical.byContradiction fun x => hh ⟨ho, x⟩
      obtain ⟨k, hk, hdk⟩ := hA
      obtain rfl : k = 0 := by have : k < 1 := hk; omega
      rw [hd] at hdk
      omega
    · have hx := Vcm.mul_self_nonneg (q.1 - p.1)
      have hy := Vcm.mul_self_nonneg (q.2 - p.2)
      obtain ⟨n1, n2⟩ := isq_spec (n := (q.1 - p.1) * (q.1 - p.1) + (q.2 - p.2) * (q.2 - p.2)) (by omega)
      rw [← hLe] at n1 n2
      have x1 := Vcm.abs_lt_of_sq (x := q.1 - p.1) (m := L + 1) (by omega) (by omega)
      have y1 := Vcm.abs_lt_of_sq (x := q.2 - p.2) (m := L + 1) (by omega) (by omega)
      unfold Bo.Ov bxS at ho
      simp only [Sp.xa, Sp.ya, Sp.xb, Sp.yb] at ho
      omega
end Go.Proofs.Ytnlnnpcpheaomaa
