/- What the laws need of generated shapes: shifts, midpoints, bounds of projections. -/
import Derived.Test.YtknjdkgemkmoeaaShapeJ
namespace Go.Proofs.Ytknjdkgemkmoeaa
open Go.ChangeShapes Go.WideShapes Go.ChangeAt Go.RowKit
open Fxm
set_option linter.unusedSimpArgs false
set_option linter.unusedVariables false

theorem flr_shift (a k : Int) : flr (a + 1024 * k) 1024 = flr a 1024 + k := by
  have s := flr_spec_pos (a := a + 1024 * k) (b := 1024) (by omega)
  have t := flr_spec_pos (a := a) (b := 1024) (by omega)
  omega
theorem dotV_shift (q0 q1 a0 a1 i k : Int) (p : Int × Int) : dotV (q0 + i * 1024) (q1 + k * 1024) a0 a1 p = (i * a0 + k * a1) + dotV q0 q1 a0 a1 p := by
  unfold dotV
  rw [show (q0 + i * 1024 + p.1) * a0 + (q1 + k * 1024 + p.2) * a1 = ((q0 + p.1) * a0 + (q1 + p.2) * a1) + 1024 * (i * a0 + k * a1) by grind, flr_shift]
  omega
section
variable {w : World} {s : Sp}
theorem Sh.pl_shift (s : Sp) (q0 q1 a0 a1 i k : Int) : s.pl (q0 + i * 1024) (q1 + k * 1024) a0 a1 = s.pl q0 q1 a0 a1 + (i * a0 + k * a1) := by
  cases s with
  | c r =>
    simp only [Sp.pl]
    rw [show (q0 + i * 1024) * a0 + (q1 + k * 1024) * a1 = (q0 * a0 + q1 * a1) + 1024 * (i * a0 + k * a1) by grind, flr_shift]
    omega
  | p g cap vs =>
    simp only [Sp.pl]
    rw [show dotV (q0 + i * 1024) (q1 + k * 1024) a0 a1 = fun p => (i * a0 + k * a1) + dotV q0 q1 a0 a1 p from funext fun p => dotV_shift q0 q1 a0 a1 i k p, lo_shift _ (dotV q0 q1 a0 a1) vs _ (Nat.le_refl _)]
    omega
theorem Sh.ph_shift (s : Sp) (q0 q1 a0 a1 i k : Int) : s.ph (q0 + i * 1024) (q1 + k * 1024) a0 a1 = s.ph q0 q1 a0 a1 + (i * a0 + k * a1) := by
  cases s with
  | c r =>
    simp only [Sp.ph]
    rw [show (q0 + i * 1024) * a0 + (q1 + k * 1024) * a1 = (q0 * a0 + q1 * a1) + 1024 * (i * a0 + k * a1) by grind, flr_shift]
    omega
  | p g cap vs =>
    simp only [Sp.ph]
    rw [show dotV (q0 + i * 1024) (q1 + k * 1024) a0 a1 = fun p => (i * a0 + k * a1) + dotV q0 q1 a0 a1 p from funext fun p => dotV_shift q0 q1 a0 a1 i k p, hi_shift _ (dotV q0 q1 a0 a1) vs _ (Nat.le_refl _)]
    omega
theorem dot_bd {q0 q1 a0 a1 : Int} (h0 : Bd q0) (h1 : Bd q1) (h2 : Bd a0) (h3 : Bd a1) : -2251799813685248 ≤ flr (q0 * a0 + q1 * a1) 1024 ∧ flr (q0 * a0 + q1 * a1) 1024 ≤ 2251799813685248 := by
  have p0 := prod25 h0 h2
  have p1 := prod25 h1 h3
  have := flr_bd1024 (a := q0 * a0 + q1 * a1) (M := 2251799813685248) (by omega) (by omega)
  omega
theorem Sh.proj_bd (h : Sh w s) {q0 q1 a0 a1 : Int} (h0 : Bp q0) (h1 : Bp q1) (h2 : Bd a0) (h3 : Bd a1) : (-2251799813785248 ≤ s.pl q0 q1 a0 a1 ∧ s.pl q0 q1 a0 a1 ≤ 2251799813785248) ∧ (-2251799813785248 ≤ s.ph q0 q1 a0 a1 ∧ s.ph q0 q1 a0 a1 ≤ 2251799813785248) := by
  cases s with
  | c r =>
    have := dot_bd h0.bd h1.bd h2 h3
    obtain ⟨r1, r2⟩ := h
    simp only [Sp.pl, Sp.ph]
    omega
  | p g cap vs =>
    have hG := h.2
    have hl := hG.lo
    have hb : ∀ i, i < vs.length → -2251799813685248 ≤ dotV q0 q1 a0 a1 (at' vs i) ∧ dotV q0 q1 a0 a1 (at' vs i) ≤ 2251799813685248 := fun i hi => by
      obtain ⟨b0, b1⟩ := hG.small i hi
      exact dot_bd (h0.add b0) (h1.add b1) h2 h3
    have b1 := lo_bd (f := dotV q0 q1 a0 a1) (vs := vs) (by omega) hb vs.length (Nat.le_refl _)
    have b2 := hi_bd (f := dotV q0 q1 a0 a1) (vs := vs) (by omega) hb vs.length (Nat.le_refl _)
    simp only [Sp.pl, Sp.ph]
    omega
theorem sq_mid {p q m r : Int} {p' q' m' : Int} (h1 : 2 * m = p + q) (h2 : 2 * m' = p' + q') (hp : p * p + p' * p' ≤ r) (hq : q * q + q' * q' ≤ r) : m * m + m' * m' ≤ r := by
  have e1 : 4 * (m * m) = p * p + q * q + 2 * (p * q) := by
    have : (2 * m) * (2 * m) = (p + q) * (p + q) := by rw [h1]
    grind
  have e2 : 4 * (m' * m') = p' * p' + q' * q' + 2 * (p' * q') := by
    have : (2 * m') * (2 * m') = (p' + q') * (p' + q') := by rw [h2]
    grind
  have s1 : 2 * (p * q) ≤ p * p + q * q := by
    have := Vcm.mul_self_nonneg (p - q)
    grind
  have s2 : 2 * (p' * q') ≤ p' * p' + q' * q' := by
    have := Vcm.mul_self_nonneg (p' - q')
    grind
  omega
theorem Sh.mid (s : Sp) {p q m : Int × Int} (h1 : 2 * m.1 = p.1 + q.1) (h2 : 2 * m.2 = p.2 + q.2) (hp : s.ins p = true) (hq : s.ins q = true) : s.ins m = true := by
  cases s with
  | c r => exact decide_eq_true (sq_mid h1 h2 (of_decide_eq_true hp) (of_decide_eq_true hq))
  | p g cap vs => exact inside_mid h1 h2 hp hq
theorem Sh.origin (h : Sh w s) : s.ins (0, 0) = true := by
  cases s with
  | c r =>
    have := Vcm.mul_self_nonneg r
    exact decide_eq_true (by simp only; omega)
  | p g cap vs => exact h.2.origin
theorem pair_eq {a b c d : Int} (h1 : a = c) (h2 : b = d) : (a, b) = (c, d) := by rw [h1, h2]
end
end Go.Proofs.Ytknjdkgemkmoeaa
