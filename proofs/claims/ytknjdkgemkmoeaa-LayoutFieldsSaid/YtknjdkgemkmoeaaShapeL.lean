/- What the laws need of generated shapes: a covered point's projection; turned shapes. -/
import Derived.Test.YtknjdkgemkmoeaaShapeK
namespace Go.Proofs.Ytknjdkgemkmoeaa
open Go.ChangeShapes Go.WideShapes Go.ChangeAt Go.RowKit
open Fxm
set_option linter.unusedSimpArgs false
set_option linter.unusedVariables false

theorem flr_mono {a b : Int} (h : a ≤ b) : flr a 1024 ≤ flr b 1024 := by
  have s := flr_spec_pos (a := a) (b := 1024) (by omega)
  have t := flr_spec_pos (a := b) (b := 1024) (by omega)
  omega
theorem abs_of_sq {X K : Int} (hK : 0 ≤ K) (h : X * X ≤ K * K) : -K ≤ X ∧ X ≤ K := by
  constructor
  · rcases Int.lt_or_le X (-K) with h1 | h1
    · have := Int.mul_le_mul (show K + 1 ≤ -X by omega) (show K + 1 ≤ -X by omega) (by omega) (by omega)
      rw [Int.neg_mul_neg] at this
      have e : (K + 1) * (K + 1) = K * K + 2 * K + 1 := by grind
      omega
    · exact h1
  · rcases Int.lt_or_le K X with h1 | h1
    · have := Int.mul_le_mul (show K + 1 ≤ X by omega) (show K + 1 ≤ X by omega) (by omega) (by omega)
      have e : (K + 1) * (K + 1) = K * K + 2 * K + 1 := by grind
      omega
    · exact h1
theorem cauchy {m0 m1 a0 a1 r : Int} (hr : 0 ≤ r) (hm : m0 * m0 + m1 * m1 ≤ r * r) (ha : a0 * a0 + a1 * a1 ≤ 1048576) : -(1024 * r) ≤ m0 * a0 + m1 * a1 ∧ m0 * a0 + m1 * a1 ≤ 1024 * r := by
  refine abs_of_sq (by omega) ?_
  have h1 : (m0 * a0 + m1 * a1) * (m0 * a0 + m1 * a1) + (m0 * a1 - m1 * a0) * (m0 * a1 - m1 * a0) = (m0 * m0 + m1 * m1) * (a0 * a0 + a1 * a1) := by grind
  have h2 := Vcm.mul_self_nonneg (m0 * a1 - m1 * a0)
  have h3 := Vcm.mul_self_nonneg a0
  have h4 := Vcm.mul_self_nonneg a1
  have h5 : (m0 * m0 + m1 * m1) * (a0 * a0 + a1 * a1) ≤ (r * r) * 1048576 := Int.mul_le_mul hm ha (by omega) (Vcm.mul_self_nonneg r)
  have h6 : 1024 * r * (1024 * r) = r * r * 1048576 := by grind
  omega
section
variable {w : World} {s : Sp}
theorem Sh.proj_in (h : Sh w s) {m0 m1 : Int} (hin : s.ins (m0, m1) = true) (q0 q1 a0 a1 : Int) (ha : s.n = 0 → a0 * a0 + a1 * a1 ≤ 1048576) :
    s.pl q0 q1 a0 a1 ≤ flr ((q0 + m0) * a0 + (q1 + m1) * a1) 1024 ∧ flr ((q0 + m0) * a0 + (q1 + m1) * a1) 1024 ≤ s.ph q0 q1 a0 a1 := by
  cases s with
  | c r =>
    have hc := cauchy (by have := h.1; omega) (of_decide_eq_true hin) (ha rfl)
    have e : (q0 + m0) * a0 + (q1 + m1) * a1 = (q0 * a0 + q1 * a1) + (m0 * a0 + m1 * a1) := by grind
    have u := flr_mono (show (q0 + m0) * a0 + (q1 + m1) * a1 ≤ (q0 * a0 + q1 * a1) + 1024 * r by rw [e]; simp only at hc; omega)
    have v := flr_mono (show (q0 * a0 + q1 * a1) + 1024 * (-r) ≤ (q0 + m0) * a0 + (q1 + m1) * a1 by rw [e]; simp only at hc; omega)
    rw [flr_shift] at u v
    simp only [Sp.pl, Sp.ph]
    omega
  | p g cap vs =>
    have hG := h.2
    have hl := hG.lo
    obtain ⟨i, hi0, hi1⟩ := hG.support hin a0 a1
    obtain ⟨j, hj0, hj1⟩ := hG.support hin (-a0) (-a1)
    have u := le_hi (dotV q0 q1 a0 a1) (vs := vs) vs.length (Nat.le_refl _) i hi0
    have v := lo_le (dotV q0 q1 a0 a1) (vs := vs) vs.length (Nat.le_refl _) j hj0
    have e : ∀ p0 p1 : Int, (q0 + p0) * a0 + (q1 + p1) * a1 = (q0 * a0 + q1 * a1) + (a0 * p0 + a1 * p1) := fun p0 p1 => by grind
    have f : ∀ p0 p1 : Int, -a0 * p0 + -a1 * p1 = -(a0 * p0 + a1 * p1) := fun p0 p1 => by grind
    rw [f, f] at hj1
    have u' : flr ((q0 + m0) * a0 + (q1 + m1) * a1) 1024 ≤ dotV q0 q1 a0 a1 (at' vs i) := flr_mono (by rw [e, e]; simp only at hi1; omega)
    have v' : dotV q0 q1 a0 a1 (at' vs j) ≤ flr ((q0 + m0) * a0 + (q1 + m1) * a1) 1024 := flr_mono (by rw [e, e]; simp only at hj1; omega)
    simp only [Sp.pl, Sp.ph]
    omega
theorem small_axis {a0 a1 : Int} (h0 : -720 ≤ a0 ∧ a0 ≤ 720) (h1 : -720 ≤ a1 ∧ a1 ≤ 720) : a0 * a0 + a1 * a1 ≤ 1048576 := by
  have := prod_bd (a := a0) (b := a0) (A := 720) (B := 720) (by omega) (by omega) h0.1 h0.2 h0.1 h0.2
  have := prod_bd (a := a1) (b := a1) (A := 720) (B := 720) (by omega) (by omega) h1.1 h1.2 h1.1 h1.2
  omega
/-- A covered point lies within the bounds. -/
theorem Sh.ins_in (h : Sh w s) {m0 m1 : Int} (hin : s.ins (m0, m1) = true) : (s.xa ≤ m0 ∧ m0 ≤ s.xb) ∧ (s.ya ≤ m1 ∧ m1 ≤ s.yb) := by
  cases s with
  | c r =>
    have hd : m0 * m0 + m1 * m1 ≤ r * r := of_decide_eq_true hin
    have n0 := Vcm.mul_self_nonneg m0
    have n1 := Vcm.mul_self_nonneg m1
    have hr : 0 ≤ r := by have := h.1; omega
    exact ⟨abs_of_sq hr (by omega), abs_of_sq hr (by omega)⟩
  | p g cap vs =>
    have hG := h.2
    have hs : ∀ a b : Int, ∃ i, i < vs.length ∧ a * m0 + b * m1 ≤ a * (at' vs i).1 + b * (at' vs i).2 := fun a b => hG.support hin a b
    obtain ⟨i, hi0, hi1⟩ := hs 1 0
    obtain ⟨j, hj0, hj1⟩ := hs (-1) 0
    obtain ⟨k, hk0, hk1⟩ := hs 0 1
    obtain ⟨l, hl0, hl1⟩ := hs 0 (-1)
    have u1 := le_hi (fun p => p.1) (vs := vs) vs.length (Nat.le_refl _) i hi0
    have u2 := lo_le (fun p => p.1) (vs := vs) vs.length (Nat.le_refl _) j hj0
    have u3 := le_hi (fun p => p.2) (vs := vs) vs.length (Nat.le_refl _) k hk0
    have u4 := lo_le (fun p => p.2) (vs := vs) vs.length (Nat.le_refl _) l hl0
    simp only [Sp.xa, Sp.ya, Sp.xb, Sp.yb]
    omega
end
/-- Two shapes that answer alike. -/
def Alike (s t : Sp) : Prop := (∀ d, t.ins d = s.ins d) ∧ (∀ q0 q1 a0 a1, t.pl q0 q1 a0 a1 = s.pl q0 q1 a0 a1) ∧ (∀ q0 q1 a0 a1, t.ph q0 q1 a0 a1 = s.ph q0 q1 a0 a1) ∧ t.xa = s.xa ∧ t.ya = s.ya ∧ t.xb = s.xb ∧ t.yb = s.yb
theorem alike_rot {k g cap g' cap' : Nat} {vs : List (Int × Int)} (hk : k < vs.length) : Alike (.p g cap vs) (.p g' cap' (rot k vs)) := by
  have hl := rot_length (vs := vs) (Nat.le_of_lt hk)
  refine ⟨fun d => inside_rot hk d, fun q0 q1 a0 a1 => ?_, fun q0 q1 a0 a1 => ?_, ?_, ?_, ?_, ?_⟩
  · simp only [Sp.pl]; rw [hl]; exact lo_rot _ hk
  · simp only [Sp.ph]; rw [hl]; exact hi_rot _ hk
  · simp only [Sp.xa]; rw [hl]; exact lo_rot _ hk
  · simp only [Sp.ya]; rw [hl]; exact lo_rot _ hk
  · simp only [Sp.xb]; rw [hl]; exact hi_rot _ hk
  · simp only [Sp.yb]; rw [hl]; exact hi_rot _ hk
theorem alike_self (s : Sp) : Alike s s := ⟨fun _ => rfl, fun _ _ _ _ => rfl, fun _ _ _ _ => rfl, rfl, rfl, rfl, rfl⟩
end Go.Proofs.Ytknjdkgemkmoeaa
