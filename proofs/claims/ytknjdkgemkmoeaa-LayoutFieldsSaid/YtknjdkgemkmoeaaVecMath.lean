/- Plain facts on integers: Cauchy-Schwarz, the triangle, a normalized vector. -/
import Derived.Test.YtknjdkgemkmoeaaFixMath
namespace Vcm
open Fxm

theorem lagrange (a b c d : Int) : (a * c + b * d) * (a * c + b * d) + (a * d - b * c) * (a * d - b * c) = (a * a + b * b) * (c * c + d * d) := by
  grind
theorem mul_self_nonneg (a : Int) : 0 ≤ a * a := by
  rcases Int.le_total 0 a with h | h
  · exact Int.mul_nonneg h h
  · exact Int.mul_nonneg_of_nonpos_of_nonpos h h
/-- |x| < m, from squares. -/
theorem abs_lt_of_sq {x m : Int} (hm : 0 ≤ m) (h : x * x < m * m) : -m < x ∧ x < m := by
  refine ⟨?_, lt_of_sq hm h⟩
  have : -x < m := lt_of_sq hm (by rw [Int.neg_mul_neg]; exact h)
  omega
theorem abs_le_of_sq {x m : Int} (hm : 0 ≤ m) (h : x * x ≤ m * m) : -m ≤ x ∧ x ≤ m := by
  have := abs_lt_of_sq (x := x) (m := m + 1) (by omega) (by rw [sq_succ]; omega)
  omega

/-- The dot (or cross) product is below the product of the lengths, each raised by one. -/
theorem cauchy {a b c d x : Int} (h : x * x ≤ (a * a + b * b) * (c * c + d * d)) :
    -((isq (a * a + b * b) + 1) * (isq (c * c + d * d) + 1)) < x ∧ x < (isq (a * a + b * b) + 1) * (isq (c * c + d * d) + 1) := by
  have pa := mul_self_nonneg a
  have pb := mul_self_nonneg b
  have pc := mul_self_nonneg c
  have pd := mul_self_nonneg d
  have sa := isq_spec (n := a * a + b * b) (by omega)
  have sc := isq_spec (n := c * c + d * d) (by omega)
  have na := isq_nonneg (a * a + b * b)
  have nc := isq_nonneg (c * c + d * d)
  generalize isq (a * a + b * b) = l at *
  generalize isq (c * c + d * d) = k at *
  have hA : 0 ≤ a * a + b * b := by omega
  have hC : 0 ≤ c * c + d * d := by omega
  generalize a * a + b * b = A at *
  generalize c * c + d * d = C at *
  refine abs_lt_of_sq (Int.mul_nonneg (by omega) (by omega)) ?_
  have e : (l + 1) * (k + 1) * ((l + 1) * (k + 1)) = ((l + 1) * (l + 1)) * ((k + 1) * (k + 1)) := by grind
  rw [e]
  have h1 : A * C ≤ A * ((k + 1) * (k + 1)) := Int.mul_le_mul_of_nonneg_left (by omega) hA
  have h2 : A * ((k + 1) * (k + 1)) < ((l + 1) * (l + 1)) * ((k + 1) * (k + 1)) := Int.mul_lt_mul_of_pos_right sa.2 (by have := mul_self_nonneg (k + 1); omega)
  omega
theorem cauchy_dot (a b c d : Int) : -((isq (a * a + b * b) + 1) * (isq (c * c + d * d) + 1)) < a * c + b * d ∧ a * c + b * d < (isq (a * a + b * b) + 1) * (isq (c * c + d * d) + 1) := by
  refine cauchy ?_
  have := lagrange a b c d
  have := mul_self_nonneg (a * d - b * c)
  omega
theorem cauchy_cross (a b c d : Int) : -((isq (a * a + b * b) + 1) * (isq (c * c + d * d) + 1)) < a * d - b * c ∧ a * d - b * c < (isq (a * a + b * b) + 1) * (isq (c * c + d * d) + 1) := by
  refine cauchy ?_
  have := lagrange a b c d
  have := mul_self_nonneg (a * c + b * d)
  omega

theorem triangle (a b c d : Int) : isq ((a + c) * (a + c) + (b + d) * (b + d)) ≤ isq (a * a + b * b) + isq (c * c + d * d) + 1 := by
  have pa := mul_self_nonneg a
  have pb := mul_self_nonneg b
  have pc := mul_self_nonneg c
  have pd := mul_self_nonneg d
  have sa := isq_spec (n := a * a + b * b) (by omega)
  have sc := isq_spec (n := c * c + d * d) (by omega)
  have na := isq_nonneg (a * a + b * b)
  have nc := isq_nonneg (c * c + d * d)
  have hd := cauchy_dot a b c d
  have e : (a + c) * (a + c) + (b + d) * (b + d) = (a * a + b * b) + (c * c + d * d) + 2 * (a * c + b * d) := by grind
  rw [e]
  generalize isq (a * a + b * b) = l at *
  generalize isq (c * c + d * d) = k at *
  refine isq_le (by omega) ?_
  have e2 : (l + k + 1 + 1) * (l + k + 1 + 1) = (l + 1) * (l + 1) + (k + 1) * (k + 1) + 2 * ((l + 1) * (k + 1)) := by grind
  rw [e2]
  omega
theorem triangle_low (a b c d : Int) : isq (a * a + b * b) ≤ isq ((a + c) * (a + c) + (b + d) * (b + d)) + isq (c * c + d * d) + 1 := by
  have h := triangle (a + c) (b + d) (-c) (-d)
  rw [Int.add_neg_cancel_right, Int.add_neg_cancel_right, Int.neg_mul_neg, Int.neg_mul_neg] at h
  exact h
theorem len_zero {a b : Int} (h : isq (a * a + b * b) = 0) : a = 0 ∧ b = 0 := by
  have pa := mul_self_nonneg a
  have pb := mul_self_nonneg b
  have s := isq_spec (n := a * a + b * b) (by omega)
  rw [h] at s
  have ha : a * a = 0 := by omega
  have hb : b * b = 0 := by omega
  exact ⟨by rcases Int.mul_eq_zero.1 ha with h | h <;> exact h, by rcases Int.mul_eq_zero.1 hb with h | h <;> exact h⟩

/-- A normalized vector: its length is from 1022 to 1026. -/
theorem unit_len {a b : Int} (h : 1024 ≤ isq (a * a + b * b)) :
    1022 ≤ isq (flr (a * 1024) (isq (a * a + b * b)) * flr (a * 1024) (isq (a * a + b * b)) + flr (b * 1024) (isq (a * a + b * b)) * flr (b * 1024) (isq (a * a + b * b))) ∧
    isq (flr (a * 1024) (isq (a * a + b * b)) * flr (a * 1024) (isq (a * a + b * b)) + flr (b * 1024) (isq (a * a + b * b)) * flr (b * 1024) (isq (a * a + b * b))) ≤ 1026 := by
  have pa := mul_self_nonneg a
  have pb := mul_self_nonneg b
  have sa := isq_spec (n := a * a + b * b) (by omega)
  have fx := flr_spec_pos (a := a * 1024) (b := isq (a * a + b * b)) (by omega)
  have fy := flr_spec_pos (a := b * 1024) (b := isq (a * a + b * b)) (by omega)
  generalize isq (a * a + b * b) = l at *
  generalize flr (a * 1024) l = x at *
  generalize flr (b * 1024) l = y at *
  -- what the floors leave
  obtain ⟨r, hr⟩ : ∃ r, r = a * 1024 - l * x := ⟨_, rfl⟩
  obtain ⟨s, hs⟩ : ∃ s, s = b * 1024 - l * y := ⟨_, rfl⟩
  have r0 : 0 ≤ r := by omega
  have r1 : r ≤ l - 1 := by omega
  have s0 : 0 ≤ s := by omega
  have s1 : s ≤ l - 1 := by omega
  have rr : r * r ≤ (l - 1) * (l - 1) := sq_le r0 r1
  have ss : s * s ≤ (l - 1) * (l - 1) := sq_le s0 s1
  have pr := mul_self_nonneg r
  have ps := mul_self_nonneg s
  -- the mixed sum
  have hm : -(14143 * (l * l - 1)) ≤ 10000 * (a * r + b * s) ∧ 10000 * (a * r + b * s) ≤ 14143 * (l * l - 1) := by
    have hl : 0 ≤ l * l - 1 := by have := sq_le (a := 1024) (b := l) (by omega) h; omega
    refine abs_le_of_sq (by omega) ?_
    have e1 := lagrange a b r s
    have e2 := mul_self_nonneg (a * s - b * r)
    have e3 : (a * a + b * b) * (r * r + s * s) ≤ ((l + 1) * (l + 1)) * (2 * ((l - 1) * (l - 1))) := Int.mul_le_mul (by omega) (by omega) (by omega) (mul_self_nonneg _)
    have e4 : ((l + 1) * (l + 1)) * (2 * ((l - 1) * (l - 1))) = 2 * ((l * l - 1) * (l * l - 1)) := by grind
    have e5 : 10000 * (a * r + b * s) * (10000 * (a * r + b * s)) = 100000000 * ((a * r + b * s) * (a * r + b * s)) := by grind
    have e6 : 14143 * (l * l - 1) * (14143 * (l * l - 1)) = 200024449 * ((l * l - 1) * (l * l - 1)) := by grind
    have e7 := mul_self_nonneg (l * l - 1)
    rw [e5, e6]
    omega
  have key : l * l * (x * x + y * y) = 1048576 * (a * a + b * b) - 2048 * (a * r + b * s) + (r * r + s * s) := by
    subst hr hs
    grind
  have ll : 1024 * l ≤ l * l := Int.mul_le_mul_of_nonneg_right h (by omega)
  have lp : 0 < l * l := by omega
  have e8 : (l + 1) * (l + 1) = l * l + 2 * l + 1 := sq_succ l
  have e9 : (l - 1) * (l - 1) = l * l - 2 * l + 1 := by grind
  have up : l * l * (x * x + y * y) < l * l * 1054729 := by omega
  have lo : l * l * 1044484 ≤ l * l * (x * x + y * y) := by omega
  have up' : x * x + y * y < 1054729 := Int.lt_of_mul_lt_mul_left up (by omega)
  have lo' : 1044484 ≤ x * x + y * y := Int.le_of_mul_le_mul_left lo lp
  refine ⟨?_, isq_le (by omega) (by omega)⟩
  have := isq_mono lo'
  rwa [show (1044484 : Int) = 1022 * 1022 from rfl, isq_sq (by omega)] at this
theorem unit_bd {a b : Int} (h : 1024 ≤ isq (a * a + b * b)) :
    (-1026 ≤ flr (a * 1024) (isq (a * a + b * b)) ∧ flr (a * 1024) (isq (a * a + b * b)) ≤ 1026) ∧ (-1026 ≤ flr (b * 1024) (isq (a * a + b * b)) ∧ flr (b * 1024) (isq (a * a + b * b)) ≤ 1026) := by
  have u := (unit_len h).2
  generalize flr (a * 1024) (isq (a * a + b * b)) = x at *
  generalize flr (b * 1024) (isq (a * a + b * b)) = y at *
  have px := mul_self_nonneg x
  have py := mul_self_nonneg y
  have s := (isq_spec (n := x * x + y * y) (by omega)).2
  have n := isq_nonneg (x * x + y * y)
  generalize isq (x * x + y * y) = k at *
  have := sq_le (a := k + 1) (b := 1027) (by omega) (by omega)
  have hx := abs_lt_of_sq (x := x) (m := 1027) (by omega) (by omega)
  have hy := abs_lt_of_sq (x := y) (m := 1027) (by omega) (by omega)
  omega
theorem unit_sign {a l : Int} (hl : 0 < l) : ((a < 0 ∧ flr (a * 1024) l < 0) ∨ (0 ≤ a ∧ 0 ≤ flr (a * 1024) l)) ∧ 0 ≤ flr (a * 1024) l * a := by
  have s := flr_spec_pos (a := a * 1024) hl
  generalize flr (a * 1024) l = x at *
  rcases Int.lt_or_le a 0 with h | h
  · have hx : x < 0 := by
      rcases Int.lt_or_le x 0 with hx | hx
      · exact hx
      · have := Int.mul_nonneg (a := l) (b := x) (by omega) hx
        omega
    exact ⟨Or.inl ⟨h, hx⟩, Int.mul_nonneg_of_nonpos_of_nonpos (by omega) (by omega)⟩
  · have hx : 0 ≤ x := by
      rcases Int.lt_or_le x 0 with hx | hx
      · have := Int.mul_le_mul_of_nonneg_left (a := x) (b := -1) (c := l) (by omega) (by omega)
        omega
      · exact hx
    exact ⟨Or.inr ⟨h, hx⟩, Int.mul_nonneg hx h⟩
#print axioms unit_len
end Vcm
