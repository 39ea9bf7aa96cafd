/- The reference's vectors made of two integers; the section's examples. -/
import Derived.Test.YtknjdkgemkmoeaaVecB
import Derived.OpenShut
import Derived.Test.YtknjdkgemkmoeaaVecMath
namespace Go.Proofs.Ytknjdkgemkmoeaa
open Go.ChangeShapes Go.WideShapes Go.ChangeAt Go.RowKit
open Fxm
set_option linter.unusedSimpArgs false
set_option linter.unusedVariables false

/-- 2^23. -/
def Be (a : Int) : Prop := -8388608 ≤ a ∧ a ≤ 8388608
theorem Be.bd {a : Int} (h : Be a) : Bd a := by unfold Be at h; unfold Bd; omega
theorem Be.neg {a : Int} (h : Be a) : Be (-a) := by unfold Be at *; omega

theorem flr_part {a d : Int} (h : Be a) (hd : 0 < d) : Be (flr (a * 1) d) := by
  have := flr_spec_pos (a := a * 1) hd
  unfold Be at *
  have h1 : -8388608 ≤ flr (a * 1) d := by
    rcases Int.lt_or_le (flr (a * 1) d) (-8388608) with h | h
    · have : d * flr (a * 1) d ≤ d * (-8388608 - 1) := Int.mul_le_mul_of_nonneg_left (by omega) (by omega)
      omega
    · exact h
  have h2 : flr (a * 1) d ≤ 8388608 := by
    rcases Int.lt_or_le 8388608 (flr (a * 1) d) with h | h
    · have : d * 8388609 ≤ d * flr (a * 1) d := Int.mul_le_mul_of_nonneg_left (by omega) (by omega)
      omega
    · exact h
  exact ⟨h1, h2⟩
theorem Be.add {a b : Int} (ha : Be a) (hb : Be b) : Bd (a + b) := by unfold Be at *; unfold Bd; omega
theorem absV_spec (n : Int) : (n < 0 ∧ absV n = -n) ∨ (0 ≤ n ∧ absV n = n) := by
  unfold absV; split <;> omega
theorem Be.sq {a : Int} (h : Be a) : 0 ≤ a * a ∧ a * a ≤ 70368744177664 := by
  have := prod_bd (a := a) (b := a) (A := 8388608) (B := 8388608) (by omega) (by omega) h.1 h.2 h.1 h.2
  have := Vcm.mul_self_nonneg a
  omega
theorem Be.len {a b : Int} (ha : Be a) (hb : Be b) : 0 ≤ isq (a * a + b * b) ∧ isq (a * a + b * b) ≤ 16777215 := by
  have := ha.sq
  have := hb.sq
  exact ⟨isq_nonneg _, isq_le (by omega) (by omega)⟩
theorem Bd.sq {a : Int} (h : Bd a) : 0 ≤ a * a ∧ a * a ≤ 1125899906842624 := by
  have := prod25 h h
  have := Vcm.mul_self_nonneg a
  omega
theorem Bd.len {a b : Int} (ha : Bd a) (hb : Bd b) : 0 ≤ isq (a * a + b * b) ∧ isq (a * a + b * b) ≤ 67108863 := by
  have := ha.sq
  have := hb.sq
  exact ⟨isq_nonneg _, isq_le (by omega) (by omega)⟩
theorem Be.scaled {a k : Int} (ha : Be a) (h1 : -1024 ≤ k) (h2 : k ≤ 1024) : Be (flr (a * k) 1024) := by
  have p := prod_bd (a := a) (b := k) (A := 8388608) (B := 1024) (by omega) (by omega) ha.1 ha.2 h1 h2
  have s := flr_spec_pos (a := a * k) (b := 1024) (by omega)
  unfold Be
  omega
theorem scale_sum (a b k : Int) : 0 ≤ flr ((a + b) * k) 1024 - (flr (a * k) 1024 + flr (b * k) 1024) ∧ flr ((a + b) * k) 1024 - (flr (a * k) 1024 + flr (b * k) 1024) ≤ 1 := by
  have s := flr_spec_pos (a := (a + b) * k) (b := 1024) (by omega)
  have t := flr_spec_pos (a := a * k) (b := 1024) (by omega)
  have u := flr_spec_pos (a := b * k) (b := 1024) (by omega)
  rw [Int.add_mul] at *
  omega
theorem bd_of {a : Int} (h1 : -33554432 ≤ a) (h2 : a ≤ 33554432) : Bd a := ⟨h1, h2⟩
end Go.Proofs.Ytknjdkgemkmoeaa
