/- Contracts of package vec's exported functions and of the reference's. -/
import Derived.Test.YtihoanoanoaneaaVec
namespace Go.Proofs.Ytihoanoanoaneaa
open Go.ChangeShapes Go.WideShapes Go.ChangeAt Go.RowKit
open Fxm
set_option linter.unusedSimpArgs false
set_option linter.unusedVariables false

theorem add_any (a0 a1 b0 b1 : Int) (w : World) (ha0 : Bd a0) (ha1 : Bd a1) (hb0 : Bd b0) (hb1 : Bd b1) :
    Calls Try.prog 18 #[.agg #[.int .i64 a0, .int .i64 a1], .agg #[.int .i64 b0, .int .i64 b1]] w fun e w' => e = .returned (.agg #[.int .i64 (a0 + b0), .int .i64 (a1 + b1)]) ∧ Below w.heap.size w w' := by
  go_enter Try.func18, Try.ntmps18
  go_wp2_with (go_at_call 40; (with_reducible refine (per_add _ _ _ _ _ ha0 ha1 hb0 hb1).mono ?_); rintro e w' ⟨rfl, hb1⟩; obtain ⟨hc1, hf1⟩ := bcell hb1)
  refine bodyPost_ret (v := .agg #[.int .i64 (a0 + b0), .int .i64 (a1 + b1)]) (by simp [results, Try.results18, go_sem, hc1, hf1]) rfl ⟨rfl, ?_⟩
  repeat (first | exact Below.refl _ _ | (refine Below.setCell ?_ (by first | (simp; done) | (simp; omega) | omega) _) | (refine Below.alloc ?_ (by first | exact Nat.le_refl _ | (simp; done) | (simp; omega) | omega) _) | refine Below.drew ?_ | (refine Below.trans ?_ ((hb _).mono (by first | (simp; done) | (simp; omega) | omega))) | (refine Below.trans ?_ (hb1.mono (by first | (simp; done) | (simp; omega) | omega))))

theorem sub_any (a0 a1 b0 b1 : Int) (w : World) (ha0 : Bd a0) (ha1 : Bd a1) (hb0 : Bd b0) (hb1 : Bd b1) :
    Calls Try.prog 16 #[.agg #[.int .i64 a0, .int .i64 a1], .agg #[.int .i64 b0, .int .i64 b1]] w fun e w' => e = .returned (.agg #[.int .i64 (a0 - b0), .int .i64 (a1 - b1)]) ∧ Below w.heap.size w w' := by
  go_enter Try.func16, Try.ntmps16
  go_wp2_with (go_at_call 40; (with_reducible refine (per_sub _ _ _ _ _ ha0 ha1 hb0 hb1).mono ?_); rintro e w' ⟨rfl, hb1⟩; obtain ⟨hc1, hf1⟩ := bcell hb1)
  refine bodyPost_ret (v := .agg #[.int .i64 (a0 - b0), .int .i64 (a1 - b1)]) (by simp [results, Try.results16, go_sem, hc1, hf1]) rfl ⟨rfl, ?_⟩
  repeat (first | exact Below.refl _ _ | (refine Below.setCell ?_ (by first | (simp; done) | (simp; omega) | omega) _) | (refine Below.alloc ?_ (by first | exact Nat.le_refl _ | (simp; done) | (simp; omega) | omega) _) | refine Below.drew ?_ | (refine Below.trans ?_ ((hb _).mono (by first | (simp; done) | (simp; omega) | omega))) | (refine Below.trans ?_ (hb1.mono (by first | (simp; done) | (simp; omega) | omega))))

theorem bd_zero : Bd 0 := ⟨by omega, by omega⟩
theorem neg_any (a0 a1 : Int) (w : World) (ha0 : Bd a0) (ha1 : Bd a1) :
    Calls Try.prog 21 #[.agg #[.int .i64 a0, .int .i64 a1]] w fun e w' => e = .returned (.agg #[.int .i64 (-a0), .int .i64 (-a1)]) ∧ Below w.heap.size w w' := by
  have k := fun w => sub_any 0 0 a0 a1 w bd_zero bd_zero ha0 ha1
  rw [Int.zero_sub, Int.zero_sub] at k
  have K := Lib.hid k
  clear k
  go_enter Try.func21, Try.ntmps21
  go_wp2_with (go_at_call 16; (with_reducible refine (K.out _).mono ?_); rintro e w' ⟨rfl, hb1⟩; obtain ⟨hc1, hf1⟩ := bcell hb1)
  refine bodyPost_ret (v := .agg #[.int .i64 (-a0), .int .i64 (-a1)]) (by simp [results, Try.results21, go_sem, hc1, hf1]) rfl ⟨rfl, ?_⟩
  repeat (first | exact Below.refl _ _ | (refine Below.setCell ?_ (by first | (simp; done) | (simp; omega) | omega) _) | (refine Below.alloc ?_ (by first | exact Nat.le_refl _ | (simp; done) | (simp; omega) | omega) _) | refine Below.drew ?_ | (refine Below.trans ?_ ((hb _).mono (by first | (simp; done) | (simp; omega) | omega))) | (refine Below.trans ?_ (hb1.mono (by first | (simp; done) | (simp; omega) | omega))))

theorem scale_any (a0 a1 f : Int) (w : World) (ha0 : Bd a0) (ha1 : Bd a1) (hf' : Bd f) :
    Calls Try.prog 44 #[.agg #[.int .i64 a0, .int .i64 a1], .int .i64 f] w fun e w' => e = .returned (.agg #[.int .i64 (flr (a0 * f) 1024), .int .i64 (flr (a1 * f) 1024)]) ∧ Below w.heap.size w w' := by
  go_enter Try.func44, Try.ntmps44
  go_wp2
  refine wp_region_tail 4 (by kernel_rfl) (by kernel_rfl) ?_
  intro W hK
  obtain ⟨hc, hf, hz, hb⟩ := hK
  simp only [List.take_succ_cons, List.take_zero, List.drop_succ_cons, List.drop_zero]
  repeat (go_big_quiet_step ((first | (go_at_call 50; exact met_made (both_any _ _)) | (go_at_call 40; exact met_made (per_mul _ _ _ _ _ ha0 ha1 hf' hf')))))
  refine wpQuiet_nil ?_
  intro _ hw'
  obtain ⟨xq, hw''⟩ := hw'
  subst hw''
  go_wp2
  refine bodyPost_ret (v := .agg #[.int .i64 (flr (a0 * f) 1024), .int .i64 (flr (a1 * f) 1024)]) (by simp [results, Try.results44, go_sem, hc, hf]) rfl ⟨rfl, ?_⟩
  repeat (first | exact Below.refl _ _ | (refine Below.setCell ?_ (by first | (simp; done) | (simp; omega) | omega) _) | (refine Below.alloc ?_ (by first | exact Nat.le_refl _ | (simp; done) | (simp; omega) | omega) _) | refine Below.drew ?_ | (refine Below.trans ?_ ((hb _).mono (by first | (simp; done) | (simp; omega) | omega))) | (refine Below.trans ?_ (hb1.mono (by first | (simp; done) | (simp; omega) | omega))))

theorem floorOne_any (n : Int) (w : World) (h1 : -4503599627370496 ≤ n) (h2 : n ≤ 4503599627370496) :
    Calls Try.prog 39 #[.int .i64 n] w fun e w' => e = .returned (.int .i64 (flr n 1024)) ∧ w = w' := by
  have hq := wq (d := 1024) (n := n) (by omega) (by omega)
  have hb := tdiv_bd n 1024 4503599627370496 h1 h2
  by_cases hn : n < 0
  all_goals
    go_enter Try.func39, Try.ntmps39
    go_wp2
  all_goals
    go_ret
    refine ⟨ri ?_, rfl⟩
    first
      | exact (flr_down_p (by omega) (by omega)).symm
      | exact (flr_same_p (by omega) (by omega)).symm
      | (have ht := tmod_nn 1024 (n := n) (by omega)
         have hd : n.tdiv 1024 = n / 1024 := Int.tdiv_eq_ediv_of_nonneg (by omega)
         first | exact (flr_same_p (by omega) (by omega)).symm | (rw [← hd]; exact (flr_same_p (by omega) (by omega)).symm) | (exfalso; omega))

theorem refFloor_any (n : Int) (w : World) (h1 : -4503599627370496 ≤ n) (h2 : n ≤ 4503599627370496) :
    Calls Try.prog 46 #[.int .i64 n] w fun e w' => e = .returned (.int .i64 (flr n 1024)) ∧ w = w' := by
  have hq := wq (d := 1024) (n := n) (by omega) (by omega)
  have hb := tdiv_bd n 1024 4503599627370496 h1 h2
  have hp := tparts n 1024
  have hl := tmod_lt_p n (d := 1024) (by omega)
  have hg := tmod_gt_p n (d := 1024) (by omega)
  by_cases hn : n < 0
  all_goals
    go_enter Try.func46, Try.ntmps46
    go_wp2
  all_goals
    go_ret
    refine ⟨ri ?_, rfl⟩
    first
      | exact (flr_pos (by omega) (by omega)).symm
      | (exfalso; have := tmod_nn 1024 (n := n) (by omega); omega)

theorem dot_any (a0 a1 b0 b1 : Int) (w : World) (ha0 : Bd a0) (ha1 : Bd a1) (hb0 : Bd b0) (hb1 : Bd b1) :
    Calls Try.prog 15 #[.agg #[.int .i64 a0, .int .i64 a1], .agg #[.int .i64 b0, .int .i64 b1]] w fun e w' => e = .returned (.int .i64 (flr (a0 * b0 + a1 * b1) 1024)) ∧ Below w.heap.size w w' := by
  obtain ⟨p0, q0⟩ := prod25 ha0 hb0
  obtain ⟨p1, q1⟩ := prod25 ha1 hb1
  go_enter Try.func15, Try.ntmps15
  go_wp2_with (go_at_call 39; refine (floorOne_any _ _ (by omega) (by omega)).mono ?_; rintro e w' ⟨rfl, rfl⟩)
  go_ret
  refine ⟨rfl, ?_⟩
  repeat (first | exact Below.refl _ _ | (refine Below.setCell ?_ (by first | (simp; done) | (simp; omega) | omega) _) | (refine Below.alloc ?_ (by first | exact Nat.le_refl _ | (simp; done) | (simp; omega) | omega) _) | refine Below.drew ?_ | (refine Below.trans ?_ ((hb _).mono (by first | (simp; done) | (simp; omega) | omega))) | (refine Below.trans ?_ (hb1.mono (by first | (simp; done) | (simp; omega) | omega))))

theorem refDot_any (a0 a1 b0 b1 : Int) (w : World) (ha0 : Bd a0) (ha1 : Bd a1) (hb0 : Bd b0) (hb1 : Bd b1) :
    Calls Try.prog 32 #[.agg #[.int .i64 a0, .int .i64 a1], .agg #[.int .i64 b0, .int .i64 b1]] w fun e w' => e = .returned (.int .i64 (flr (a0 * b0 + a1 * b1) 1024)) ∧ Below w.heap.size w w' := by
  obtain ⟨p0, q0⟩ := prod25 ha0 hb0
  obtain ⟨p1, q1⟩ := prod25 ha1 hb1
  go_enter Try.func32, Try.ntmps32
  go_wp2_with (go_at_call 46; refine (refFloor_any _ _ (by omega) (by omega)).mono ?_; rintro e w' ⟨rfl, rfl⟩)
  go_ret
  refine ⟨rfl, ?_⟩
  repeat (first | exact Below.refl _ _ | (refine Below.setCell ?_ (by first | (simp; done) | (simp; omega) | omega) _) | (refine Below.alloc ?_ (by first | exact Nat.le_refl _ | (simp; done) | (simp; omega) | omega) _) | refine Below.drew ?_ | (refine Below.trans ?_ ((hb _).mono (by first | (simp; done) | (simp; omega) | omega))) | (refine Below.trans ?_ (hb1.mono (by first | (simp; done) | (simp; omega) | omega))))

theorem refAdd_any (a0 a1 b0 b1 : Int) (w : World) (ha0 : Bd a0) (ha1 : Bd a1) (hb0 : Bd b0) (hb1 : Bd b1) :
    Calls Try.prog 37 #[.agg #[.int .i64 a0, .int .i64 a1], .agg #[.int .i64 b0, .int .i64 b1]] w fun e w' => e = .returned (.agg #[.int .i64 (a0 + b0), .int .i64 (a1 + b1)]) ∧ Below w.heap.size w w' := by
  unfold Bd at ha0 ha1 hb0 hb1
  go_enter Try.func37, Try.ntmps37
  go_wp2
  refine bodyPost_ret (v := .agg #[.int .i64 (a0 + b0), .int .i64 (a1 + b1)]) (by simp [results, Try.results37, go_sem]) rfl ⟨rfl, ?_⟩
  repeat (first | exact Below.refl _ _ | (refine Below.setCell ?_ (by first | (simp; done) | (simp; omega) | omega) _) | (refine Below.alloc ?_ (by first | exact Nat.le_refl _ | (simp; done) | (simp; omega) | omega) _) | refine Below.drew ?_ | (refine Below.trans ?_ ((hb _).mono (by first | (simp; done) | (simp; omega) | omega))) | (refine Below.trans ?_ (hb1.mono (by first | (simp; done) | (simp; omega) | omega))))

theorem refSub_any (a0 a1 b0 b1 : Int) (w : World) (ha0 : Bd a0) (ha1 : Bd a1) (hb0 : Bd b0) (hb1 : Bd b1) :
    Calls Try.prog 33 #[.agg #[.int .i64 a0, .int .i64 a1], .agg #[.int .i64 b0, .int .i64 b1]] w fun e w' => e = .returned (.agg #[.int .i64 (a0 - b0), .int .i64 (a1 - b1)]) ∧ Below w.heap.size w w' := by
  unfold Bd at ha0 ha1 hb0 hb1
  go_enter Try.func33, Try.ntmps33
  go_wp2
  refine bodyPost_ret (v := .agg #[.int .i64 (a0 - b0), .int .i64 (a1 - b1)]) (by simp [results, Try.results33, go_sem]) rfl ⟨rfl, ?_⟩
  repeat (first | exact Below.refl _ _ | (refine Below.setCell ?_ (by first | (simp; done) | (simp; omega) | omega) _) | (refine Below.alloc ?_ (by first | exact Nat.le_refl _ | (simp; done) | (simp; omega) | omega) _) | refine Below.drew ?_ | (refine Below.trans ?_ ((hb _).mono (by first | (simp; done) | (simp; omega) | omega))) | (refine Below.trans ?_ (hb1.mono (by first | (simp; done) | (simp; omega) | omega))))

theorem refVMulDiv_any (a0 a1 n d : Int) (w : World) (ha0 : Bd a0) (ha1 : Bd a1) (hn : Bd n) :
    Calls Try.prog 48 #[.agg #[.int .i64 a0, .int .i64 a1], .int .i64 n, .int .i64 d] w fun e w' => e = .returned (.agg #[.int .i64 (flr (a0 * n) d), .int .i64 (flr (a1 * n) d)]) ∧ Below w.heap.size w w' := by
  go_enter Try.func48, Try.ntmps48
  go_wp2
  refine wp_region_tail 11 (by kernel_rfl) (by kernel_rfl) ?_
  intro W hK
  obtain ⟨hc, hf, hz, hb⟩ := hK
  simp only [List.take_succ_cons, List.take_zero, List.drop_succ_cons, List.drop_zero]
  repeat (go_big_quiet_step ((go_at_call 34; have p0 := prod25 ha0 hn; have p1 := prod25 ha1 hn; exact met_same (refMulDiv_any _ _ _ _ (by omega) (by omega)))))
  refine wpQuiet_nil ?_
  intro _ hw'
  obtain ⟨xq, hw''⟩ := hw'
  subst hw''
  go_wp2
  refine bodyPost_ret (v := .agg #[.int .i64 (flr (a0 * n) d), .int .i64 (flr (a1 * n) d)]) (by simp [results, Try.results48, go_sem, hc, hf]) rfl ⟨rfl, ?_⟩
  repeat (first | exact Below.refl _ _ | (refine Below.setCell ?_ (by first | (simp; done) | (simp; omega) | omega) _) | (refine Below.alloc ?_ (by first | exact Nat.le_refl _ | (simp; done) | (simp; omega) | omega) _) | refine Below.drew ?_ | (refine Below.trans ?_ ((hb _).mono (by first | (simp; done) | (simp; omega) | omega))) | (refine Below.trans ?_ (hb1.mono (by first | (simp; done) | (simp; omega) | omega))))

theorem bd_one : Bd 1024 := ⟨by omega, by omega⟩
theorem refScale_any (a0 a1 f : Int) (w : World) (ha0 : Bd a0) (ha1 : Bd a1) (hf' : Bd f) :
    Calls Try.prog 35 #[.agg #[.int .i64 a0, .int .i64 a1], .int .i64 f] w fun e w' => e = .returned (.agg #[.int .i64 (flr (a0 * f) 1024), .int .i64 (flr (a1 * f) 1024)]) ∧ Below w.heap.size w w' := by
  go_enter Try.func35, Try.ntmps35
  go_wp2_with (go_at_call 48; (with_reducible refine (refVMulDiv_any _ _ _ _ _ ha0 ha1 hf').mono ?_); rintro e w' ⟨rfl, hb1⟩; obtain ⟨hc1, hf1⟩ := bcell hb1)
  refine bodyPost_ret (v := .agg #[.int .i64 (flr (a0 * f) 1024), .int .i64 (flr (a1 * f) 1024)]) (by simp [results, Try.results35, go_sem, hc1, hf1]) rfl ⟨rfl, ?_⟩
  repeat (first | exact Below.refl _ _ | (refine Below.setCell ?_ (by first | (simp; done) | (simp; omega) | omega) _) | (refine Below.alloc ?_ (by first | exact Nat.le_refl _ | (simp; done) | (simp; omega) | omega) _) | refine Below.drew ?_ | (refine Below.trans ?_ ((hb _).mono (by first | (simp; done) | (simp; omega) | omega))) | (refine Below.trans ?_ (hb1.mono (by first | (simp; done) | (simp; omega) | omega))))

end Go.Proofs.Ytihoanoanoaneaa
