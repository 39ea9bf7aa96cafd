/- Contracts of package vec's exported functions and of the reference's. -/
import Derived.Test.YtfbgghkkgmgnjaaVec
namespace Go.Proofs.Ytfbgghkkgmgnjaa
open Go.ChangeShapes Go.WideShapes Go.ChangeAt Go.RowKit
open Fxm
set_option linter.unusedSimpArgs false
set_option linter.unusedVariables false

theorem add_any (a0 a1 b0 b1 : Int) (w : World) (ha0 : Bd a0) (ha1 : Bd a1) (hb0 : Bd b0) (hb1 : Bd b1) :
    Calls Try.prog 25 #[.agg #[.int .i64 a0, .int .i64 a1], .agg #[.int .i64 b0, .int .i64 b1]] w fun e w' => e = .returned (.agg #[.int .i64 (a0 + b0), .int .i64 (a1 + b1)]) ∧ Below w.heap.size w w' := by
  go_enter Try.func25, Try.ntmps25
  go_wp2_with (go_at_call 57; (with_reducible refine (per_add _ _ _ _ _ ha0 ha1 hb0 hb1).mono ?_); rintro e w' ⟨rfl, hb1⟩; obtain ⟨hc1, hf1⟩ := bcell hb1)
  refine bodyPost_ret (v := .agg #[.int .i64 (a0 + b0), .int .i64 (a1 + b1)]) (by simp [results, Try.results25, go_sem, hc1, hf1]) rfl ⟨rfl, ?_⟩
  repeat (first | exact Below.refl _ _ | (refine Below.setCell ?_ (by first | (simp; done) | (simp; omega) | omega) _) | (refine Below.alloc ?_ (by first | exact Nat.le_refl _ | (simp; done) | (simp; omega) | omega) _) | refine Below.drew ?_ | (refine Below.trans ?_ ((hb _).mono (by first | (simp; done) | (simp; omega) | omega))) | (refine Below.trans ?_ (hb1.mono (by first | (simp; done) | (simp; omega) | omega))))

theorem sub_any (a0 a1 b0 b1 : Int) (w : World) (ha0 : Bd a0) (ha1 : Bd a1) (hb0 : Bd b0) (hb1 : Bd b1) :
    Calls Try.prog 48 #[.agg #[.int .i64 a0, .int .i64 a1], .agg #[.int .i64 b0, .int .i64 b1]] w fun e w' => e = .returned (.agg #[.int .i64 (a0 - b0), .int .i64 (a1 - b1)]) ∧ Below w.heap.size w w' := by
  go_enter Try.func48, Try.ntmps48
  go_wp2_with (go_at_call 57; (with_reducible refine (per_sub _ _ _ _ _ ha0 ha1 hb0 hb1).mono ?_); rintro e w' ⟨rfl, hb1⟩; obtain ⟨hc1, hf1⟩ := bcell hb1)
  refine bodyPost_ret (v := .agg #[.int .i64 (a0 - b0), .int .i64 (a1 - b1)]) (by simp [results, Try.results48, go_sem, hc1, hf1]) rfl ⟨rfl, ?_⟩
  repeat (first | exact Below.refl _ _ | (refine Below.setCell ?_ (by first | (simp; done) | (simp; omega) | omega) _) | (refine Below.alloc ?_ (by first | exact Nat.le_refl _ | (simp; done) | (simp; omega) | omega) _) | refine Below.drew ?_ | (refine Below.trans ?_ ((hb _).mono (by first | (simp; done) | (simp; omega) | omega))) | (refine Below.trans ?_ (hb1.mono (by first | (simp; done) | (simp; omega) | omega))))

theorem bd_zero : Bd 0 := ⟨by omega, by omega⟩
theorem neg_any (a0 a1 : Int) (w : World) (ha0 : Bd a0) (ha1 : Bd a1) :
    Calls Try.prog 49 #[.agg #[.int .i64 a0, .int .i64 a1]] w fun e w' => e = .returned (.agg #[.int .i64 (-a0), .int .i64 (-a1)]) ∧ Below w.heap.size w w' := by
  have k := fun w => sub_any 0 0 a0 a1 w bd_zero bd_zero ha0 ha1
  rw [Int.zero_sub, Int.zero_sub] at k
  have K := Lib.hid k
  clear k
  go_enter Try.func49, Try.ntmps49
  go_wp2_with (go_at_call 48; (with_reducible refine (K.out _).mono ?_); rintro e w' ⟨rfl, hb1⟩; obtain ⟨hc1, hf1⟩ := bcell hb1)
  refine bodyPost_ret (v := .agg #[.int .i64 (-a0), .int .i64 (-a1)]) (by simp [results, Try.results49, go_sem, hc1, hf1]) rfl ⟨rfl, ?_⟩
  repeat (first | exact Below.refl _ _ | (refine Below.setCell ?_ (by first | (simp; done) | (simp; omega) | omega) _) | (refine Below.alloc ?_ (by first | exact Nat.le_refl _ | (simp; done) | (simp; omega) | omega) _) | refine Below.drew ?_ | (refine Below.trans ?_ ((hb _).mono (by first | (simp; done) | (simp; omega) | omega))) | (refine Below.trans ?_ (hb1.mono (by first | (simp; done) | (simp; omega) | omega))))

theorem vmulDiv_any (a0 a1 n d : Int) (w : World) (ha0 : Bd a0) (ha1 : Bd a1) (hn : Bd n) :
    Calls Try.prog 24 #[.agg #[.int .i64 a0, .int .i64 a1], .int .i64 n, .int .i64 d] w fun e w' => e = .returned (.agg #[.int .i64 (flr (a0 * n) d), .int .i64 (flr (a1 * n) d)]) ∧ Below w.heap.size w w' := by
  go_enter Try.func24, Try.ntmps24
  go_wp2
  refine wp_region_tail 5 (by kernel_rfl) (by kernel_rfl) ?_
  intro W hK
  have hp' : ∀ x, w.heap.size + 1 < (over W x).heap.size := fun x => Nat.lt_of_lt_of_le (by simp) (hK.size x)
  have hd' : ∀ x, (over W x).cell? ⟨w.heap.size + 1, 0, none⟩ = some (.int .i64 d) := fun x => (hK.cell x _ _ (by simp)).trans (by simp [go_sem])
  obtain ⟨hc, hf, hz, hb⟩ := hK
  simp only [List.take_succ_cons, List.take_zero, List.drop_succ_cons, List.drop_zero]
  repeat (go_big_quiet_step ((first | (go_at_call 58; exact met_made (both_any _ _)) | (go_at_call 57; exact met_made (per_mulDiv _ _ _ _ _ _ _ (hp' _) (hd' _) ha0 ha1 hn hn)))))
  refine wpQuiet_nil ?_
  intro _ hw'
  obtain ⟨xq, hw''⟩ := hw'
  subst hw''
  go_wp2
  refine bodyPost_ret (v := .agg #[.int .i64 (flr (a0 * n) d), .int .i64 (flr (a1 * n) d)]) (by simp [results, Try.results24, go_sem, hc, hf]) rfl ⟨rfl, ?_⟩
  repeat (first | exact Below.refl _ _ | (refine Below.setCell ?_ (by first | (simp; done) | (simp; omega) | omega) _) | (refine Below.alloc ?_ (by first | exact Nat.le_refl _ | (simp; done) | (simp; omega) | omega) _) | refine Below.drew ?_ | (refine Below.trans ?_ ((hb _).mono (by first | (simp; done) | (simp; omega) | omega))) | (refine Below.trans ?_ (hb1.mono (by first | (simp; done) | (simp; omega) | omega))))

theorem floorOne_any (n : Int) (w : World) (h1 : -4503599627370496 ≤ n) (h2 : n ≤ 4503599627370496) :
    Calls Try.prog 75 #[.int .i64 n] w fun e w' => e = .returned (.int .i64 (flr n 1024)) ∧ w = w' := by
  have hq := wq (d := 1024) (n := n) (by omega) (by omega)
  have hb := tdiv_bd n 1024 4503599627370496 h1 h2
  by_cases hn : n < 0
  all_goals
    go_enter Try.func75, Try.ntmps75
    go_wp2
  all_goals
    go_ret
    refine ⟨ri ?_, rfl⟩
    first
      | exact (flr_down_p (by omega) (by omega)).symm
      | exact (flr_same_p (by omega) (by omega)).symm
      | (have ht := tmod_nn 1024 (n := n) (by omega)
         have hd : n.tdiv 1024 = n / 1024 := Int.tdiv_eq_ediv_of_nonneg (by omega)
         first | exact (flr_same_p (by omega) (by omega)).symm | (rw [← hd]; exact (flr_same_p (by omega) (by omega)).symm) | (exfalso; omega))

theorem refFloor_any (n : Int) (w : World) (h1 : -4503599627370496 ≤ n) (h2 : n ≤ 4503599627370496) :
    Calls Try.prog 77 #[.int .i64 n] w fun e w' => e = .returned (.int .i64 (flr n 1024)) ∧ w = w' := by
  have hq := wq (d := 1024) (n := n) (by omega) (by omega)
  have hb := tdiv_bd n 1024 4503599627370496 h1 h2
  have hp := tparts n 1024
  have hl := tmod_lt_p n (d := 1024) (by omega)
  have hg := tmod_gt_p n (d := 1024) (by omega)
  by_cases hn : n < 0
  all_goals
    go_enter Try.func77, Try.ntmps77
    go_wp2
  all_goals
    go_ret
    refine ⟨ri ?_, rfl⟩
    first
      | exact (flr_pos (by omega) (by omega)).symm
      | (exfalso; have := tmod_nn 1024 (n := n) (by omega); omega)

theorem dot_any (a0 a1 b0 b1 : Int) (w : World) (ha0 : Bd a0) (ha1 : Bd a1) (hb0 : Bd b0) (hb1 : Bd b1) :
    Calls Try.prog 47 #[.agg #[.int .i64 a0, .int .i64 a1], .agg #[.int .i64 b0, .int .i64 b1]] w fun e w' => e = .returned (.int .i64 (flr (a0 * b0 + a1 * b1) 1024)) ∧ Below w.heap.size w w' := by
  obtain ⟨p0, q0⟩ := prod25 ha0 hb0
  obtain ⟨p1, q1⟩ := prod25 ha1 hb1
  go_enter Try.func47, Try.ntmps47
  go_wp2_with (go_at_call 75; refine (floorOne_any _ _ (by omega) (by omega)).mono ?_; rintro e w' ⟨rfl, rfl⟩)
  go_ret
  refine ⟨rfl, ?_⟩
  repeat (first | exact Below.refl _ _ | (refine Below.setCell ?_ (by first | (simp; done) | (simp; omega) | omega) _) | (refine Below.alloc ?_ (by first | exact Nat.le_refl _ | (simp; done) | (simp; omega) | omega) _) | refine Below.drew ?_ | (refine Below.trans ?_ ((hb _).mono (by first | (simp; done) | (simp; omega) | omega))) | (refine Below.trans ?_ (hb1.mono (by first | (simp; done) | (simp; omega) | omega))))

theorem refDot_any (a0 a1 b0 b1 : Int) (w : World) (ha0 : Bd a0) (ha1 : Bd a1) (hb0 : Bd b0) (hb1 : Bd b1) :
    Calls Try.prog 52 #[.agg #[.int .i64 a0, .int .i64 a1], .agg #[.int .i64 b0, .int .i64 b1]] w fun e w' => e = .returned (.int .i64 (flr (a0 * b0 + a1 * b1) 1024)) ∧ Below w.heap.size w w' := by
  obtain ⟨p0, q0⟩ := prod25 ha0 hb0
  obtain ⟨p1, q1⟩ := prod25 ha1 hb1
  go_enter Try.func52, Try.ntmps52
  go_wp2_with (go_at_call 77; refine (refFloor_any _ _ (by omega) (by omega)).mono ?_; rintro e w' ⟨rfl, rfl⟩)
  go_ret
  refine ⟨rfl, ?_⟩
  repeat (first | exact Below.refl _ _ | (refine Below.setCell ?_ (by first | (simp; done) | (simp; omega) | omega) _) | (refine Below.alloc ?_ (by first | exact Nat.le_refl _ | (simp; done) | (simp; omega) | omega) _) | refine Below.drew ?_ | (refine Below.trans ?_ ((hb _).mono (by first | (simp; done) | (simp; omega) | omega))) | (refine Below.trans ?_ (hb1.mono (by first | (simp; done) | (simp; omega) | omega))))

theorem len_any (a0 a1 : Int) (w : World) (ha0 : Bd a0) (ha1 : Bd a1) :
    Calls Try.prog 92 #[.agg #[.int .i64 a0, .int .i64 a1]] w fun e w' => e = .returned (.int .i64 (isq (a0 * a0 + a1 * a1))) ∧ Below w.heap.size w w' := by
  obtain ⟨p0, q0⟩ := prod25 ha0 ha0
  obtain ⟨p1, q1⟩ := prod25 ha1 ha1
  go_enter Try.func92, Try.ntmps92
  go_wp2_with (go_at_call 96; refine (isqrt_any _ _ (by omega)).mono ?_; rintro e w' ⟨rfl, rfl⟩)
  go_ret
  refine ⟨rfl, ?_⟩
  repeat (first | exact Below.refl _ _ | (refine Below.setCell ?_ (by first | (simp; done) | (simp; omega) | omega) _) | (refine Below.alloc ?_ (by first | exact Nat.le_refl _ | (simp; done) | (simp; omega) | omega) _) | refine Below.drew ?_ | (refine Below.trans ?_ ((hb _).mono (by first | (simp; done) | (simp; omega) | omega))) | (refine Below.trans ?_ (hb1.mono (by first | (simp; done) | (simp; omega) | omega))))

theorem refLen_any (a0 a1 : Int) (w : World) (ha0 : Bd a0) (ha1 : Bd a1) :
    Calls Try.prog 87 #[.agg #[.int .i64 a0, .int .i64 a1]] w fun e w' => e = .returned (.int .i64 (isq (a0 * a0 + a1 * a1))) ∧ Below w.heap.size w w' := by
  obtain ⟨p0, q0⟩ := prod25 ha0 ha0
  obtain ⟨p1, q1⟩ := prod25 ha1 ha1
  go_enter Try.func87, Try.ntmps87
  go_wp2_with (go_at_call 95; refine (refIsqrt_any _ _ (by omega)).mono ?_; rintro e w' ⟨rfl, rfl⟩)
  go_ret
  refine ⟨rfl, ?_⟩
  repeat (first | exact Below.refl _ _ | (refine Below.setCell ?_ (by first | (simp; done) | (simp; omega) | omega) _) | (refine Below.alloc ?_ (by first | exact Nat.le_refl _ | (simp; done) | (simp; omega) | omega) _) | refine Below.drew ?_ | (refine Below.trans ?_ ((hb _).mono (by first | (simp; done) | (simp; omega) | omega))) | (refine Below.trans ?_ (hb1.mono (by first | (simp; done) | (simp; omega) | omega))))

theorem refAdd_any (a0 a1 b0 b1 : Int) (w : World) (ha0 : Bd a0) (ha1 : Bd a1) (hb0 : Bd b0) (hb1 : Bd b1) :
    Calls Try.prog 64 #[.agg #[.int .i64 a0, .int .i64 a1], .agg #[.int .i64 b0, .int .i64 b1]] w fun e w' => e = .returned (.agg #[.int .i64 (a0 + b0), .int .i64 (a1 + b1)]) ∧ Below w.heap.size w w' := by
  unfold Bd at ha0 ha1 hb0 hb1
  go_enter Try.func64, Try.ntmps64
  go_wp2
  refine bodyPost_ret (v := .agg #[.int .i64 (a0 + b0), .int .i64 (a1 + b1)]) (by simp [results, Try.results64, go_sem]) rfl ⟨rfl, ?_⟩
  repeat (first | exact Below.refl _ _ | (refine Below.setCell ?_ (by first | (simp; done) | (simp; omega) | omega) _) | (refine Below.alloc ?_ (by first | exact Nat.le_refl _ | (simp; done) | (simp; omega) | omega) _) | refine Below.drew ?_ | (refine Below.trans ?_ ((hb _).mono (by first | (simp; done) | (simp; omega) | omega))) | (refine Below.trans ?_ (hb1.mono (by first | (simp; done) | (simp; omega) | omega))))

theorem refSub_any (a0 a1 b0 b1 : Int) (w : World) (ha0 : Bd a0) (ha1 : Bd a1) (hb0 : Bd b0) (hb1 : Bd b1) :
    Calls Try.prog 43 #[.agg #[.int .i64 a0, .int .i64 a1], .agg #[.int .i64 b0, .int .i64 b1]] w fun e w' => e = .returned (.agg #[.int .i64 (a0 - b0), .int .i64 (a1 - b1)]) ∧ Below w.heap.size w w' := by
  unfold Bd at ha0 ha1 hb0 hb1
  go_enter Try.func43, Try.ntmps43
  go_wp2
  refine bodyPost_ret (v := .agg #[.int .i64 (a0 - b0), .int .i64 (a1 - b1)]) (by simp [results, Try.results43, go_sem]) rfl ⟨rfl, ?_⟩
  repeat (first | exact Below.refl _ _ | (refine Below.setCell ?_ (by first | (simp; done) | (simp; omega) | omega) _) | (refine Below.alloc ?_ (by first | exact Nat.le_refl _ | (simp; done) | (simp; omega) | omega) _) | refine Below.drew ?_ | (refine Below.trans ?_ ((hb _).mono (by first | (simp; done) | (simp; omega) | omega))) | (refine Below.trans ?_ (hb1.mono (by first | (simp; done) | (simp; omega) | omega))))

theorem refNeg_any (a0 a1 : Int) (w : World) (ha0 : Bd a0) (ha1 : Bd a1) :
    Calls Try.prog 53 #[.agg #[.int .i64 a0, .int .i64 a1]] w fun e w' => e = .returned (.agg #[.int .i64 (-a0), .int .i64 (-a1)]) ∧ Below w.heap.size w w' := by
  unfold Bd at ha0 ha1
  go_enter Try.func53, Try.ntmps53
  go_wp2
  refine bodyPost_ret (v := .agg #[.int .i64 (-a0), .int .i64 (-a1)]) (by simp [results, Try.results53, go_sem]) rfl ⟨rfl, ?_⟩
  repeat (first | exact Below.refl _ _ | (refine Below.setCell ?_ (by first | (simp; done) | (simp; omega) | omega) _) | (refine Below.alloc ?_ (by first | exact Nat.le_refl _ | (simp; done) | (simp; omega) | omega) _) | refine Below.drew ?_ | (refine Below.trans ?_ ((hb _).mono (by first | (simp; done) | (simp; omega) | omega))) | (refine Below.trans ?_ (hb1.mono (by first | (simp; done) | (simp; omega) | omega))))

theorem refVMulDiv_any (a0 a1 n d : Int) (w : World) (ha0 : Bd a0) (ha1 : Bd a1) (hn : Bd n) :
    Calls Try.prog 86 #[.agg #[.int .i64 a0, .int .i64 a1], .int .i64 n, .int .i64 d] w fun e w' => e = .returned (.agg #[.int .i64 (flr (a0 * n) d), .int .i64 (flr (a1 * n) d)]) ∧ Below w.heap.size w w' := by
  go_enter Try.func86, Try.ntmps86
  go_wp2
  refine wp_region_tail 11 (by kernel_rfl) (by kernel_rfl) ?_
  intro W hK
  obtain ⟨hc, hf, hz, hb⟩ := hK
  simp only [List.take_succ_cons, List.take_zero, List.drop_succ_cons, List.drop_zero]
  repeat (go_big_quiet_step ((go_at_call 94; have p0 := prod25 ha0 hn; have p1 := prod25 ha1 hn; exact met_same (refMulDiv_any _ _ _ _ (by omega) (by omega)))))
  refine wpQuiet_nil ?_
  intro _ hw'
  obtain ⟨xq, hw''⟩ := hw'
  subst hw''
  go_wp2
  refine bodyPost_ret (v := .agg #[.int .i64 (flr (a0 * n) d), .int .i64 (flr (a1 * n) d)]) (by simp [results, Try.results86, go_sem, hc, hf]) rfl ⟨rfl, ?_⟩
  repeat (first | exact Below.refl _ _ | (refine Below.setCell ?_ (by first | (simp; done) | (simp; omega) | omega) _) | (refine Below.alloc ?_ (by first | exact Nat.le_refl _ | (simp; done) | (simp; omega) | omega) _) | refine Below.drew ?_ | (refine Below.trans ?_ ((hb _).mono (by first | (simp; done) | (simp; omega) | omega))) | (refine Below.trans ?_ (hb1.mono (by first | (simp; done) | (simp; omega) | omega))))

theorem bd_one : Bd 1024 := ⟨by omega, by omega⟩
theorem refNormalize_any (a0 a1 : Int) (w : World) (ha0 : Bd a0) (ha1 : Bd a1) :
    Calls Try.prog 73 #[.agg #[.int .i64 a0, .int .i64 a1]] w fun e w' => e = .returned (.agg #[.int .i64 (flr (a0 * 1024) (isq (a0 * a0 + a1 * a1))), .int .i64 (flr (a1 * 1024) (isq (a0 * a0 + a1 * a1)))]) ∧ Below w.heap.size w w' := by
  go_enter Try.func73, Try.ntmps73
  go_wp2
  refine wp_region_tail 4 (by kernel_rfl) (by kernel_rfl) ?_
  intro W hK
  obtain ⟨hc, hf, hz, hb⟩ := hK
  simp only [List.take_succ_cons, List.take_zero, List.drop_succ_cons, List.drop_zero]
  repeat (go_big_quiet_step ((first | (go_at_call 87; exact met_made (refLen_any _ _ _ ha0 ha1)) | (go_at_call 86; exact met_made (refVMulDiv_any _ _ _ _ _ ha0 ha1 bd_one)))))
  refine wpQuiet_nil ?_
  intro _ hw'
  obtain ⟨xq, hw''⟩ := hw'
  subst hw''
  go_wp2
  refine bodyPost_ret (v := .agg #[.int .i64 (flr (a0 * 1024) (isq (a0 * a0 + a1 * a1))), .int .i64 (flr (a1 * 1024) (isq (a0 * a0 + a1 * a1)))]) (by simp [results, Try.results73, go_sem, hc, hf]) rfl ⟨rfl, ?_⟩
  repeat (first | exact Below.refl _ _ | (refine Below.setCell ?_ (by first | (simp; done) | (simp; omega) | omega) _) | (refine Below.alloc ?_ (by first | exact Nat.le_refl _ | (simp; done) | (simp; omega) | omega) _) | refine Below.drew ?_ | (refine Below.trans ?_ ((hb _).mono (by first | (simp; done) | (simp; omega) | omega))) | (refine Below.trans ?_ (hb1.mono (by first | (simp; done) | (simp; omega) | omega))))

theorem normalize_any (a0 a1 : Int) (w : World) (ha0 : Bd a0) (ha1 : Bd a1) :
    Calls Try.prog 85 #[.agg #[.int .i64 a0, .int .i64 a1]] w fun e w' => e = .returned (.agg #[.int .i64 (flr (a0 * 1024) (isq (a0 * a0 + a1 * a1))), .int .i64 (flr (a1 * 1024) (isq (a0 * a0 + a1 * a1)))]) ∧ Below w.heap.size w w' := by
  by_cases h0 : a0 = 0 ∧ a1 = 0
  · obtain ⟨rfl, rfl⟩ := h0
    have e : flr (0 * 1024) (isq (0 * 0 + 0 * 0)) = 0 := by decide
    rw [e]
    clear e
    go_enter Try.func85, Try.ntmps85
    go_wp2
    refine bodyPost_ret (v := .agg #[.int .i64 0, .int .i64 0]) (by simp [results, Try.results85, go_sem]) rfl ⟨rfl, ?_⟩
    repeat (first | exact Below.refl _ _ | (refine Below.setCell ?_ (by first | (simp; done) | (simp; omega) | omega) _) | (refine Below.alloc ?_ (by first | exact Nat.le_refl _ | (simp; done) | (simp; omega) | omega) _) | refine Below.drew ?_ | (refine Below.trans ?_ ((hb _).mono (by first | (simp; done) | (simp; omega) | omega))) | (refine Below.trans ?_ (hb1.mono (by first | (simp; done) | (simp; omega) | omega))))
  · have hcase : (a0 = 0 ∧ a1 ≠ 0) ∨ a0 ≠ 0 := by omega
    clear h0
    rcases hcase with ⟨rfl, h1⟩ | h1
    · have h2 : decide (a1 = 0) = false := by simpa using h1
      go_enter Try.func85, Try.ntmps85
      go_wp2
      refine wp_region_tail 5 (by kernel_rfl) (by kernel_rfl) ?_
      intro W hK
      obtain ⟨hc, hf, hz, hb⟩ := hK
      simp only [List.take_succ_cons, List.take_zero, List.drop_succ_cons, List.drop_zero]
      repeat (go_big_quiet_step ((first | (go_at_call 92; exact met_made (len_any _ _ _ ha0 ha1)) | (go_at_call 58; exact met_made (both_any _ _)) | (go_at_call 57; exact met_made (per_div _ _ _ _ _ ha0 ha1)))))
      refine wpQuiet_nil ?_
      intro _ hw'
      obtain ⟨xq, hw''⟩ := hw'
      subst hw''
      go_wp2
      refine bodyPost_ret (v := .agg #[.int .i64 (flr (0 * 1024) (isq (0 * 0 + a1 * a1))), .int .i64 (flr (a1 * 1024) (isq (0 * 0 + a1 * a1)))]) (by simp [results, Try.results85, go_sem, hc, hf]) rfl ⟨rfl, ?_⟩
      repeat (first | exact Below.refl _ _ | (refine Below.setCell ?_ (by first | (simp; done) | (simp; omega) | omega) _) | (refine Below.alloc ?_ (by first | exact Nat.le_refl _ | (simp; done) | (simp; omega) | omega) _) | refine Below.drew ?_ | (refine Below.trans ?_ ((hb _).mono (by first | (simp; done) | (simp; omega) | omega))) | (refine Below.trans ?_ (hb1.mono (by first | (simp; done) | (simp; omega) | omega))))
    · have h2 : decide (a0 = 0) = false := by simpa using h1
      go_enter Try.func85, Try.ntmps85
      go_wp2
      refine wp_region_tail 5 (by kernel_rfl) (by kernel_rfl) ?_
      intro W hK
      obtain ⟨hc, hf, hz, hb⟩ := hK
      simp only [List.take_succ_cons, List.take_zero, List.drop_succ_cons, List.drop_zero]
      repeat (go_big_quiet_step ((first | (go_at_call 92; exact met_made (len_any _ _ _ ha0 ha1)) | (go_at_call 58; exact met_made (both_any _ _)) | (go_at_call 57; exact met_made (per_div _ _ _ _ _ ha0 ha1)))))
      refine wpQuiet_nil ?_
      intro _ hw'
      obtain ⟨xq, hw''⟩ := hw'
      subst hw''
      go_wp2
      refine bodyPost_ret (v := .agg #[.int .i64 (flr (a0 * 1024) (isq (a0 * a0 + a1 * a1))), .int .i64 (flr (a1 * 1024) (isq (a0 * a0 + a1 * a1)))]) (by simp [results, Try.results85, go_sem, hc, hf]) rfl ⟨rfl, ?_⟩
      repeat (first | exact Below.refl _ _ | (refine Below.setCell ?_ (by first | (simp; done) | (simp; omega) | omega) _) | (refine Below.alloc ?_ (by first | exact Nat.le_refl _ | (simp; done) | (simp; omega) | omega) _) | refine Below.drew ?_ | (refine Below.trans ?_ ((hb _).mono (by first | (simp; done) | (simp; omega) | omega))) | (refine Below.trans ?_ (hb1.mono (by first | (simp; done) | (simp; omega) | omega))))
end Go.Proofs.Ytfbgghkkgmgnjaa
