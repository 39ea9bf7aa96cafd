/- Package shape: extent along Y, along an axis. -/
import Derived.Test.YtfbgghkkgmgnjaaShapeC
namespace Go.Proofs.Ytfbgghkkgmgnjaa
open Go.ChangeShapes Go.WideShapes Go.ChangeAt Go.RowKit
open Fxm
set_option linter.unusedSimpArgs false
set_option linter.unusedVariables false

set_option maxHeartbeats 4000000 in
theorem extentY_any (q0 q1 : Int) (g cap : Nat) (vs : List (Int × Int)) (w : World) (hR : Row w g cap vs) (hl : 3 ≤ vs.length) (hl2 : vs.length ≤ 1000) (hS : Small vs) (h0 : Bp q0) (h1 : Bp q1) :
    Calls Try.prog 54 #[.agg #[.int .i64 0, .slice (some ⟨g, 0, none⟩) vs.length cap], .agg #[.int .i64 q0, .int .i64 q1], .func (.func 56) #[] #[]] w fun e w' =>
      e = .returned (.tuple #[.int .i64 (lo (fun p => q1 + p.2) vs vs.length), .int .i64 (hi (fun p => q1 + p.2) vs vs.length)]) ∧ Below w.heap.size w w' := by
  obtain ⟨F, hF⟩ : ∃ F : Int × Int → Int, F = fun p => q1 + p.2 := ⟨_, rfl⟩
  have M : ∀ (p : Int × Int) (w : World), Calls Try.prog 56 #[.agg #[.int .i64 (q0 + p.1), .int .i64 (q1 + p.2)]] w fun e w' => e = .returned (.int .i64 (F p)) ∧ Below w.heap.size w w' := fun p w => by rw [hF]; exact measY_any _ _ _
  rw [← hF]
  have hM := Lib.hid M
  clear M hF
  have hcap := hR.le
  have hmax := hR.max
  unfold maxLen at hmax
  have hR' := Lib.hid hR
  have hS' := Lib.hid hS
  have hl0 : ((vs.length : Int) == 0) = false := by simp only [beq_eq_false_iff_ne, ne_eq]; omega
  have hlb : (vs.length : Int) ≤ 1000 := by omega
  have hl1 : (1 : Int) ≤ (vs.length : Int) := by omega
  go_enter Try.func54, Try.ntmps54
  have hb0 := below_step (alloc_below w (.cells #[.int .i64 0, .slice (some ⟨g, 0, none⟩) vs.length cap] 25)) (alloc_below _ (.cells #[.int .i64 q0, .int .i64 q1] 28))
  have hRw := Lib.hid (hR'.out.carry hb0)
  have c2 : ((w.alloc (.cells #[.int .i64 0, .slice (some ⟨g, 0, none⟩) vs.length cap] 25)).alloc (.cells #[.int .i64 q0, .int .i64 q1] 28)).cell? ⟨w.heap.size, 1, none⟩ = some (.slice (some ⟨g, 0, none⟩) vs.length cap) := by simp
  have x0 : ((w.alloc (.cells #[.int .i64 0, .slice (some ⟨g, 0, none⟩) vs.length cap] 25)).alloc (.cells #[.int .i64 q0, .int .i64 q1] 28)).cell? ⟨w.heap.size + 1, 0, none⟩ = some (.int .i64 q0) := by simp
  have x1 : ((w.alloc (.cells #[.int .i64 0, .slice (some ⟨g, 0, none⟩) vs.length cap] 25)).alloc (.cells #[.int .i64 q0, .int .i64 q1] 28)).cell? ⟨w.heap.size + 1, 1, none⟩ = some (.int .i64 q1) := by simp
  skip
  go_wp2_with fail
  generalize (w.alloc (.cells #[.int .i64 0, .slice (some ⟨g, 0, none⟩) vs.length cap] 25)).alloc (.cells #[.int .i64 q0, .int .i64 q1] 28) = w1 at *
  obtain ⟨vx, vy⟩ := hRw.out.at (i := 0) (by omega)
  rw [Nat.zero_mul] at vx vy
  obtain ⟨s0, s1⟩ := hS'.out 0 (by omega)
  have k1 := fun w => add_any q0 q1 (at' vs 0).1 (at' vs 0).2 w h0.bd h1.bd (small_bd s0) (small_bd s1)
  have k2 := hM.out (at' vs 0) 
  obtain ⟨E, hE⟩ : ∃ E, E = F (at' vs 0) := ⟨_, rfl⟩
  rw [← hE] at k2
  have hE' := Lib.hid hE
  clear hE
  generalize (at' vs 0).1 = v0 at *
  generalize (at' vs 0).2 = v1 at *
  have hk := Lib.hid (And.intro k1 k2)
  clear k1 k2
  refine wp_region_made (by kernel_rfl) (by kernel_rfl) ?_
  intro W hK
  have g_c2 := fun x => carry ((hK.below x)) c2
  have g_x0 := fun x => carry ((hK.below x)) x0
  have g_x1 := fun x => carry ((hK.below x)) x1
  have g_vx := fun x => carry ((hK.below x)) vx
  have g_vy := fun x => carry ((hK.below x)) vy
  repeat (go_big_quiet_step ((first | (go_at_call 25; with_reducible exact met_made (hk.out.1 _)) | (go_at_call 56; with_reducible exact met_made (hk.out.2 _)))))
  refine wpQuiet_nil ?_
  intro wq hw'
  have hbq := kept_in hK hw'
  clear g_c2 g_x0 g_x1 g_vx g_vy
  clear hw' hK W
  replace c2 := carry (hbq) c2
  replace x0 := carry (hbq) x0
  replace x1 := carry (hbq) x1
  replace vx := carry (hbq) vx
  replace vy := carry (hbq) vy
  have hRq := Lib.hid (hRw.out.carry hbq)
  have hBq := below_step hb0 hbq
  clear hRw hbq hb0 vx vy
  go_wp2_with fail
  go_loopw [6, 7, 40] (fun l h i wr => ∃ k : Nat, k + 1 ≤ vs.length ∧ i = .int .i64 k ∧ l = .int .i64 (lo F vs (k + 1)) ∧ h = .int .i64 (hi F vs (k + 1)) ∧ Below wq.heap.size wq wr) (fun _ _ i _ => vs.length - (intOf i).toNat)
  case atStart =>
    refine ⟨0, by omega, rfl, ?_, ?_, Below.refl _ _⟩
    · rw [lo_one F (by omega), ← hE'.out]
    · rw [hi_one F (by omega), ← hE'.out]
  case round =>
    obtain ⟨k, hkl, rfl, rfl, rfl, hbl⟩ := hrel
    by_cases hlt : k + 1 < vs.length
    · replace c2 := carry hbl c2
      replace x0 := carry hbl x0
      replace x1 := carry hbl x1
      have hvv := (hRq.out.carry hbl).at hlt
      rw [show (k + 1) * 2 = 2 + k * 2 by omega] at hvv
      obtain ⟨vx, vy⟩ := hvv
      skip
      obtain ⟨s0, s1⟩ := hS'.out (k + 1) hlt
      have k1 := fun w => add_any q0 q1 (at' vs (k + 1)).1 (at' vs (k + 1)).2 w h0.bd h1.bd (small_bd s0) (small_bd s1)
      have k2 := hM.out (at' vs (k + 1)) 
      have ls := Lib.hid (lo_succ F hlt)
      have us := Lib.hid (hi_succ F hlt)
      generalize F (at' vs (k + 1)) = X at *
      generalize lo F vs (k + 1) = zl at *
      generalize hi F vs (k + 1) = zh at *
      generalize (at' vs (k + 1)).1 = v0 at *
      generalize (at' vs (k + 1)).2 = v1 at *
      have hk := Lib.hid (And.intro k1 k2)
      clear k1 k2
      have hk1 : k < vs.length - 1 := by omega
      have hmn := min_if zl X
      have hmx := max_if zh X
      generalize hZ : min zl X = zl' at hmn
      generalize hZ2 : max zh X = zh' at hmx
      have hZ' := Lib.hid (And.intro hZ hZ2)
      clear hZ hZ2
      have n0 := block_lt_of_cell x0
      have n1 := block_lt_of_cell c2
      simp only at n0 n1
      go_wp2_with fail
      go_at_call 25
      refine (hk.out.1 _).mono ?_
      rintro e w3 ⟨rfl, hb3⟩
      skip
      have hb3' := below_step (alloc_below wr (.cells #[.int .i64 v0, .int .i64 v1] 28)) hb3
      clear hb3
      go_wp2_with fail
      go_at_call 56
      refine (hk.out.2 _).mono ?_
      rintro e w4 ⟨rfl, hb4⟩
      go_wp2
      go_roundw
      case rel => exact ⟨k + 1, by omega, by go_num, by rw [ls.out, hZ'.out.1], by rw [us.out, hZ'.out.2], below_step hbl (below_step hb3' hb4)⟩
      case measure => simp [intOf]; omega
    · obtain rfl : k = vs.length - 1 := by omega
      have he : vs.length - 1 + 1 = vs.length := by omega
      rw [he]
      have he' := Lib.hid he
      clear he hlt
      go_wp2
      go_ret2
      exact ⟨rfl, below_step hBq hbl⟩

set_option maxHeartbeats 4000000 in
theorem extentP_any (q0 q1 a0 a1 : Int) (b g cap : Nat) (vs : List (Int × Int)) (w : World) (hR : Row w g cap vs) (hl : 3 ≤ vs.length) (hl2 : vs.length ≤ 1000) (hS : Small vs) (h0 : Bp q0) (h1 : Bp q1) (hA0 : w.cell? ⟨b, 0, none⟩ = some (.int .i64 a0)) (hA1 : w.cell? ⟨b, 1, none⟩ = some (.int .i64 a1)) (ha0 : Bd a0) (ha1 : Bd a1) :
    Calls Try.prog 54 #[.agg #[.int .i64 0, .slice (some ⟨g, 0, none⟩) vs.length cap], .agg #[.int .i64 q0, .int .i64 q1], .func (.func 88) #[] #[.pointer (some ⟨b, 0, none⟩)]] w fun e w' =>
      e = .returned (.tuple #[.int .i64 (lo (dotV q0 q1 a0 a1) vs vs.length), .int .i64 (hi (dotV q0 q1 a0 a1) vs vs.length)]) ∧ Below w.heap.size w w' := by
  obtain ⟨F, hF⟩ : ∃ F : Int × Int → Int, F = dotV q0 q1 a0 a1 := ⟨_, rfl⟩
  have M : ∀ (p : Int × Int), Bd (q0 + p.1) → Bd (q1 + p.2) → ∀ (w : World), w.cell? ⟨b, 0, none⟩ = some (.int .i64 a0) → w.cell? ⟨b, 1, none⟩ = some (.int .i64 a1) → Calls Try.prog 88 #[.agg #[.int .i64 (q0 + p.1), .int .i64 (q1 + p.2)], .pointer (some ⟨b, 0, none⟩)] w fun e w' => e = .returned (.int .i64 (F p)) ∧ Below w.heap.size w w' := fun p c0 c1 w k0 k1 => by rw [hF]; exact measP_any _ _ _ _ _ _ k0 k1 c0 c1 ha0 ha1
  have hA := Lib.hid (And.intro hA0 hA1)
  clear hA0 hA1
  rw [← hF]
  have hM := Lib.hid M
  clear M hF
  have hcap := hR.le
  have hmax := hR.max
  unfold maxLen at hmax
  have hR' := Lib.hid hR
  have hS' := Lib.hid hS
  have hl0 : ((vs.length : Int) == 0) = false := by simp only [beq_eq_false_iff_ne, ne_eq]; omega
  have hlb : (vs.length : Int) ≤ 1000 := by omega
  have hl1 : (1 : Int) ≤ (vs.length : Int) := by omega
  go_enter Try.func54, Try.ntmps54
  have hb0 := below_step (alloc_below w (.cells #[.int .i64 0, .slice (some ⟨g, 0, none⟩) vs.length cap] 25)) (alloc_below _ (.cells #[.int .i64 q0, .int .i64 q1] 28))
  have hRw := Lib.hid (hR'.out.carry hb0)
  have c2 : ((w.alloc (.cells #[.int .i64 0, .slice (some ⟨g, 0, none⟩) vs.length cap] 25)).alloc (.cells #[.int .i64 q0, .int .i64 q1] 28)).cell? ⟨w.heap.size, 1, none⟩ = some (.slice (some ⟨g, 0, none⟩) vs.length cap) := by simp
  have x0 : ((w.alloc (.cells #[.int .i64 0, .slice (some ⟨g, 0, none⟩) vs.length cap] 25)).alloc (.cells #[.int .i64 q0, .int .i64 q1] 28)).cell? ⟨w.heap.size + 1, 0, none⟩ = some (.int .i64 q0) := by simp
  have x1 : ((w.alloc (.cells #[.int .i64 0, .slice (some ⟨g, 0, none⟩) vs.length cap] 25)).alloc (.cells #[.int .i64 q0, .int .i64 q1] 28)).cell? ⟨w.heap.size + 1, 1, none⟩ = some (.int .i64 q1) := by simp
  (have A0 := carry hb0 hA.out.1; have A1 := carry hb0 hA.out.2)
  go_wp2_with fail
  generalize (w.alloc (.cells #[.int .i64 0, .slice (some ⟨g, 0, none⟩) vs.length cap] 25)).alloc (.cells #[.int .i64 q0, .int .i64 q1] 28) = w1 at *
  obtain ⟨vx, vy⟩ := hRw.out.at (i := 0) (by omega)
  rw [Nat.zero_mul] at vx vy
  obtain ⟨s0, s1⟩ := hS'.out 0 (by omega)
  have k1 := fun w => add_any q0 q1 (at' vs 0).1 (at' vs 0).2 w h0.bd h1.bd (small_bd s0) (small_bd s1)
  have k2 := hM.out (at' vs 0) (h0.add s0) (h1.add s1)
  obtain ⟨E, hE⟩ : ∃ E, E = F (at' vs 0) := ⟨_, rfl⟩
  rw [← hE] at k2
  have hE' := Lib.hid hE
  clear hE
  generalize (at' vs 0).1 = v0 at *
  generalize (at' vs 0).2 = v1 at *
  have hk := Lib.hid (And.intro k1 k2)
  clear k1 k2
  refine wp_region_made (by kernel_rfl) (by kernel_rfl) ?_
  intro W hK
  have g_c2 := fun x => carry ((hK.below x)) c2
  have g_x0 := fun x => carry ((hK.below x)) x0
  have g_x1 := fun x => carry ((hK.below x)) x1
  have g_vx := fun x => carry ((hK.below x)) vx
  have g_vy := fun x => carry ((hK.below x)) vy
  have g_A0 := fun x => carry ((hK.below x)) A0
  have g_A1 := fun x => carry ((hK.below x)) A1
  repeat (go_big_quiet_step ((first | (go_at_call 25; with_reducible exact met_made (hk.out.1 _)) | (go_at_call 88; with_reducible exact met_made (hk.out.2 _ (g_A0 _) (g_A1 _))))))
  refine wpQuiet_nil ?_
  intro wq hw'
  have hbq := kept_in hK hw'
  clear g_c2 g_x0 g_x1 g_vx g_vy g_A0 g_A1
  clear hw' hK W
  replace c2 := carry (hbq) c2
  replace x0 := carry (hbq) x0
  replace x1 := carry (hbq) x1
  replace vx := carry (hbq) vx
  replace vy := carry (hbq) vy
  replace A0 := carry (hbq) A0
  replace A1 := carry (hbq) A1
  have hRq := Lib.hid (hRw.out.carry hbq)
  have hBq := below_step hb0 hbq
  clear hRw hbq hb0 vx vy
  go_wp2_with fail
  go_loopw [6, 7, 40] (fun l h i wr => ∃ k : Nat, k + 1 ≤ vs.length ∧ i = .int .i64 k ∧ l = .int .i64 (lo F vs (k + 1)) ∧ h = .int .i64 (hi F vs (k + 1)) ∧ Below wq.heap.size wq wr) (fun _ _ i _ => vs.length - (intOf i).toNat)
  case atStart =>
    refine ⟨0, by omega, rfl, ?_, ?_, Below.refl _ _⟩
    · rw [lo_one F (by omega), ← hE'.out]
    · rw [hi_one F (by omega), ← hE'.out]
  case round =>
    obtain ⟨k, hkl, rfl, rfl, rfl, hbl⟩ := hrel
    by_cases hlt : k + 1 < vs.length
    · replace c2 := carry hbl c2
      replace x0 := carry hbl x0
      replace x1 := carry hbl x1
      have hvv := (hRq.out.carry hbl).at hlt
      rw [show (k + 1) * 2 = 2 + k * 2 by omega] at hvv
      obtain ⟨vx, vy⟩ := hvv
      (replace A0 := carry hbl A0; replace A1 := carry hbl A1)
      obtain ⟨s0, s1⟩ := hS'.out (k + 1) hlt
      have k1 := fun w => add_any q0 q1 (at' vs (k + 1)).1 (at' vs (k + 1)).2 w h0.bd h1.bd (small_bd s0) (small_bd s1)
      have k2 := hM.out (at' vs (k + 1)) (h0.add s0) (h1.add s1)
      have ls := Lib.hid (lo_succ F hlt)
      have us := Lib.hid (hi_succ F hlt)
      generalize F (at' vs (k + 1)) = X at *
      generalize lo F vs (k + 1) = zl at *
      generalize hi F vs (k + 1) = zh at *
      generalize (at' vs (k + 1)).1 = v0 at *
      generalize (at' vs (k + 1)).2 = v1 at *
      have hk := Lib.hid (And.intro k1 k2)
      clear k1 k2
      have hk1 : k < vs.length - 1 := by omega
      have hmn := min_if zl X
      have hmx := max_if zh X
      generalize hZ : min zl X = zl' at hmn
      generalize hZ2 : max zh X = zh' at hmx
      have hZ' := Lib.hid (And.intro hZ hZ2)
      clear hZ hZ2
      have n0 := block_lt_of_cell x0
      have n1 := block_lt_of_cell c2
      simp only at n0 n1
      go_wp2_with fail
      go_at_call 25
      refine (hk.out.1 _).mono ?_
      rintro e w3 ⟨rfl, hb3⟩
      (replace A0 := carry hb3 (carry (alloc_below _ _) A0); replace A1 := carry hb3 (carry (alloc_below _ _) A1))
      have hb3' := below_step (alloc_below wr (.cells #[.int .i64 v0, .int .i64 v1] 28)) hb3
      clear hb3
      go_wp2_with fail
      go_at_call 88
      refine (hk.out.2 _ A0 A1).mono ?_
      rintro e w4 ⟨rfl, hb4⟩
      go_wp2
      go_roundw
      case rel => exact ⟨k + 1, by omega, by go_num, by rw [ls.out, hZ'.out.1], by rw [us.out, hZ'.out.2], below_step hbl (below_step hb3' hb4)⟩
      case measure => simp [intOf]; omega
    · obtain rfl : k = vs.length - 1 := by omega
      have he : vs.length - 1 + 1 = vs.length := by omega
      rw [he]
      have he' := Lib.hid he
      clear he hlt
      go_wp2
      go_ret2
      exact ⟨rfl, below_step hBq hbl⟩

/-! ### Bounds, Project -/
theorem boundsC_any (r q0 q1 : Int) (w : World) (hr : 0 ≤ r ∧ r ≤ 32768) (h0 : Bp q0) (h1 : Bp q1) :
    Calls Try.prog 22 #[.agg #[.int .i64 r, .slice none 0 0], .agg #[.int .i64 q0, .int .i64 q1]] w fun e w' => e = .returned (.agg #[.int .i64 (q0 - r), .int .i64 (q1 - r), .int .i64 (q0 + r), .int .i64 (q1 + r)]) ∧ Below w.heap.size w w' := by
  have K := Lib.hid (And.intro (fun w' (_ : Below w.heap.size w w') => extentXC_any r q0 q1 w' hr h0 h1) (fun w' (_ : Below w.heap.size w w') => extentYC_any r q0 q1 w' hr h0 h1))
  go_enter Try.func22, Try.ntmps22
  have hB0 := below_step (below_step (alloc_below w (.cells #[.int .i64 (r), .slice none 0 0] 25)) (alloc_below _ (.cells #[.int .i64 q0, .int .i64 q1] 28))) (alloc_below _ (.cells #[.int .i64 0, .int .i64 0, .int .i64 0, .int .i64 0] 41))
  go_wp2_with fail
  refine (K.out.1 _ hB0).mono ?_
  rintro e w1 ⟨rfl, hb1⟩
  have c0 : w1.cell? ⟨w.heap.size, 0, none⟩ = some (.int .i64 (r)) := carry hb1 (by simp [go_sem])
  have c1 : w1.cell? ⟨w.heap.size, 1, none⟩ = some (.slice none 0 0) := carry hb1 (by simp [go_sem])
  have p0 : w1.cell? ⟨w.heap.size + 1, 0, none⟩ = some (.int .i64 q0) := carry hb1 (by simp [go_sem])
  have p1 : w1.cell? ⟨w.heap.size + 1, 1, none⟩ = some (.int .i64 q1) := carry hb1 (by simp [go_sem])
  have r0 : w1.cell? ⟨w.heap.size + 1 + 1, 0, none⟩ = some (.int .i64 0) := carry hb1 (by simp [go_sem])
  have r1 : w1.cell? ⟨w.heap.size + 1 + 1, 1, none⟩ = some (.int .i64 0) := carry hb1 (by simp [go_sem])
  have r2 : w1.cell? ⟨w.heap.size + 1 + 1, 2, none⟩ = some (.int .i64 0) := carry hb1 (by simp [go_sem])
  have r3 : w1.cell? ⟨w.heap.size + 1 + 1, 3, none⟩ = some (.int .i64 0) := carry hb1 (by simp [go_sem])
  have f0 : ∀ k, w1.frozen? ⟨w.heap.size + 1 + 1, k, none⟩ = false := fun k => (hb1.frozen (by simp)).trans (by simp [go_sem])
  go_wp2_with fail
  have hB1 := below_step hB0 hb1
  refine (K.out.2 _ hB1).mono ?_
  rintro e w2 ⟨rfl, hb2⟩
  have hl1 : w.heap.size + 1 + 1 < w1.heap.size := block_lt_of_cell r1
  replace r0 := carry hb2 r0
  have g0 := (hb2.frozen (p := ⟨w.heap.size + 1 + 1, 0, none⟩) hl1).trans (f0 0)
  have g1 := (hb2.frozen (p := ⟨w.heap.size + 1 + 1, 1, none⟩) hl1).trans (f0 1)
  have g2 := (hb2.frozen (p := ⟨w.heap.size + 1 + 1, 2, none⟩) hl1).trans (f0 2)
  have g3 := (hb2.frozen (p := ⟨w.heap.size + 1 + 1, 3, none⟩) hl1).trans (f0 3)
  replace r1 := carry hb2 r1
  replace r2 := carry hb2 r2
  replace r3 := carry hb2 r3
  clear f0
  go_wp2
  refine bodyPost_ret (v := .agg #[.int .i64 (q0 - r), .int .i64 (q1 - r), .int .i64 (q0 + r), .int .i64 (q1 + r)]) (by simp [results, Try.results22, go_sem, r0, r1, r2, r3]) rfl ⟨rfl, ?_⟩
  exact ((((below_step hB1 hb2).setCell (by simp; omega) _).setCell (by simp; omega) _).setCell (by simp; omega) _).setCell (by simp; omega) _
theorem bounds_any (q0 q1 : Int) (g cap : Nat) (vs : List (Int × Int)) (w : World) (hR : Row w g cap vs) (hl : 3 ≤ vs.length) (hl2 : vs.length ≤ 1000) (hS : Small vs) (h0 : Bp q0) (h1 : Bp q1) :
    Calls Try.prog 22 #[.agg #[.int .i64 0, .slice (some ⟨g, 0, none⟩) vs.length cap], .agg #[.int .i64 q0, .int .i64 q1]] w fun e w' =>
      e = .returned (.agg #[.int .i64 (lo (fun p => q0 + p.1) vs vs.length), .int .i64 (lo (fun p => q1 + p.2) vs vs.length), .int .i64 (hi (fun p => q0 + p.1) vs vs.length), .int .i64 (hi (fun p => q1 + p.2) vs vs.length)]) ∧ Below w.heap.size w w' := by
  have k1 := fun w' (hb : Below w.heap.size w w') => extentX_any q0 q1 g cap vs w' (hR.carry hb) hl hl2 hS h0 h1
  have k2 := fun w' (hb : Below w.heap.size w w') => extentY_any q0 q1 g cap vs w' (hR.carry hb) hl hl2 hS h0 h1
  generalize lo (fun p => q0 + p.1) vs vs.length = xa at *
  generalize lo (fun p => q1 + p.2) vs vs.length = ya at *
  generalize hi (fun p => q0 + p.1) vs vs.length = xb at *
  generalize hi (fun p => q1 + p.2) vs vs.length = yb at *
  have K := Lib.hid (And.intro k1 k2)
  clear k1 k2
  go_enter Try.func22, Try.ntmps22
  have hB0 := below_step (below_step (alloc_below w (.cells #[.int .i64 (0), .slice (some ⟨g, 0, none⟩) vs.length cap] 25)) (alloc_below _ (.cells #[.int .i64 q0, .int .i64 q1] 28))) (alloc_below _ (.cells #[.int .i64 0, .int .i64 0, .int .i64 0, .int .i64 0] 41))
  go_wp2_with fail
  refine (K.out.1 _ hB0).mono ?_
  rintro e w1 ⟨rfl, hb1⟩
  have c0 : w1.cell? ⟨w.heap.size, 0, none⟩ = some (.int .i64 (0)) := carry hb1 (by simp [go_sem])
  have c1 : w1.cell? ⟨w.heap.size, 1, none⟩ = some (.slice (some ⟨g, 0, none⟩) vs.length cap) := carry hb1 (by simp [go_sem])
  have p0 : w1.cell? ⟨w.heap.size + 1, 0, none⟩ = some (.int .i64 q0) := carry hb1 (by simp [go_sem])
  have p1 : w1.cell? ⟨w.heap.size + 1, 1, none⟩ = some (.int .i64 q1) := carry hb1 (by simp [go_sem])
  have r0 : w1.cell? ⟨w.heap.size + 1 + 1, 0, none⟩ = some (.int .i64 0) := carry hb1 (by simp [go_sem])
  have r1 : w1.cell? ⟨w.heap.size + 1 + 1, 1, none⟩ = some (.int .i64 0) := carry hb1 (by simp [go_sem])
  have r2 : w1.cell? ⟨w.heap.size + 1 + 1, 2, none⟩ = some (.int .i64 0) := carry hb1 (by simp [go_sem])
  have r3 : w1.cell? ⟨w.heap.size + 1 + 1, 3, none⟩ = some (.int .i64 0) := carry hb1 (by simp [go_sem])
  have f0 : ∀ k, w1.frozen? ⟨w.heap.size + 1 + 1, k, none⟩ = false := fun k => (hb1.frozen (by simp)).trans (by simp [go_sem])
  go_wp2_with fail
  have hB1 := below_step hB0 hb1
  refine (K.out.2 _ hB1).mono ?_
  rintro e w2 ⟨rfl, hb2⟩
  have hl1 : w.heap.size + 1 + 1 < w1.heap.size := block_lt_of_cell r1
  replace r0 := carry hb2 r0
  have g0 := (hb2.frozen (p := ⟨w.heap.size + 1 + 1, 0, none⟩) hl1).trans (f0 0)
  have g1 := (hb2.frozen (p := ⟨w.heap.size + 1 + 1, 1, none⟩) hl1).trans (f0 1)
  have g2 := (hb2.frozen (p := ⟨w.heap.size + 1 + 1, 2, none⟩) hl1).trans (f0 2)
  have g3 := (hb2.frozen (p := ⟨w.heap.size + 1 + 1, 3, none⟩) hl1).trans (f0 3)
  replace r1 := carry hb2 r1
  replace r2 := carry hb2 r2
  replace r3 := carry hb2 r3
  clear f0
  go_wp2
  refine bodyPost_ret (v := .agg #[.int .i64 (xa), .int .i64 (ya), .int .i64 (xb), .int .i64 (yb)]) (by simp [results, Try.results22, go_sem, r0, r1, r2, r3]) rfl ⟨rfl, ?_⟩
  exact ((((below_step hB1 hb2).setCell (by simp; omega) _).setCell (by simp; omega) _).setCell (by simp; omega) _).setCell (by simp; omega) _
theorem projC_any (r q0 q1 a0 a1 : Int) (w : World) (hr : 0 ≤ r ∧ r ≤ 32768) (h0 : Bp q0) (h1 : Bp q1) (h2 : Bd a0) (h3 : Bd a1) :
    Calls Try.prog 74 #[.agg #[.int .i64 r, .slice none 0 0], .agg #[.int .i64 q0, .int .i64 q1], .agg #[.int .i64 a0, .int .i64 a1]] w fun e w' => e = .returned (.tuple #[.int .i64 (flr (q0 * a0 + q1 * a1) 1024 - r), .int .i64 (flr (q0 * a0 + q1 * a1) 1024 + r)]) ∧ Below w.heap.size w w' := by
  have k := fun b w' (_ : Below w.heap.size w w') k0 k1 => extentPC_any r q0 q1 a0 a1 b w' hr h0 h1 k0 k1 h2 h3
  generalize flr (q0 * a0 + q1 * a1) 1024 - r = D at *
  generalize flr (q0 * a0 + q1 * a1) 1024 + r = E at *
  have K := Lib.hid k
  clear k
  go_enter Try.func74, Try.ntmps74
  have hB0 := below_step (below_step (alloc_below w (.cells #[.int .i64 (r), .slice none 0 0] 25)) (alloc_below _ (.cells #[.int .i64 q0, .int .i64 q1] 28))) (alloc_below _ (.cells #[.int .i64 a0, .int .i64 a1] 28))
  have A0 := World.cell?_alloc_new (w := (w.alloc (.cells #[.int .i64 (r), .slice none 0 0] 25)).alloc (.cells #[.int .i64 q0, .int .i64 q1] 28)) #[.int .i64 a0, .int .i64 a1] 28 0
  have A1 := World.cell?_alloc_new (w := (w.alloc (.cells #[.int .i64 (r), .slice none 0 0] 25)).alloc (.cells #[.int .i64 q0, .int .i64 q1] 28)) #[.int .i64 a0, .int .i64 a1] 28 1
  rw [World.size_alloc, World.size_alloc] at A0 A1
  go_wp2_with fail
  refine (K.out _ _ hB0 A0 A1).mono ?_
  rintro e w1 ⟨rfl, hb1⟩
  go_wp2
  go_ret2
  exact ⟨rfl, below_step hB0 hb1⟩
theorem proj_any (q0 q1 a0 a1 : Int) (g cap : Nat) (vs : List (Int × Int)) (w : World) (hR : Row w g cap vs) (hl : 3 ≤ vs.length) (hl2 : vs.length ≤ 1000) (hS : Small vs) (h0 : Bp q0) (h1 : Bp q1) (h2 : Bd a0) (h3 : Bd a1) :
    Calls Try.prog 74 #[.agg #[.int .i64 0, .slice (some ⟨g, 0, none⟩) vs.length cap], .agg #[.int .i64 q0, .int .i64 q1], .agg #[.int .i64 a0, .int .i64 a1]] w fun e w' =>
      e = .returned (.tuple #[.int .i64 (lo (dotV q0 q1 a0 a1) vs vs.length), .int .i64 (hi (dotV q0 q1 a0 a1) vs vs.length)]) ∧ Below w.heap.size w w' := by
  have k := fun b w' (hb : Below w.heap.size w w') k0 k1 => extentP_any q0 q1 a0 a1 b g cap vs w' (hR.carry hb) hl hl2 hS h0 h1 k0 k1 h2 h3
  generalize lo (dotV q0 q1 a0 a1) vs vs.length = D at *
  generalize hi (dotV q0 q1 a0 a1) vs vs.length = E at *
  have K := Lib.hid k
  clear k
  go_enter Try.func74, Try.ntmps74
  have hB0 := below_step (below_step (alloc_below w (.cells #[.int .i64 (0), .slice (some ⟨g, 0, none⟩) vs.length cap] 25)) (alloc_below _ (.cells #[.int .i64 q0, .int .i64 q1] 28))) (alloc_below _ (.cells #[.int .i64 a0, .int .i64 a1] 28))
  have A0 := World.cell?_alloc_new (w := (w.alloc (.cells #[.int .i64 (0), .slice (some ⟨g, 0, none⟩) vs.length cap] 25)).alloc (.cells #[.int .i64 q0, .int .i64 q1] 28)) #[.int .i64 a0, .int .i64 a1] 28 0
  have A1 := World.cell?_alloc_new (w := (w.alloc (.cells #[.int .i64 (0), .slice (some ⟨g, 0, none⟩) vs.length cap] 25)).alloc (.cells #[.int .i64 q0, .int .i64 q1] 28)) #[.int .i64 a0, .int .i64 a1] 28 1
  rw [World.size_alloc, World.size_alloc] at A0 A1
  go_wp2_with fail
  refine (K.out _ _ hB0 A0 A1).mono ?_
  rintro e w1 ⟨rfl, hb1⟩
  go_wp2
  go_ret2
  exact ⟨rfl, below_step hB0 hb1⟩
end Go.Proofs.Ytfbgghkkgmgnjaa
