/-
  Proved: arenanetlaw03.ShapeConvex returns true for all three ints and both arrays of two ints, and leaves its arguments as they were. No further condition.
-/
import Derived.Test.YtololgefpjjpjaaRows
import Derived.WalkKit
import Derived.ProofKit
import Derived.OpenShut
import Derived.Test.YtololgefpjjpjaaLawKit
import Derived.Test.YtololgefpjjpjaaShapeK
import Derived.Test.YtololgefpjjpjaaMadeAlloc
namespace Go.Proofs.Ytololgefpjjpjaa.shapeConvex
open Go.ChangeShapes Go.WideShapes Go.ChangeAt Go.RowKit
set_option linter.unusedVariables false
set_option linter.unusedSimpArgs false

open Fxm
theorem own : ownKnob Try.prog.godebug = none := by kernel_rfl

set_option maxHeartbeats 2000000 in
theorem walk (a0 : Int) (w0 : (Lit.int .i64 a0).wf = true) (a1 : Int) (w1 : (Lit.int .i64 a1).wf = true) (a2 : Int) (w2 : (Lit.int .i64 a2).wf = true) (a3_0 : Int) (a3_1 : Int) (w3_0 : (Lit.int .i64 a3_0).wf = true) (w3_1 : (Lit.int .i64 a3_1).wf = true) (a4_0 : Int) (a4_1 : Int) (w4_0 : (Lit.int .i64 a4_0).wf = true) (w4_1 : (Lit.int .i64 a4_1).wf = true) (w : World) :
    Calls Try.prog 6 #[.int .i64 a0, .int .i64 a1, .int .i64 a2, .agg #[.int .i64 a3_0, .int .i64 a3_1], .agg #[.int .i64 a4_0, .int .i64 a4_1]] w fun e w' => e = .returned (.bool true) ∧ Below w.heap.size w w' := by
  go_enter Try.func6, Try.ntmps6
  go_wp2_with fail
  refine (shapes_any _ _ w0).mono ?_
  rintro e u1 ⟨s, rfl, hs, hb1⟩
  have vo0 : u1.cell? ⟨w.heap.size, 0, none⟩ = some (.int .i64 a3_0) := carry hb1 (by simp)
  have vo1 : u1.cell? ⟨w.heap.size, 1, none⟩ = some (.int .i64 a3_1) := carry hb1 (by simp)
  have vr0 : u1.cell? ⟨w.heap.size + 1, 0, none⟩ = some (.int .i64 a4_0) := carry hb1 (by simp)
  have vr1 : u1.cell? ⟨w.heap.size + 1, 1, none⟩ = some (.int .i64 a4_1) := carry hb1 (by simp)
  have hB := below_step (below_step (alloc_below _ _) (alloc_below _ _)) hb1
  clear hb1
  go_wp2_with fail
  with_reducible refine (of_any _ _ _ (wrap64_wf _) (wrap64_wf _)).mono ?_
  rintro e u2 ⟨⟨q0, q1, hq0, hq1, rfl⟩, hb2⟩
  replace vo0 := carry (below_step (alloc_below u1 (.cells #[.int .i64 s.r, .slice s.a s.n s.cap] 24)) hb2) vo0
  replace vo1 := carry (below_step (alloc_below u1 (.cells #[.int .i64 s.r, .slice s.a s.n s.cap] 24)) hb2) vo1
  replace vr0 := carry (below_step (alloc_below u1 (.cells #[.int .i64 s.r, .slice s.a s.n s.cap] 24)) hb2) vr0
  replace vr1 := carry (below_step (alloc_below u1 (.cells #[.int .i64 s.r, .slice s.a s.n s.cap] 24)) hb2) vr1
  have s0 := carry hb2 (a := ⟨u1.heap.size, 0, none⟩) (v := .int .i64 s.r) (by simp)
  have s1 := carry hb2 (a := ⟨u1.heap.size, 1, none⟩) (v := .slice s.a s.n s.cap) (by simp)
  replace hB := below_step (below_step hB (alloc_below _ _)) hb2
  replace hs := (hs.carry (alloc_below _ _)).carry hb2
  clear hb2
  have vq0 : (u2.alloc (.cells #[.int .i64 (q0), .int .i64 (q1)] 34)).cell? ⟨u2.heap.size, 0, none⟩ = some (.int .i64 (q0)) := World.cell?_alloc_new (w := u2) #[.int .i64 (q0), .int .i64 (q1)] 34 0
  have vq1 : (u2.alloc (.cells #[.int .i64 (q0), .int .i64 (q1)] 34)).cell? ⟨u2.heap.size, 1, none⟩ = some (.int .i64 (q1)) := World.cell?_alloc_new (w := u2) #[.int .i64 (q0), .int .i64 (q1)] 34 1
  replace s0 := carry (alloc_below u2 (.cells #[.int .i64 (q0), .int .i64 (q1)] 34)) s0
  replace s1 := carry (alloc_below u2 (.cells #[.int .i64 (q0), .int .i64 (q1)] 34)) s1
  replace vo0 := carry (alloc_below u2 (.cells #[.int .i64 (q0), .int .i64 (q1)] 34)) vo0
  replace vo1 := carry (alloc_below u2 (.cells #[.int .i64 (q0), .int .i64 (q1)] 34)) vo1
  replace vr0 := carry (alloc_below u2 (.cells #[.int .i64 (q0), .int .i64 (q1)] 34)) vr0
  replace vr1 := carry (alloc_below u2 (.cells #[.int .i64 (q0), .int .i64 (q1)] 34)) vr1
  replace hB := below_step hB (alloc_below u2 (.cells #[.int .i64 (q0), .int .i64 (q1)] 34))
  replace hs := hs.carry (alloc_below u2 (.cells #[.int .i64 (q0), .int .i64 (q1)] 34))
  go_wp2_with fail
  generalize u2.alloc (.cells #[.int .i64 (q0), .int .i64 (q1)] 34) = u3 at *
  have k1 := hs.near a3_0 a3_1 w3_0 w3_1
  have hm0 := hs.nx_bd a3_0
  have hm1 := hs.ny_bd a3_1
  generalize s.nx a3_0 = m0 at *
  generalize s.ny a3_1 = m1 at *
  refine k1.mono ?_
  clear k1
  rintro e u4 ⟨rfl, hb4⟩
  replace s0 := carry (hb4) s0
  replace s1 := carry (hb4) s1
  replace vo0 := carry (hb4) vo0
  replace vo1 := carry (hb4) vo1
  replace vr0 := carry (hb4) vr0
  replace vr1 := carry (hb4) vr1
  replace vq0 := carry (hb4) vq0
  replace vq1 := carry (hb4) vq1
  replace hB := below_step hB hb4
  replace hs := hs.carry hb4
  clear hb4
  have vm0 : (u4.alloc (.cells #[.int .i64 (m0), .int .i64 (m1)] 34)).cell? ⟨u4.heap.size, 0, none⟩ = some (.int .i64 (m0)) := World.cell?_alloc_new (w := u4) #[.int .i64 (m0), .int .i64 (m1)] 34 0
  have vm1 : (u4.alloc (.cells #[.int .i64 (m0), .int .i64 (m1)] 34)).cell? ⟨u4.heap.size, 1, none⟩ = some (.int .i64 (m1)) := World.cell?_alloc_new (w := u4) #[.int .i64 (m0), .int .i64 (m1)] 34 1
  replace s0 := carry (alloc_below u4 (.cells #[.int .i64 (m0), .int .i64 (m1)] 34)) s0
  replace s1 := carry (alloc_below u4 (.cells #[.int .i64 (m0), .int .i64 (m1)] 34)) s1
  replace vq0 := carry (alloc_below u4 (.cells #[.int .i64 (m0), .int .i64 (m1)] 34)) vq0
  replace vq1 := carry (alloc_below u4 (.cells #[.int .i64 (m0), .int .i64 (m1)] 34)) vq1
  replace vr0 := carry (alloc_below u4 (.cells #[.int .i64 (m0), .int .i64 (m1)] 34)) vr0
  replace vr1 := carry (alloc_below u4 (.cells #[.int .i64 (m0), .int .i64 (m1)] 34)) vr1
  replace hB := below_step hB (alloc_below u4 (.cells #[.int .i64 (m0), .int .i64 (m1)] 34))
  replace hs := hs.carry (alloc_below u4 (.cells #[.int .i64 (m0), .int .i64 (m1)] 34))
  go_wp2_with fail
  generalize u4.alloc (.cells #[.int .i64 (m0), .int .i64 (m1)] 34) = u5 at *
  have k1 := hs.near a4_0 a4_1 w4_0 w4_1
  have hn0 := hs.nx_bd a4_0
  have hn1 := hs.ny_bd a4_1
  generalize s.nx a4_0 = n0 at *
  generalize s.ny a4_1 = n1 at *
  refine k1.mono ?_
  clear k1
  rintro e u6 ⟨rfl, hb6⟩
  replace s0 := carry (hb6) s0
  replace s1 := carry (hb6) s1
  replace vq0 := carry (hb6) vq0
  replace vq1 := carry (hb6) vq1
  replace vm0 := carry (hb6) vm0
  replace vm1 := carry (hb6) vm1
  replace vr0 := carry (hb6) vr0
  replace vr1 := carry (hb6) vr1
  replace hB := below_step hB hb6
  replace hs := hs.carry hb6
  clear hb6
  have t1 := tmod_lt_p (m0 + n0) (d := 2) (by omega)
  have t2 := tmod_gt_p (m0 + n0) (d := 2) (by omega)
  have t3 := tmod_lt_p (m1 + n1) (d := 2) (by omega)
  have t4 := tmod_gt_p (m1 + n1) (d := 2) (by omega)
  have l1 : u1.heap.size < u6.heap.size := block_lt_of_cell s0
  have l2 : u2.heap.size < u6.heap.size := block_lt_of_cell vq0
  have l4 : u4.heap.size < u6.heap.size := block_lt_of_cell vm0
  go_wp2_with fail
  obtain ⟨N0, hN0⟩ : ∃ N, N = n0 + (m0 + n0).tmod 2 := ⟨_, rfl⟩
  obtain ⟨N1, hN1⟩ : ∃ N, N = n1 + (m1 + n1).tmod 2 := ⟨_, rfl⟩
  rw [← hN0, ← hN1]
  obtain ⟨M0, hM0⟩ : ∃ M, M = (m0 + N0).tdiv 2 := ⟨_, rfl⟩
  obtain ⟨M1, hM1⟩ : ∃ M, M = (m1 + N1).tdiv 2 := ⟨_, rfl⟩
  rw [← hM0, ← hM1]
  have e0 : 2 * M0 = m0 + N0 := by
    have := tparts (m0 + n0) 2
    have := tparts (m0 + N0) 2
    have := tmod_lt_p (m0 + N0) (d := 2) (by omega)
    have := tmod_gt_p (m0 + N0) (d := 2) (by omega)
    omega
  have e1 : 2 * M1 = m1 + N1 := by
    have := tparts (m1 + n1) 2
    have := tparts (m1 + N1) 2
    have := tmod_lt_p (m1 + N1) (d := 2) (by omega)
    have := tmod_gt_p (m1 + N1) (d := 2) (by omega)
    omega
  have bN0 : -32775 ≤ N0 ∧ N0 ≤ 32775 := by omega
  have bN1 : -32775 ≤ N1 ∧ N1 ≤ 32775 := by omega
  have bM0 : -32775 ≤ M0 ∧ M0 ≤ 32775 := by omega
  have bM1 : -32775 ≤ M1 ∧ M1 ≤ 32775 := by omega
  clear hN0 hN1 hM0 hM1 t1 t2 t3 t4
  have hW := below_step (alloc_below u6 (.cells #[.int .i64 N0, .int .i64 N1] 34)) (alloc_below _ (.cells #[.int .i64 M0, .int .i64 M1] 34))
  have vn0 : ((u6.alloc (.cells #[.int .i64 N0, .int .i64 N1] 34)).alloc (.cells #[.int .i64 M0, .int .i64 M1] 34)).cell? ⟨u6.heap.size, 0, none⟩ = some (.int .i64 N0) := by simp [go_sem]
  have vn1 : ((u6.alloc (.cells #[.int .i64 N0, .int .i64 N1] 34)).alloc (.cells #[.int .i64 M0, .int .i64 M1] 34)).cell? ⟨u6.heap.size, 1, none⟩ = some (.int .i64 N1) := by simp [go_sem]
  have vk0 : ((u6.alloc (.cells #[.int .i64 N0, .int .i64 N1] 34)).alloc (.cells #[.int .i64 M0, .int .i64 M1] 34)).cell? ⟨u6.heap.size + 1, 0, none⟩ = some (.int .i64 M0) := by simp [go_sem]
  have vk1 : ((u6.alloc (.cells #[.int .i64 N0, .int .i64 N1] 34)).alloc (.cells #[.int .i64 M0, .int .i64 M1] 34)).cell? ⟨u6.heap.size + 1, 1, none⟩ = some (.int .i64 M1) := by simp [go_sem]
  replace s0 := carry (hW) s0
  replace s1 := carry (hW) s1
  replace vq0 := carry (hW) vq0
  replace vq1 := carry (hW) vq1
  replace vm0 := carry (hW) vm0
  replace vm1 := carry (hW) vm1
  replace hB := below_step hB hW
  replace hs := hs.carry hW
  clear hW vr0 vr1
  generalize (u6.alloc (.cells #[.int .i64 N0, .int .i64 N1] 34)).alloc (.cells #[.int .i64 M0, .int .i64 M1] 34) = u7 at *
  have bm0 : Bd m0 := near_bd hm0
  have bm1 : Bd m1 := near_bd hm1
  have cN0 : Bd N0 := ⟨by omega, by omega⟩
  have cN1 : Bd N1 := ⟨by omega, by omega⟩
  have cM0 : Bd M0 := ⟨by omega, by omega⟩
  have cM1 : Bd M1 := ⟨by omega, by omega⟩
  have k1 := fun w => add_any q0 q1 m0 m1 w hq0.bd hq1.bd bm0 bm1
  have k2 := fun w => add_any q0 q1 N0 N1 w hq0.bd hq1.bd cN0 cN1
  have k3 := fun w => add_any q0 q1 M0 M1 w hq0.bd hq1.bd cM0 cM1
  have j1 := fun w (h : Sh w s) => h.contains q0 q1 (q0 + m0) (q1 + m1) hq0.bd hq1.bd (by unfold Be at hq0; unfold Bd; omega) (by unfold Be at hq1; unfold Bd; omega)
  have j2 := fun w (h : Sh w s) => h.contains q0 q1 (q0 + N0) (q1 + N1) hq0.bd hq1.bd (by unfold Be at hq0; unfold Bd; omega) (by unfold Be at hq1; unfold Bd; omega)
  have j3 := fun w (h : Sh w s) => h.contains q0 q1 (q0 + M0) (q1 + M1) hq0.bd hq1.bd (by unfold Be at hq0; unfold Bd; omega) (by unfold Be at hq1; unfold Bd; omega)
  rw [pair_eq (show q0 + m0 - q0 = m0 by omega) (show q1 + m1 - q1 = m1 by omega)] at j1
  rw [pair_eq (show q0 + N0 - q0 = N0 by omega) (show q1 + N1 - q1 = N1 by omega)] at j2
  rw [pair_eq (show q0 + M0 - q0 = M0 by omega) (show q1 + M1 - q1 = M1 by omega)] at j3
  have hmid := Sh.mid s (p := (m0, m1)) (q := (N0, N1)) (m := (M0, M1)) e0 e1
  generalize s.ins (m0, m1) = c1 at *
  generalize s.ins (N0, N1) = c2 at *
  generalize s.ins (M0, M1) = c3 at *
  generalize q0 + m0 = x0 at *
  generalize q1 + m1 = x1 at *
  generalize q0 + N0 = y0 at *
  generalize q1 + N1 = y1 at *
  generalize q0 + M0 = z0 at *
  generalize q1 + M1 = z1 at *
  have hcase : (c1 = false) ∨ (c1 = true ∧ c2 = false) ∨ (c1 = true ∧ c2 = true ∧ c3 = true) := by cases c1 <;> cases c2 <;> simp_all
  have hsh := Lib.hid hs
  clear hmid e0 e1
  rcases hcase with rfl | ⟨rfl, rfl⟩ | ⟨rfl, rfl, rfl⟩
  all_goals
    have hk := Lib.hid (And.intro k1 (And.intro k2 (And.intro k3 (And.intro j1 (And.intro j2 j3)))))
    clear k1 k2 k3 j1 j2 j3
    refine wp_region_made (by kernel_rfl) (by kernel_rfl) ?_
    intro W hK
    have g_s0 := fun x => carry ((hK.below x)) s0
    have g_s1 := fun x => carry ((hK.below x)) s1
    have g_vq0 := fun x => carry ((hK.below x)) vq0
    have g_vq1 := fun x => carry ((hK.below x)) vq1
    have g_vm0 := fun x => carry ((hK.below x)) vm0
    have g_vm1 := fun x => carry ((hK.below x)) vm1
    have g_vn0 := fun x => carry ((hK.below x)) vn0
    have g_vn1 := fun x => carry ((hK.below x)) vn1
    have g_vk0 := fun x => carry ((hK.below x)) vk0
    have g_vk1 := fun x => carry ((hK.below x)) vk1
    repeat (go_big_quiet_step ((first | (go_at_call 26; with_reducible exact met_made (hk.out.1 _)) | (go_at_call 26; with_reducible exact met_made (hk.out.2.1 _)) | (go_at_call 26; with_reducible exact met_made (hk.out.2.2.1 _)) | (go_at_call 24; with_reducible exact met_made (hk.out.2.2.2.1 _ (hsh.out.carry (hK.below _)))) | (go_at_call 24; with_reducible exact met_made (hk.out.2.2.2.2.1 _ (hsh.out.carry (hK.below _)))) | (go_at_call 24; with_reducible exact met_made (hk.out.2.2.2.2.2 _ (hsh.out.carry (hK.below _)))))))
    refine wpQuiet_nil ?_
    intro wq hw'
    have hbq := kept_in hK hw'
    clear g_s0 g_s1 g_vq0 g_vq1 g_vm0 g_vm1 g_vn0 g_vn1 g_vk0 g_vk1
    clear hw' hK W
    replace s0 := carry (hbq) s0
    replace s1 := carry (hbq) s1
    replace vq0 := carry (hbq) vq0
    replace vq1 := carry (hbq) vq1
    replace vm0 := carry (hbq) vm0
    replace vm1 := carry (hbq) vm1
    replace vn0 := carry (hbq) vn0
    replace vn1 := carry (hbq) vn1
    replace vk0 := carry (hbq) vk0
    replace vk1 := carry (hbq) vk1
    replace hB := below_step hB hbq
    replace hs := hsh.out.carry hbq
    clear hbq hsh hk vm0 vm1 vn0 vn1 vk0 vk1
    have korg := hs.origin
    have bq0 := hq0.bd
    have bq1 := hq1.bd
    cases s with
    | c r =>
      replace s0 : wq.cell? ⟨u1.heap.size, 0, none⟩ = some (.int .i64 r) := s0
      replace s1 : wq.cell? ⟨u1.heap.size, 1, none⟩ = some (.slice none 0 0) := s1
      have kc : ∀ w', Calls Try.prog 24 #[.agg #[.int .i64 r, .slice none 0 0], .agg #[.int .i64 q0, .int .i64 q1], .agg #[.int .i64 q0, .int .i64 q1]] w' fun e w'' => e = .returned (.bool true) ∧ Below w'.heap.size w' w'' := fun w' => by
        have := Sh.contains (w := w') (s := .c r) hs q0 q1 q0 q1 bq0 bq1 bq0 bq1
        rw [pair_eq (Int.sub_self _) (Int.sub_self _), korg] at this
        exact this
      have kc' := Lib.hid kc
      clear kc korg
      go_wp2_with fail
      go_loopw [16] (fun i wr => i = .int .i64 0 ∧ wr = wq) (fun _ _ => 0)
      case atStart => exact ⟨rfl, rfl⟩
      case round =>
        obtain ⟨rfl, rfl⟩ := hrel
        go_wp2_with fail
        refine (kc'.out _).mono ?_
        rintro e x8 ⟨rfl, hb8⟩
        go_wp2_with fail
        refine (lives3_any _).mono ?_
        rintro e x9 ⟨rfl, hb9⟩
        go_wp2
        go_ret
        exact ⟨rfl, below_step (below_step hB hb8) hb9⟩
    | p g cap vs =>
      replace s0 : wq.cell? ⟨u1.heap.size, 0, none⟩ = some (.int .i64 0) := s0
      replace s1 : wq.cell? ⟨u1.heap.size, 1, none⟩ = some (.slice (some ⟨g, 0, none⟩) vs.length cap) := s1
      have hG := hs.2
      have hRh := Lib.hid hs.1
      have hcap := hs.1.le
      have hmax := hs.1.max
      unfold maxLen at hmax
      have hl6 := hG.hi
      have hlb : (vs.length : Int) ≤ 6 := by omega
      have hsh := Lib.hid hs
      have kc : ∀ w', Below wq.heap.size wq w' → Calls Try.prog 24 #[.agg #[.int .i64 0, .slice (some ⟨g, 0, none⟩) vs.length cap], .agg #[.int .i64 q0, .int .i64 q1], .agg #[.int .i64 q0, .int .i64 q1]] w' fun e w'' => e = .returned (.bool true) ∧ Below w'.heap.size w' w'' := fun w' hb => by
        have := Sh.contains (w := w') (s := .p g cap vs) (hsh.out.carry hb) q0 q1 q0 q1 bq0 bq1 bq0 bq1
        rw [pair_eq (Int.sub_self _) (Int.sub_self _), korg] at this
        exact this
      have kv : ∀ i, i < vs.length → (Bd (at' vs i).1 ∧ Bd (at' vs i).2) ∧ ∀ w', Below wq.heap.size wq w' → Calls Try.prog 24 #[.agg #[.int .i64 0, .slice (some ⟨g, 0, none⟩) vs.length cap], .agg #[.int .i64 q0, .int .i64 q1], .agg #[.int .i64 (q0 + (at' vs i).1), .int .i64 (q1 + (at' vs i).2)]] w' fun e w'' => e = .returned (.bool true) ∧ Below w'.heap.size w' w'' := fun i hi => by
        obtain ⟨b0, b1⟩ := hG.small i hi
        refine ⟨⟨small_bd b0, small_bd b1⟩, fun w' hb => ?_⟩
        have := Sh.contains (w := w') (s := .p g cap vs) (hsh.out.carry hb) q0 q1 (q0 + (at' vs i).1) (q1 + (at' vs i).2) bq0 bq1 (by unfold Be at hq0; unfold Bd; omega) (by unfold Be at hq1; unfold Bd; omega)
        rw [pair_eq (show q0 + (at' vs i).1 - q0 = (at' vs i).1 by omega) (show q1 + (at' vs i).2 - q1 = (at' vs i).2 by omega)] at this
        have e : (Sp.p g cap vs).ins ((at' vs i).1, (at' vs i).2) = true := hG.vertex hi
        rw [e] at this
        exact this
      have kc' := Lib.hid kc
      have kv' := Lib.hid kv
      clear kc kv korg hs hG
      go_wp2_with fail
      go_loopw [16] (fun i wr => ∃ c : Nat, c ≤ vs.length ∧ i = .int .i64 c ∧ Below wq.heap.size wq wr) (fun i _ => vs.length - (intOf i).toNat)
      case atStart => exact ⟨0, Nat.zero_le _, rfl, Below.refl _ _⟩
      case round =>
        obtain ⟨c, hc, rfl, hbl⟩ := hrel
        replace s0 := carry hbl s0
        replace s1 := carry hbl s1
        replace vq0 := carry hbl vq0
        replace vq1 := carry hbl vq1
        by_cases hlt : c < vs.length
        · obtain ⟨vx, vy⟩ := (hRh.out.carry hbl).at hlt
          obtain ⟨⟨t0, t1⟩, kk⟩ := kv'.out c hlt
          have k1 := fun w => add_any q0 q1 (at' vs c).1 (at' vs c).2 w bq0 bq1 t0 t1
          generalize (at' vs c).1 = p0 at *
          generalize (at' vs c).2 = p1 at *
          have hk := Lib.hid (And.intro k1 kk)
          clear k1 kk
          have hclt : (c : Int) < (vs.length : Int) := by omega
          go_wp2_with fail
          have hbl' := Lib.hid hbl
          refine wp_region_made (by kernel_rfl) (by kernel_rfl) ?_
          intro W hK
          have g_s0 := fun x => carry ((hK.below x)) s0
          have g_s1 := fun x => carry ((hK.below x)) s1
          have g_vq0 := fun x => carry ((hK.below x)) vq0
          have g_vq1 := fun x => carry ((hK.below x)) vq1
          have g_vx := fun x => carry ((hK.below x)) vx
          have g_vy := fun x => carry ((hK.below x)) vy
          repeat (go_big_quiet_step ((first | (go_at_call 26; with_reducible exact met_made (hk.out.1 _)) | (go_at_call 24; with_reducible exact met_made (hk.out.2 _ (below_step hbl'.out (hK.below _)))))))
          refine wpQuiet_nil ?_
          intro wq hw'
          have hbq := kept_in hK hw'
          clear g_s0 g_s1 g_vq0 g_vq1 g_vx g_vy
          clear hw' hK W
          replace s0 := carry (hbq) s0
          replace s1 := carry (hbq) s1
          replace vq0 := carry (hbq) vq0
          replace vq1 := carry (hbq) vq1
          replace vx := carry (hbq) vx
          replace vy := carry (hbq) vy
          go_wp2
          go_roundw
          case rel => exact ⟨c + 1, by omega, by go_num, below_step hbl hbq⟩
          case measure => simp [intOf]; omega
        · obtain rfl : c = vs.length := by omega
          go_wp2_with fail
          refine (kc'.out _ hbl).mono ?_
          rintro e x8 ⟨rfl, hb8⟩
          go_wp2_with fail
          refine (lives3_any _).mono ?_
          rintro e x9 ⟨rfl, hb9⟩
          go_wp2
          go_ret
          exact ⟨rfl, below_step (below_step (below_step hB hbl) hb8) hb9⟩

set_option maxRecDepth 100000 in
theorem lifted (os : Os) (started : os.Started) (H : Type) (enc : TypeId × Value → H) :
    ReturnsInHanded {} Try.checked os 6 .any (Rows.shapeConvexSpec.pre6 enc Try.prog Try.f6 Rows.shapeConvexRow.domain false) (Rows.shapeConvexSpec.post enc Try.prog Try.f6 false true false false) := by
  refine returnsInHanded_of_change (C := Try.checked) own started (by kernel_rfl) Try.func6
    (ChangeSpec.witness6 (enc := enc) (C := Try.checked) false ⟨#[], #[.int .i64 0, .int .i64 0, .int .i64 0, .agg #[.int .i64 0, .int .i64 0], .agg #[.int .i64 0, .int .i64 0]], []⟩ 8 (by kernel_rfl) (by kernel_rfl) (by kernel_rfl) (by kernel_rfl)) ?_
  intro W base args ds gs before hval0 hW hcnd _
  have hval : ∀ (j : Nat) t v, Try.f6.params[j]? = some t → args[j]? = some v → Value.okWide Try.prog W .any base t v := hval0
  have hW' := hW
  obtain ⟨p, q, hA0, hV, rfl, hfz, hnd⟩ := hW
  have hA : DataW.TrodAll enc Try.prog W 0 (fun _ => true) true Try.f6.params.toList args.toList ds p := hA0
  rw [Try.params6] at hA hval
  obtain ⟨v0, vs0, d0, ds0, p0, q0, hargs, rfl, rfl, h0, r0⟩ := trodAll_cons hA
  obtain ⟨v1, vs1, d1, ds1, p1, q1, rfl, rfl, rfl, h1, r1⟩ := trodAll_cons r0
  obtain ⟨v2, vs2, d2, ds2, p2, q2, rfl, rfl, rfl, h2, r2⟩ := trodAll_cons r1
  obtain ⟨v3, vs3, d3, ds3, p3, q3, rfl, rfl, rfl, h3, r3⟩ := trodAll_cons r2
  obtain ⟨v4, vs4, d4, ds4, p4, q4, rfl, rfl, rfl, h4, r4⟩ := trodAll_cons r3
  obtain ⟨rfl, rfl, rfl⟩ := trodAll_nil r4
  obtain rfl : args = #[v0, v1, v2, v3, v4] := by cases args; simp_all
  obtain ⟨rfl, rfl⟩ := trodVars_none hV
  obtain ⟨a0, rfl, rfl, rfl, w0⟩ := open_int Try.underlying3 (hval 0 3 v0 rfl rfl) h0
  obtain ⟨a1, rfl, rfl, rfl, w1⟩ := open_int Try.underlying3 (hval 1 3 v1 rfl rfl) h1
  obtain ⟨a2, rfl, rfl, rfl, w2⟩ := open_int Try.underlying3 (hval 2 3 v2 rfl rfl) h2
  obtain ⟨z3, l3, e3, rfl, rfl, y3⟩ := open_arr Try.underlying48 Try.underlying3 (by kernel_rfl) (by kernel_rfl) (hval 3 48 v3 rfl rfl) h3
  obtain ⟨a3_0, a3_1, rfl⟩ := list2 l3
  simp only [List.map_cons, List.map_nil] at e3
  subst e3
  obtain ⟨z4, l4, e4, rfl, rfl, y4⟩ := open_arr Try.underlying48 Try.underlying3 (by kernel_rfl) (by kernel_rfl) (hval 4 48 v4 rfl rfl) h4
  obtain ⟨a4_0, a4_1, rfl⟩ := list2 l4
  simp only [List.map_cons, List.map_nil] at e4
  subst e4
  clear hA0 hval0
  simp only [List.append_nil] at hW'
  refine (walk a0 w0 a1 w1 a2 w2 a3_0 a3_1 (y3 _ (by simp)) (y3 _ (by simp)) a4_0 a4_1 (y4 _ (by simp)) (y4 _ (by simp)) W).mono fun e W' ⟨he, hb⟩ => ?_
  subst he
  exact ⟨_, rfl, kept_post (pa := []) hW' (fun _ _ _ => (trodAll_cons_mk (shut_bool Try.underlying4 _) trodAll_mk0)) (fun sp _ => (trodAll_cons_mk (shut_int Try.underlying3 w0) (trodAll_cons_mk (shut_int Try.underlying3 w1) (trodAll_cons_mk (shut_int Try.underlying3 w2) (trodAll_cons_mk (shut_arr Try.underlying48 Try.underlying3 (by kernel_rfl) (by kernel_rfl) rfl y3) (trodAll_cons_mk (shut_arr Try.underlying48 Try.underlying3 (by kernel_rfl) (by kernel_rfl) rfl y4) trodAll_mk0)))))) (fun _ => rfl) hb (ok_one (by kernel_rfl) rfl (okWide_bool_mk Try.underlying4 _))⟩

theorem over : Rows.shapeConvexRow.holds Try.pinned (OpenSpec.ofChange Rows.shapeConvexSpec) :=
  OpenClaim.holds_of_wide 6 Try.f6 rfl rfl rfl rfl rfl rfl rfl ⟨rfl, rfl, rfl, rfl, rfl⟩ rfl rfl rfl rfl rfl (by kernel_rfl) Try.func6 (by kernel_rfl)
    (of_decide_eq_true (by kernel_rfl)) (by unfold Func.isWrapper; first | (rw [if_pos (by decide +kernel)]; kernel_rfl) | (rw [if_neg (by decide +kernel)]; exact ⟨rfl, rfl⟩))
    (fun os started H enc _ => lifted os started H enc)

theorem proved : Rows.ShapeConvexSaid :=
  over
#print axioms proved
end Go.Proofs.Ytololgefpjjpjaa.shapeConvex
