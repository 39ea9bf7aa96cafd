/- The reference of package toi. -/
import Derived.Test.YtfbgghkkgmgnjaaRefCD
import Derived.Test.YtfbgghkkgmgnjaaToiB
import Derived.Deep.RegionHeld3
import Derived.Deep.DeepCutAuto
import Derived.Deep.CutBlock
namespace Go.Proofs.Ytfbgghkkgmgnjaa
open Go.ChangeShapes Go.WideShapes Go.ChangeAt Go.RowKit Go.Shelf
open Fxm
set_option linter.unusedSimpArgs false
set_option linter.unusedVariables false

theorem rcol_any (s t : Sp) (p0 p1 q0 q1 : Int) (w : World) (hs : Sh w s) (ht : Sh w t) (hp0 : Be p0) (hp1 : Be p1) (hq0 : Be q0) (hq1 : Be q1) :
    Calls Try.prog 19 #[.agg #[.int .i64 s.r, .slice s.a s.n s.cap], .agg #[.int .i64 p0, .int .i64 p1], .agg #[.int .i64 t.r, .slice t.a t.n t.cap], .agg #[.int .i64 q0, .int .i64 q1]] w fun e w' =>
      e = .returned (.tuple #[.agg #[.int .i64 (colN s t (p0, p1) (q0, q1)).1, .int .i64 (colN s t (p0, p1) (q0, q1)).2.1, .int .i64 (colN s t (p0, p1) (q0, q1)).2.2], .bool (colB s t (p0, p1) (q0, q1))]) ∧ Below w.heap.size w w' := by
  refine (refCollide_any s t p0 p1 q0 q1 w hs ht hp0 hp1 hq0 hq1).mono ?_
  rintro e w' ⟨⟨h, he⟩ | ⟨h, he⟩, hb⟩
  · obtain ⟨h1, h2⟩ := col_no h
    rw [h1, h2]
    exact ⟨he, hb⟩
  · obtain ⟨h1, h2⟩ := col_yes h
    rw [h1, h2]
    exact ⟨he, hb⟩
set_option maxHeartbeats 1000000 in
theorem refAt_any (k p0 p1 v0 v1 : Int) (w : World) (hk : 0 ≤ k ∧ k ≤ 8) (hp0 : Po p0) (hp1 : Po p1) (hv0 : Ve v0) (hv1 : Ve v1) :
    Calls Try.prog 81 #[.agg #[.int .i64 p0, .int .i64 p1], .agg #[.int .i64 v0, .int .i64 v1], .int .i64 k] w fun e w' =>
      e = .returned (.agg #[.int .i64 (p0 + flr (v0 * k) 8), .int .i64 (p1 + flr (v1 * k) 8)]) ∧ Below w.heap.size w w' := by
  have s0 := sub_bd hv0 hk
  have s1 := sub_bd hv1 hk
  have k1 := fun w => refVMulDiv_any v0 v1 k 8 w hv0.bd hv1.bd (by unfold Bd; omega)
  have k2 := fun w => refAdd_any p0 p1 (flr (v0 * k) 8) (flr (v1 * k) 8) w hp0.bd hp1.bd (by unfold Bd; omega) (by unfold Bd; omega)
  generalize flr (v0 * k) 8 = z0 at *
  generalize flr (v1 * k) 8 = z1 at *
  generalize p0 + z0 = x0 at *
  generalize p1 + z1 = x1 at *
  have hkk := Lib.hid (And.intro k1 k2)
  clear k1 k2 s0 s1
  go_enter Try.func81, Try.ntmps81
  go_upto_region 1 with fail
  have hB := below_step (below_step (alloc_below w (.cells #[.int .i64 p0, .int .i64 p1] 28)) (alloc_below _ (.cells #[.int .i64 v0, .int .i64 v1] 28))) (alloc_below _ (.cells #[.int .i64 0, .int .i64 0] 28))
  obtain ⟨V, hV⟩ : ∃ V, V = ((w.alloc (.cells #[.int .i64 p0, .int .i64 p1] 28)).alloc (.cells #[.int .i64 v0, .int .i64 v1] 28)).alloc (.cells #[.int .i64 0, .int .i64 0] 28) := ⟨_, rfl⟩
  have a0 : V.cell? ⟨w.heap.size, 0, none⟩ = some (.int .i64 p0) := by rw [hV]; simp [go_sem]
  have a1 : V.cell? ⟨w.heap.size, 1, none⟩ = some (.int .i64 p1) := by rw [hV]; simp [go_sem]
  have b0 : V.cell? ⟨w.heap.size + 1, 0, none⟩ = some (.int .i64 v0) := by rw [hV]; simp [go_sem]
  have b1 : V.cell? ⟨w.heap.size + 1, 1, none⟩ = some (.int .i64 v1) := by rw [hV]; simp [go_sem]
  have r0 : V.cell? ⟨w.heap.size + 1 + 1, 0, none⟩ = some (.int .i64 0) := by rw [hV]; simp [go_sem]
  have r1 : V.cell? ⟨w.heap.size + 1 + 1, 1, none⟩ = some (.int .i64 0) := by rw [hV]; simp [go_sem]
  have g0 : V.frozen? ⟨w.heap.size + 1 + 1, 0, none⟩ = false := by rw [hV]; simp [go_sem]
  have g1 : V.frozen? ⟨w.heap.size + 1 + 1, 1, none⟩ = false := by rw [hV]; simp [go_sem]
  rw [← hV] at hB ⊢
  clear hV
  have n0 := block_lt_of_cell r0
  simp only at n0
  refine wp_region_tail 5 (by kernel_rfl) (by kernel_rfl) ?_
  intro W hK
  have g_a0 := fun x => carry ((hK.below x)) a0
  have g_a1 := fun x => carry ((hK.below x)) a1
  have g_b0 := fun x => carry ((hK.below x)) b0
  have g_b1 := fun x => carry ((hK.below x)) b1
  have g_r0 := fun x => carry ((hK.below x)) r0
  have g_r1 := fun x => carry ((hK.below x)) r1
  simp only [List.take_succ_cons, List.take_zero, List.drop_succ_cons, List.drop_zero]
  repeat (go_big_quiet_step ((first | (go_at_call 86; with_reducible exact met_made (hkk.out.1 _)) | (go_at_call 64; with_reducible exact met_made (hkk.out.2 _)))))
  refine wpQuiet_nil ?_
  intro wq hw'
  have hbq := kept_in hK hw'
  clear g_a0 g_a1 g_b0 g_b1 g_r0 g_r1
  clear hw' hK W
  replace a0 := carry (hbq) a0
  replace a1 := carry (hbq) a1
  replace b0 := carry (hbq) b0
  replace b1 := carry (hbq) b1
  replace r0 := carry (hbq) r0
  replace r1 := carry (hbq) r1
  have h0 := (hbq.frozen (p := ⟨w.heap.size + 1 + 1, 0, none⟩) n0).trans g0
  have h1 := (hbq.frozen (p := ⟨w.heap.size + 1 + 1, 1, none⟩) n0).trans g1
  go_wp2
  refine bodyPost_ret (v := .agg #[.int .i64 x0, .int .i64 x1]) (by simp [results, Try.results81, go_sem, r0, r1]) rfl ⟨rfl, ?_⟩
  exact ((below_step hB hbq).setCell (by first | (simp; done) | (simp; omega) | omega) _).setCell (by first | (simp; done) | (simp; omega) | omega) _

set_option maxHeartbeats 4000000 in
set_option maxRecDepth 100000 in
theorem refTouch_any (s t : Sp) (p0 p1 v0 v1 q0 q1 u0 u1 k : Int) (w : World) (hs : Sh w s) (ht : Sh w t) (hk : 0 ≤ k ∧ k ≤ 8)
    (hp0 : Po p0) (hp1 : Po p1) (hv0 : Ve v0) (hv1 : Ve v1) (hq0 : Po q0) (hq1 : Po q1) (hu0 : Ve u0) (hu1 : Ve u1) :
    Calls Try.prog 66 #[.agg #[.int .i64 s.r, .slice s.a s.n s.cap], .agg #[.int .i64 p0, .int .i64 p1], .agg #[.int .i64 v0, .int .i64 v1], .agg #[.int .i64 t.r, .slice t.a t.n t.cap], .agg #[.int .i64 q0, .int .i64 q1], .agg #[.int .i64 u0, .int .i64 u1], .int .i64 k] w fun e w' =>
      e = .returned (.bool (tch s t (p0, p1) (v0, v1) (q0, q1) (u0, u1) k)) ∧ Below w.heap.size w w' := by
  have k1 := fun w => refAt_any k p0 p1 v0 v1 w hk hp0 hp1 hv0 hv1
  have k2 := fun w => refAt_any k q0 q1 u0 u1 w hk hq0 hq1 hu0 hu1
  have k3 := fun w (h : Sh w s) (h' : Sh w t) => rcol_any s t (p0 + flr (v0 * k) 8) (p1 + flr (v1 * k) 8) (q0 + flr (u0 * k) 8) (q1 + flr (u1 * k) 8) w h h' (pos_be hp0 hv0 hk) (pos_be hp1 hv1 hk) (pos_be hq0 hu0 hk) (pos_be hq1 hu1 hk)
  have e : tch s t (p0, p1) (v0, v1) (q0, q1) (u0, u1) k = colB s t (p0 + flr (v0 * k) 8, p1 + flr (v1 * k) 8) (q0 + flr (u0 * k) 8, q1 + flr (u1 * k) 8) := rfl
  rw [e]
  clear e
  generalize p0 + flr (v0 * k) 8 = x0 at *
  generalize p1 + flr (v1 * k) 8 = x1 at *
  generalize q0 + flr (u0 * k) 8 = y0 at *
  generalize q1 + flr (u1 * k) 8 = y1 at *
  generalize colN s t (x0, x1) (y0, y1) = cN at *
  obtain ⟨c0, c1, c2⟩ := cN
  simp only at k3
  generalize colB s t (x0, x1) (y0, y1) = cb at *
  have hkk := Lib.hid (And.intro k1 (And.intro k2 k3))
  have hX := sixV_six w s t p0 p1 v0 v1 q0 q1 u0 u1
  have hB := sixV_below w s t p0 p1 v0 v1 q0 q1 u0 u1
  have hsV := Lib.hid (And.intro (hs.carry hB) (ht.carry hB))
  obtain ⟨V, hV⟩ : ∃ V, V = sixV w s t p0 p1 v0 v1 q0 q1 u0 u1 := ⟨_, rfl⟩
  have hV' := Lib.hid hV
  rw [← hV] at hB hX hsV
  obtain ⟨a0, a1, e0, e1, z0, z1, b0, b1, g0, g1, h0, h1⟩ := hX
  clear k1 k2 k3 hs ht hk hp0 hp1 hv0 hv1 hq0 hq1 hu0 hu1 hV
  go_enter Try.func66, Try.ntmps66
  go_upto_region 1 with fail
  rw [show ((((((w.alloc (.cells #[.int .i64 s.r, .slice s.a s.n s.cap] 25)).alloc (.cells #[.int .i64 p0, .int .i64 p1] 28)).alloc (.cells #[.int .i64 v0, .int .i64 v1] 28)).alloc (.cells #[.int .i64 t.r, .slice t.a t.n t.cap] 25)).alloc (.cells #[.int .i64 q0, .int .i64 q1] 28)).alloc (.cells #[.int .i64 u0, .int .i64 u1] 28)) = V from hV'.out.symm]
  clear hV'
  have mk := Lib.hid (fun w' (h : Below V.heap.size V w') => (⟨carry h a0, carry h a1, carry h e0, carry h e1, carry h z0, carry h z1, carry h b0, carry h b1, carry h g0, carry h g1, carry h h0, carry h h1, h⟩ : w'.cell? ⟨w.heap.size, 0, none⟩ = some (.int .i64 s.r) ∧ w'.cell? ⟨w.heap.size, 1, none⟩ = some (.slice s.a s.n s.cap) ∧ w'.cell? ⟨w.heap.size + 1, 0, none⟩ = some (.int .i64 p0) ∧ w'.cell? ⟨w.heap.size + 1, 1, none⟩ = some (.int .i64 p1) ∧ w'.cell? ⟨w.heap.size + 2, 0, none⟩ = some (.int .i64 v0) ∧ w'.cell? ⟨w.heap.size + 2, 1, none⟩ = some (.int .i64 v1) ∧ w'.cell? ⟨w.heap.size + 3, 0, none⟩ = some (.int .i64 t.r) ∧ w'.cell? ⟨w.heap.size + 3, 1, none⟩ = some (.slice t.a t.n t.cap) ∧ w'.cell? ⟨w.heap.size + 4, 0, none⟩ = some (.int .i64 q0) ∧ w'.cell? ⟨w.heap.size + 4, 1, none⟩ = some (.int .i64 q1) ∧ w'.cell? ⟨w.heap.size + 5, 0, none⟩ = some (.int .i64 u0) ∧ w'.cell? ⟨w.heap.size + 5, 1, none⟩ = some (.int .i64 u1) ∧ Below V.heap.size V w'))
  have hnd : ∀ O, (V.drew.alloc O).heap[V.heap.size]? = some O := fun O => World.alloc_heap_new V.drew O
  have bD : Below V.heap.size V V.drew := (Below.refl _ V).drew
  have hnd2 : ∀ O, (V.alloc O).drew.heap[V.heap.size]? = some O := fun O => World.alloc_heap_new V O
  have bA2 : ∀ O, Below V.heap.size V (V.alloc O).drew := fun O => (alloc_below V O).drew
  have bA3 : ∀ O, Below V.heap.size V (V.alloc O) := fun O => alloc_below V O
  have bA : ∀ O, Below V.heap.size V (V.drew.alloc O) := fun O => below_step bD (alloc_below _ O)
  go_cut [16] (fun x W => x = .bool cb ∧ Below V.heap.size V W)
  case first =>
    go_region_held3 (fun w' => w'.cell? ⟨w.heap.size, 0, none⟩ = some (.int .i64 s.r) ∧ w'.cell? ⟨w.heap.size, 1, none⟩ = some (.slice s.a s.n s.cap) ∧ w'.cell? ⟨w.heap.size + 1, 0, none⟩ = some (.int .i64 p0) ∧ w'.cell? ⟨w.heap.size + 1, 1, none⟩ = some (.int .i64 p1) ∧ w'.cell? ⟨w.heap.size + 2, 0, none⟩ = some (.int .i64 v0) ∧ w'.cell? ⟨w.heap.size + 2, 1, none⟩ = some (.int .i64 v1) ∧ w'.cell? ⟨w.heap.size + 3, 0, none⟩ = some (.int .i64 t.r) ∧ w'.cell? ⟨w.heap.size + 3, 1, none⟩ = some (.slice t.a t.n t.cap) ∧ w'.cell? ⟨w.heap.size + 4, 0, none⟩ = some (.int .i64 q0) ∧ w'.cell? ⟨w.heap.size + 4, 1, none⟩ = some (.int .i64 q1) ∧ w'.cell? ⟨w.heap.size + 5, 0, none⟩ = some (.int .i64 u0) ∧ w'.cell? ⟨w.heap.size + 5, 1, none⟩ = some (.int .i64 u1) ∧ Below V.heap.size V w')
      (first | (exact mk.out _ bD) | (exact mk.out _ (bA _)) | (exact mk.out _ (bA2 _)) | (exact mk.out _ (bA3 _)) | (exact mk.out _ B6) | (exact mk.out _ (below_step B6 (alloc_below _ _))) | (exact mk.out _ B7) | (exact mk.out _ (below_step B7 (alloc_below _ _))) | (exact mk.out _ B8) | (exact mk.out _ (below_step B8 (alloc_below _ _))) | (exact mk.out _ (((B8.setCell (by first | exact Nat.le_refl _ | exact B6.size | exact B7.size | exact B8.size) _).setCell (by first | exact Nat.le_refl _ | exact B6.size | exact B7.size | exact B8.size) _).setCell (by first | exact Nat.le_refl _ | exact B6.size | exact B7.size | exact B8.size) _)) | (exact mk.out _ ((((below_step B8 (alloc_below _ _)).setCell (by first | exact Nat.le_refl _ | exact B6.size | exact B7.size | exact B8.size) _).setCell (by first | exact Nat.le_refl _ | exact B6.size | exact B7.size | exact B8.size) _).setCell (by first | exact Nat.le_refl _ | exact B6.size | exact B7.size | exact B8.size) _)))
      (first
        | (go_at_call 81; with_reducible refine (hkk.out.1 _).mono ?_; rintro e w6 ⟨rfl, hb6⟩; have B6 : Below V.heap.size V w6 := (by first | exact below_step bD hb6 | exact below_step (bA _) hb6 | exact below_step (bA2 _) hb6); (try have n6 : w6.heap[V.heap.size]? = some (curC (0, 0, 0)) := (by first | exact (hb6.block _ (Array.getElem?_eq_some_iff.1 (hnd _)).1).trans (hnd _) | exact (hb6.block _ (Array.getElem?_eq_some_iff.1 (hnd2 _)).1).trans (hnd2 _))))
        | (go_at_call 81; with_reducible refine (hkk.out.2.1 _).mono ?_; rintro e w7 ⟨rfl, hb7⟩; have B7 : Below V.heap.size V w7 := (by first | exact below_step B6 hb7 | exact below_step (below_step B6 (alloc_below _ _)) hb7); (try have n7 := (hb7.block _ (Array.getElem?_eq_some_iff.1 n6).1).trans n6); (try have n7 : w7.heap[w6.heap.size]? = some (curC (0, 0, 0)) := (hb7.block _ (Array.getElem?_eq_some_iff.1 (World.alloc_heap_new _ _)).1).trans (World.alloc_heap_new _ _)))
        | (go_at_call 19; with_reducible refine (hkk.out.2.2 _ (hsV.out.1.carry (by first | exact B7 | exact below_step B7 (alloc_below _ _))) (hsV.out.2.carry (by first | exact B7 | exact below_step B7 (alloc_below _ _)))).mono ?_; rintro e w8 ⟨rfl, hb8⟩; have B8 : Below V.heap.size V w8 := (by first | exact below_step B7 hb8 | exact below_step (below_step B7 (alloc_below _ _)) hb8); (try have n8 := (hb8.block _ (Array.getElem?_eq_some_iff.1 n7).1).trans n7); (try have n8 : w8.heap[w7.heap.size]? = some (curC (0, 0, 0)) := (hb8.block _ (Array.getElem?_eq_some_iff.1 (World.alloc_heap_new _ _)).1).trans (World.alloc_heap_new _ _)); (try (have o0 := heap_cell n8 0; have o1 := heap_cell n8 1; have o2 := heap_cell n8 2; have f0 := heap_frozen n8 0; have f1 := heap_frozen n8 1; have f2 := heap_frozen n8 2; simp only [List.getElem?_toArray, List.getElem?_cons_zero, List.getElem?_cons_succ] at o0 o1 o2))))
    all_goals
      rename_i hHeld
      have hHB := Lib.hid hHeld.2.2.2.2.2.2.2.2.2.2.2.2
      clear hHeld
      go_wp2_with fail
      go_meet
      exact ⟨rfl, hHB.out⟩
  obtain ⟨rfl, hb1⟩ := hcut
  go_wp2
  go_ret
  exact ⟨rfl, below_step hB hb1⟩

set_option maxHeartbeats 4000000 in
set_option maxRecDepth 100000 in
theorem refEarliest_any (s t : Sp) (p0 p1 v0 v1 q0 q1 u0 u1 : Int) (w : World) (hs : Sh w s) (ht : Sh w t)
    (hp0 : Po p0) (hp1 : Po p1) (hv0 : Ve v0) (hv1 : Ve v1) (hq0 : Po q0) (hq1 : Po q1) (hu0 : Ve u0) (hu1 : Ve u1) :
    Calls Try.prog 29 #[.agg #[.int .i64 s.r, .slice s.a s.n s.cap], .agg #[.int .i64 p0, .int .i64 p1], .agg #[.int .i64 v0, .int .i64 v1], .agg #[.int .i64 t.r, .slice t.a t.n t.cap], .agg #[.int .i64 q0, .int .i64 q1], .agg #[.int .i64 u0, .int .i64 u1]] w fun e w' =>
      (∃ f, e = .returned (.int .i64 f) ∧ Early (tch s t (p0, p1) (v0, v1) (q0, q1) (u0, u1)) f) ∧ Below w.heap.size w w' := by
  have hX := sixV_six w s t p0 p1 v0 v1 q0 q1 u0 u1
  have hB := sixV_below w s t p0 p1 v0 v1 q0 q1 u0 u1
  have K := fun (k : Int) (hk : 0 ≤ k ∧ k ≤ 8) (W : World) (hW : Below (sixV w s t p0 p1 v0 v1 q0 q1 u0 u1).heap.size (sixV w s t p0 p1 v0 v1 q0 q1 u0 u1) W) =>
    refTouch_any s t p0 p1 v0 v1 q0 q1 u0 u1 k W ((hs.carry hB).carry hW) ((ht.carry hB).carry hW) hk hp0 hp1 hv0 hv1 hq0 hq1 hu0 hu1
  obtain ⟨V, hV⟩ : ∃ V, V = sixV w s t p0 p1 v0 v1 q0 q1 u0 u1 := ⟨_, rfl⟩
  have hV' := Lib.hid hV
  rw [← hV] at hB K hX
  generalize tch s t (p0, p1) (v0, v1) (q0, q1) (u0, u1) = T at *
  have hk := Lib.hid K
  obtain ⟨a0, a1, e0, e1, z0, z1, b0, b1, g0, g1, h0, h1⟩ := hX
  clear K hV hs ht hp0 hp1 hv0 hv1 hq0 hq1 hu0 hu1
  go_enter Try.func29, Try.ntmps29
  go_upto_region 1 with fail
  rw [show ((((((w.alloc (.cells #[.int .i64 s.r, .slice s.a s.n s.cap] 25)).alloc (.cells #[.int .i64 p0, .int .i64 p1] 28)).alloc (.cells #[.int .i64 v0, .int .i64 v1] 28)).alloc (.cells #[.int .i64 t.r, .slice t.a t.n t.cap] 25)).alloc (.cells #[.int .i64 q0, .int .i64 q1] 28)).alloc (.cells #[.int .i64 u0, .int .i64 u1] 28)) = V from hV'.out.symm]
  clear hV'
  go_wp2_with fail
  go_loopw [13] (fun i wr => ∃ k : Nat, k ≤ 9 ∧ i = .int .i64 k ∧ (∀ j : Nat, j < k → T j = false) ∧ Below V.heap.size V wr) (fun i _ => 9 - (intOf i).toNat)
  case atStart => exact ⟨0, by omega, rfl, fun j hj => absurd hj (Nat.not_lt_zero _), Below.refl _ _⟩
  case round =>
    obtain ⟨k, hk9, rfl, hall, hbl⟩ := hrel
    have hall' := Lib.hid hall
    clear hall
    replace a0 := carry (hbl) a0
    replace a1 := carry (hbl) a1
    replace e0 := carry (hbl) e0
    replace e1 := carry (hbl) e1
    replace z0 := carry (hbl) z0
    replace z1 := carry (hbl) z1
    replace b0 := carry (hbl) b0
    replace b1 := carry (hbl) b1
    replace g0 := carry (hbl) g0
    replace g1 := carry (hbl) g1
    replace h0 := carry (hbl) h0
    replace h1 := carry (hbl) h1
    by_cases hlt : k < 9
    · have hkk := Lib.hid (hk.out (k : Int) (by omega))
      have hki : (k : Int) ≤ 8 := by omega
      go_wp2_with fail
      refine (hkk.out _ hbl).mono ?_
      rintro e w2 ⟨rfl, hb2⟩
      have hbl2 := hbl.trans (hb2.mono hbl.size)
      cases hT : T (k : Int) with
      | true =>
        have hT' := Lib.hid hT
        clear hT
        by_cases hk0 : k = 0
        · subst hk0
          go_wp2
          go_ret
          exact ⟨⟨1024, rfl, .inl ⟨hT'.out, rfl⟩⟩, hB.trans (hbl2.mono hB.size)⟩
        · have h1' : ((k : Int) == 0) = false := by simp only [beq_eq_false_iff_ne, ne_eq]; omega
          obtain ⟨j, rfl⟩ : ∃ j, k = j + 1 := ⟨k - 1, by omega⟩
          have hT2 : T ((j : Int) + 1) = true := by have := hT'.out; rwa [Int.natCast_add] at this
          have hT3 := Lib.hid hT2
          clear hk0 hT2
          go_wp2
          go_ret
          refine ⟨⟨(j : Int) * 128, ?_, .inr (.inl ⟨j, by omega, fun i hi => hall'.out i (by omega), hT3.out, rfl⟩)⟩, hB.trans (hbl2.mono hB.size)⟩
          first | rfl | (congr 3; omega) | (congr 2; omega)
      | false =>
        have hT' := Lib.hid hT
        clear hT
        go_wp2
        go_roundw
        case rel => exact ⟨k + 1, by omega, by go_num, fun j hj => by
          rcases Nat.lt_or_ge j k with h | h
          · exact hall'.out j h
          · obtain rfl : j = k := by omega
            exact hT'.out, hbl2⟩
        case measure => simp [intOf]; omega
    · obtain rfl : k = 9 := by omega
      go_wp2
      go_ret
      exact ⟨⟨1024, rfl, .inr (.inr ⟨fun i hi => hall'.out i (by omega), rfl⟩)⟩, hB.trans (hbl.mono hB.size)⟩
end Go.Proofs.Ytfbgghkkgmgnjaa
