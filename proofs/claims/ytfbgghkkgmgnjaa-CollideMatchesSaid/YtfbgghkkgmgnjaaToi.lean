/- Package toi: positions after sub-steps, the test of one sub-step. -/
import Derived.Test.YtfbgghkkgmgnjaaCollM
import Derived.Deep.RegionHeld3
import Derived.Deep.DeepCutAuto
import Derived.Deep.CutBlock
namespace Go.Proofs.Ytfbgghkkgmgnjaa
open Go.ChangeShapes Go.WideShapes Go.ChangeAt Go.RowKit Go.Shelf
open Fxm
set_option linter.unusedSimpArgs false
set_option linter.unusedVariables false

/-- A velocity's component; a position's. -/
def Ve (a : Int) : Prop := -16384 ≤ a ∧ a ≤ 16384
def Po (a : Int) : Prop := -4194304 ≤ a ∧ a ≤ 4194304
theorem Po.be {a : Int} (h : Po a) : Be a := by unfold Po at h; unfold Be; omega
theorem Po.bd {a : Int} (h : Po a) : Bd a := by unfold Po at h; unfold Bd; omega
theorem Ve.bd {a : Int} (h : Ve a) : Bd a := by unfold Ve at h; unfold Bd; omega
theorem sub_bd {v k : Int} (hv : Ve v) (hk : 0 ≤ k ∧ k ≤ 8) : -16384 ≤ flr (v * k) 8 ∧ flr (v * k) 8 ≤ 16384 := by
  have := prod_bd (a := v) (b := k) (A := 16384) (B := 8) (by omega) (by omega) hv.1 hv.2 (by omega) hk.2
  have := flr_spec_pos (a := v * k) (b := 8) (by omega)
  omega
/-- The position after k sub-steps. -/
def posV (p v : Int × Int) (k : Int) : Int × Int := (p.1 + flr (v.1 * k) 8, p.2 + flr (v.2 * k) 8)
theorem pos_be {p v k : Int} (hp : Po p) (hv : Ve v) (hk : 0 ≤ k ∧ k ≤ 8) : Be (p + flr (v * k) 8) := by
  have := sub_bd hv hk
  unfold Po at hp; unfold Be; omega

set_option maxHeartbeats 1000000 in
theorem after_any (k p0 p1 v0 v1 : Int) (w : World) (hk : 0 ≤ k ∧ k ≤ 8) (hp0 : Po p0) (hp1 : Po p1) (hv0 : Ve v0) (hv1 : Ve v1) :
    Calls Try.prog 68 #[.int .i64 k, .agg #[.int .i64 p0, .int .i64 p1], .agg #[.int .i64 v0, .int .i64 v1]] w fun e w' =>
      e = .returned (.agg #[.int .i64 (p0 + flr (v0 * k) 8), .int .i64 (p1 + flr (v1 * k) 8)]) ∧ Below w.heap.size w w' := by
  have s0 := sub_bd hv0 hk
  have s1 := sub_bd hv1 hk
  have k1 := fun w => vmulDiv_any v0 v1 k 8 w hv0.bd hv1.bd (by unfold Bd; omega)
  have k2 := fun w => add_any p0 p1 (flr (v0 * k) 8) (flr (v1 * k) 8) w hp0.bd hp1.bd (by unfold Bd; omega) (by unfold Bd; omega)
  generalize flr (v0 * k) 8 = z0 at *
  generalize flr (v1 * k) 8 = z1 at *
  generalize p0 + z0 = x0 at *
  generalize p1 + z1 = x1 at *
  have hkk := Lib.hid (And.intro k1 k2)
  clear k1 k2 s0 s1
  go_enter Try.func68, Try.ntmps68
  go_upto_region 1 with fail
  have hB := below_step (below_step (alloc_below w (.cells #[.int .i64 p0, .int .i64 p1] 28)) (alloc_below _ (.cells #[.int .i64 v0, .int .i64 v1] 28))) (alloc_below _ (.cells #[.int .i64 0, .int .i64 0] 28))
  obtain ⟨V, hV⟩ : ∃ V, V = ((w.alloc (.cells #[.int .i64 p0, .int .i64 p1] 28)).alloc (.cells #[.int .i64 v0, .int .i64 v1] 28)).alloc (.cells #[.int .i64 0, .int .i64 0] 28) := ⟨_, rfl⟩
  have a0 : V.cell? ⟨w.heap.size, 0, none⟩ = some (.int .i64 p0) := by rw [hV]; simp [go_sem]
  have a1 : V.cell? ⟨w.heap.size, 1, none⟩ = some (.int .i64 p1) := by rw [hV]; simp [go_sem]
  have b0 : V.cell? ⟨w.heap.size + 1, 0, none⟩ = some (.int .i64 v0) := by rw [hV]; simp [go_sem]
  have b1 : V.cell? ⟨w.heap.size + 1, 1, none⟩ = some (.int .i64 v1) := by rw [hV]; simp [go_sem]
  have r0 : V.cell? ⟨w.heap.size + 1 + 1, 0, none⟩ = some (.int .i64 0) := by rw [hV]; simp [go_sem]
  have r1 : V.cell? ⟨w.heap.size + 1 + 1, 1, none⟩ = some (.int .i64 0) := by rw [hV]; simp [go_sem]
  have g0 : V.frozen? ⟨w.heap.size + 1 + 1, 0, none⟩ = false := by rw [hV]; simp [go_sem]
  have g1 : V.frozen? ⟨w.heap.size + 1 + 1, 1, none⟩ = false := by rw [hV]; simp [go_sem]
  rw [← hV] at hB ⊢
  clear hV
  have n0 := block_lt_of_cell r0
  simp only at n0
  refine wp_region_tail 5 (by kernel_rfl) (by kernel_rfl) ?_
  intro W hK
  have g_a0 := fun x => carry ((hK.below x)) a0
  have g_a1 := fun x => carry ((hK.below x)) a1
  have g_b0 := fun x => carry ((hK.below x)) b0
  have g_b1 := fun x => carry ((hK.below x)) b1
  have g_r0 := fun x => carry ((hK.below x)) r0
  have g_r1 := fun x => carry ((hK.below x)) r1
  simp only [List.take_succ_cons, List.take_zero, List.drop_succ_cons, List.drop_zero]
  repeat (go_big_quiet_step ((first | (go_at_call 24; with_reducible exact met_made (hkk.out.1 _)) | (go_at_call 25; with_reducible exact met_made (hkk.out.2 _)))))
  refine wpQuiet_nil ?_
  intro wq hw'
  have hbq := kept_in hK hw'
  clear g_a0 g_a1 g_b0 g_b1 g_r0 g_r1
  clear hw' hK W
  replace a0 := carry (hbq) a0
  replace a1 := carry (hbq) a1
  replace b0 := carry (hbq) b0
  replace b1 := carry (hbq) b1
  replace r0 := carry (hbq) r0
  replace r1 := carry (hbq) r1
  have h0 := (hbq.frozen (p := ⟨w.heap.size + 1 + 1, 0, none⟩) n0).trans g0
  have h1 := (hbq.frozen (p := ⟨w.heap.size + 1 + 1, 1, none⟩) n0).trans g1
  go_wp2
  refine bodyPost_ret (v := .agg #[.int .i64 x0, .int .i64 x1]) (by simp [results, Try.results68, go_sem, r0, r1]) rfl ⟨rfl, ?_⟩
  exact ((below_step hB hbq).setCell (by first | (simp; done) | (simp; omega) | omega) _).setCell (by first | (simp; done) | (simp; omega) | omega) _

/-- Do they touch after k sub-steps? -/
noncomputable def tch (s t : Sp) (p v q u : Int × Int) (k : Int) : Bool := colB s t (posV p v k) (posV q u k)

/-- Two bodies in the blocks from b on. -/
structure Six (w : World) (b : Nat) (s t : Sp) (p0 p1 v0 v1 q0 q1 u0 u1 : Int) : Prop where
  a0 : w.cell? ⟨b, 0, none⟩ = some (.int .i64 s.r)
  a1 : w.cell? ⟨b, 1, none⟩ = some (.slice s.a s.n s.cap)
  p0 : w.cell? ⟨b + 1, 0, none⟩ = some (.int .i64 p0)
  p1 : w.cell? ⟨b + 1, 1, none⟩ = some (.int .i64 p1)
  v0 : w.cell? ⟨b + 2, 0, none⟩ = some (.int .i64 v0)
  v1 : w.cell? ⟨b + 2, 1, none⟩ = some (.int .i64 v1)
  b0 : w.cell? ⟨b + 3, 0, none⟩ = some (.int .i64 t.r)
  b1 : w.cell? ⟨b + 3, 1, none⟩ = some (.slice t.a t.n t.cap)
  q0 : w.cell? ⟨b + 4, 0, none⟩ = some (.int .i64 q0)
  q1 : w.cell? ⟨b + 4, 1, none⟩ = some (.int .i64 q1)
  u0 : w.cell? ⟨b + 5, 0, none⟩ = some (.int .i64 u0)
  u1 : w.cell? ⟨b + 5, 1, none⟩ = some (.int .i64 u1)
theorem Six.carry {w w' : World} {b : Nat} {s t : Sp} {p0 p1 v0 v1 q0 q1 u0 u1 : Int} (h : Six w b s t p0 p1 v0 v1 q0 q1 u0 u1) (hb : Below w.heap.size w w') : Six w' b s t p0 p1 v0 v1 q0 q1 u0 u1 :=
  ⟨Proofs.Ytfbgghkkgmgnjaa.carry hb h.a0, Proofs.Ytfbgghkkgmgnjaa.carry hb h.a1, Proofs.Ytfbgghkkgmgnjaa.carry hb h.p0, Proofs.Ytfbgghkkgmgnjaa.carry hb h.p1, Proofs.Ytfbgghkkgmgnjaa.carry hb h.v0, Proofs.Ytfbgghkkgmgnjaa.carry hb h.v1, Proofs.Ytfbgghkkgmgnjaa.carry hb h.b0, Proofs.Ytfbgghkkgmgnjaa.carry hb h.b1, Proofs.Ytfbgghkkgmgnjaa.carry hb h.q0, Proofs.Ytfbgghkkgmgnjaa.carry hb h.q1, Proofs.Ytfbgghkkgmgnjaa.carry hb h.u0, Proofs.Ytfbgghkkgmgnjaa.carry hb h.u1⟩

set_option maxHeartbeats 4000000 in
set_option maxRecDepth 100000 in
theorem touchC_any (s t : Sp) (p0 p1 v0 v1 q0 q1 u0 u1 k : Int) (b : Nat) (w : World) (hs : Sh w s) (ht : Sh w t) (hX : Six w b s t p0 p1 v0 v1 q0 q1 u0 u1) (hk : 0 ≤ k ∧ k ≤ 8)
    (hp0 : Po p0) (hp1 : Po p1) (hv0 : Ve v0) (hv1 : Ve v1) (hq0 : Po q0) (hq1 : Po q1) (hu0 : Ve u0) (hu1 : Ve u1) :
    Calls Try.prog 67 #[.int .i64 k, .pointer (some ⟨b, 0, none⟩), .pointer (some ⟨b + 1, 0, none⟩), .pointer (some ⟨b + 2, 0, none⟩), .pointer (some ⟨b + 3, 0, none⟩), .pointer (some ⟨b + 4, 0, none⟩), .pointer (some ⟨b + 5, 0, none⟩)] w fun e w' =>
      e = .returned (.bool (tch s t (p0, p1) (v0, v1) (q0, q1) (u0, u1) k)) ∧ Below w.heap.size w w' := by
  have k1 := fun w => after_any k p0 p1 v0 v1 w hk hp0 hp1 hv0 hv1
  have k2 := fun w => after_any k q0 q1 u0 u1 w hk hq0 hq1 hu0 hu1
  have k3 := fun w (h : Sh w s) (h' : Sh w t) => col_any s t (p0 + flr (v0 * k) 8) (p1 + flr (v1 * k) 8) (q0 + flr (u0 * k) 8) (q1 + flr (u1 * k) 8) w h h' (pos_be hp0 hv0 hk) (pos_be hp1 hv1 hk) (pos_be hq0 hu0 hk) (pos_be hq1 hu1 hk)
  have e : tch s t (p0, p1) (v0, v1) (q0, q1) (u0, u1) k = colB s t (p0 + flr (v0 * k) 8, p1 + flr (v1 * k) 8) (q0 + flr (u0 * k) 8, q1 + flr (u1 * k) 8) := rfl
  rw [e]
  clear e
  generalize p0 + flr (v0 * k) 8 = x0 at *
  generalize p1 + flr (v1 * k) 8 = x1 at *
  generalize q0 + flr (u0 * k) 8 = y0 at *
  generalize q1 + flr (u1 * k) 8 = y1 at *
  generalize colN s t (x0, x1) (y0, y1) = cN at *
  obtain ⟨c0, c1, c2⟩ := cN
  simp only at k3
  generalize colB s t (x0, x1) (y0, y1) = cb at *
  have hkk := Lib.hid (And.intro k1 (And.intro k2 k3))
  have hsh := Lib.hid (And.intro hs ht)
  obtain ⟨a0, a1, e0, e1, z0, z1, b0, b1, g0, g1, h0, h1⟩ := hX
  clear k1 k2 k3 hs ht hk hp0 hp1 hv0 hv1 hq0 hq1 hu0 hu1
  go_enter Try.func67, Try.ntmps67
  go_upto_region 1 with fail
  have mk := Lib.hid (fun w' (h : Below w.heap.size w w') => (⟨carry h a0, carry h a1, carry h e0, carry h e1, carry h z0, carry h z1, carry h b0, carry h b1, carry h g0, carry h g1, carry h h0, carry h h1, h⟩ : w'.cell? ⟨b, 0, none⟩ = some (.int .i64 s.r) ∧ w'.cell? ⟨b, 1, none⟩ = some (.slice s.a s.n s.cap) ∧ w'.cell? ⟨b + 1, 0, none⟩ = some (.int .i64 p0) ∧ w'.cell? ⟨b + 1, 1, none⟩ = some (.int .i64 p1) ∧ w'.cell? ⟨b + 2, 0, none⟩ = some (.int .i64 v0) ∧ w'.cell? ⟨b + 2, 1, none⟩ = some (.int .i64 v1) ∧ w'.cell? ⟨b + 3, 0, none⟩ = some (.int .i64 t.r) ∧ w'.cell? ⟨b + 3, 1, none⟩ = some (.slice t.a t.n t.cap) ∧ w'.cell? ⟨b + 4, 0, none⟩ = some (.int .i64 q0) ∧ w'.cell? ⟨b + 4, 1, none⟩ = some (.int .i64 q1) ∧ w'.cell? ⟨b + 5, 0, none⟩ = some (.int .i64 u0) ∧ w'.cell? ⟨b + 5, 1, none⟩ = some (.int .i64 u1) ∧ Below w.heap.size w w'))
  have hnd : ∀ O, (w.drew.alloc O).heap[w.heap.size]? = some O := fun O => World.alloc_heap_new w.drew O
  have bD : Below w.heap.size w w.drew := (Below.refl _ w).drew
  have hnd2 : ∀ O, (w.alloc O).drew.heap[w.heap.size]? = some O := fun O => World.alloc_heap_new w O
  have bA2 : ∀ O, Below w.heap.size w (w.alloc O).drew := fun O => (alloc_below w O).drew
  have bA3 : ∀ O, Below w.heap.size w (w.alloc O) := fun O => alloc_below w O
  have bA : ∀ O, Below w.heap.size w (w.drew.alloc O) := fun O => below_step bD (alloc_below _ O)
  go_cut [10] (fun x W => x = .bool cb ∧ Below w.heap.size w W)
  case first =>
    go_region_held3 (fun w' => w'.cell? ⟨b, 0, none⟩ = some (.int .i64 s.r) ∧ w'.cell? ⟨b, 1, none⟩ = some (.slice s.a s.n s.cap) ∧ w'.cell? ⟨b + 1, 0, none⟩ = some (.int .i64 p0) ∧ w'.cell? ⟨b + 1, 1, none⟩ = some (.int .i64 p1) ∧ w'.cell? ⟨b + 2, 0, none⟩ = some (.int .i64 v0) ∧ w'.cell? ⟨b + 2, 1, none⟩ = some (.int .i64 v1) ∧ w'.cell? ⟨b + 3, 0, none⟩ = some (.int .i64 t.r) ∧ w'.cell? ⟨b + 3, 1, none⟩ = some (.slice t.a t.n t.cap) ∧ w'.cell? ⟨b + 4, 0, none⟩ = some (.int .i64 q0) ∧ w'.cell? ⟨b + 4, 1, none⟩ = some (.int .i64 q1) ∧ w'.cell? ⟨b + 5, 0, none⟩ = some (.int .i64 u0) ∧ w'.cell? ⟨b + 5, 1, none⟩ = some (.int .i64 u1) ∧ Below w.heap.size w w')
      (first | (exact mk.out _ bD) | (exact mk.out _ (bA _)) | (exact mk.out _ (bA2 _)) | (exact mk.out _ (bA3 _)) | (exact mk.out _ B6) | (exact mk.out _ (below_step B6 (alloc_below _ _))) | (exact mk.out _ B7) | (exact mk.out _ (below_step B7 (alloc_below _ _))) | (exact mk.out _ B8) | (exact mk.out _ (below_step B8 (alloc_below _ _))) | (exact mk.out _ (((B8.setCell (by first | exact Nat.le_refl _ | exact B6.size | exact B7.size | exact B8.size) _).setCell (by first | exact Nat.le_refl _ | exact B6.size | exact B7.size | exact B8.size) _).setCell (by first | exact Nat.le_refl _ | exact B6.size | exact B7.size | exact B8.size) _)) | (exact mk.out _ ((((below_step B8 (alloc_below _ _)).setCell (by first | exact Nat.le_refl _ | exact B6.size | exact B7.size | exact B8.size) _).setCell (by first | exact Nat.le_refl _ | exact B6.size | exact B7.size | exact B8.size) _).setCell (by first | exact Nat.le_refl _ | exact B6.size | exact B7.size | exact B8.size) _)))
      (first
        | (go_at_call 68; with_reducible refine (hkk.out.1 _).mono ?_; rintro e w6 ⟨rfl, hb6⟩; have B6 : Below w.heap.size w w6 := (by first | exact below_step bD hb6 | exact below_step (bA _) hb6 | exact below_step (bA2 _) hb6); (try have n6 : w6.heap[w.heap.size]? = some (curC (0, 0, 0)) := (by first | exact (hb6.block _ (Array.getElem?_eq_some_iff.1 (hnd _)).1).trans (hnd _) | exact (hb6.block _ (Array.getElem?_eq_some_iff.1 (hnd2 _)).1).trans (hnd2 _))))
        | (go_at_call 68; with_reducible refine (hkk.out.2.1 _).mono ?_; rintro e w7 ⟨rfl, hb7⟩; have B7 : Below w.heap.size w w7 := (by first | exact below_step B6 hb7 | exact below_step (below_step B6 (alloc_below _ _)) hb7); (try have n7 := (hb7.block _ (Array.getElem?_eq_some_iff.1 n6).1).trans n6); (try have n7 : w7.heap[w6.heap.size]? = some (curC (0, 0, 0)) := (hb7.block _ (Array.getElem?_eq_some_iff.1 (World.alloc_heap_new _ _)).1).trans (World.alloc_heap_new _ _)))
        | (go_at_call 18; with_reducible refine (hkk.out.2.2 _ (hsh.out.1.carry (by first | exact B7 | exact below_step B7 (alloc_below _ _))) (hsh.out.2.carry (by first | exact B7 | exact below_step B7 (alloc_below _ _)))).mono ?_; rintro e w8 ⟨rfl, hb8⟩; have B8 : Below w.heap.size w w8 := (by first | exact below_step B7 hb8 | exact below_step (below_step B7 (alloc_below _ _)) hb8); (try have n8 := (hb8.block _ (Array.getElem?_eq_some_iff.1 n7).1).trans n7); (try have n8 : w8.heap[w7.heap.size]? = some (curC (0, 0, 0)) := (hb8.block _ (Array.getElem?_eq_some_iff.1 (World.alloc_heap_new _ _)).1).trans (World.alloc_heap_new _ _)); (try (have o0 := heap_cell n8 0; have o1 := heap_cell n8 1; have o2 := heap_cell n8 2; have f0 := heap_frozen n8 0; have f1 := heap_frozen n8 1; have f2 := heap_frozen n8 2; simp only [List.getElem?_toArray, List.getElem?_cons_zero, List.getElem?_cons_succ] at o0 o1 o2))))
    all_goals
      rename_i hHeld
      have hHB := Lib.hid hHeld.2.2.2.2.2.2.2.2.2.2.2.2
      clear hHeld
      go_wp2_with fail
      go_meet
      exact ⟨rfl, hHB.out⟩
  obtain ⟨rfl, hb1⟩ := hcut
  go_wp2
  go_ret
  exact ⟨rfl, hb1⟩
end Go.Proofs.Ytfbgghkkgmgnjaa
