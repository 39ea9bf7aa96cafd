/- Package toi: the laws' helpers over bodies. -/
import Derived.Test.YtfbgghkkgmgnjaaToiB
namespace Go.Proofs.Ytfbgghkkgmgnjaa
open Go.ChangeShapes Go.WideShapes Go.ChangeAt Go.RowKit Go.Shelf
open Fxm
set_option linter.unusedSimpArgs false
set_option linter.unusedVariables false

/-- A body's block. -/
def bodyO (s : Sp) (p0 p1 v0 v1 : Int) : Obj := .cells #[.int .i64 s.r, .slice s.a s.n s.cap, .int .i64 (p0), .int .i64 (p1), .int .i64 (v0), .int .i64 (v1)] 50
theorem body_cells {W : World} {B : Nat} {s : Sp} {p0 p1 v0 v1 : Int} (h : W.heap[B]? = some (bodyO s p0 p1 v0 v1)) :
    W.cell? ⟨B, 0, none⟩ = some (.int .i64 s.r) ∧ W.cell? ⟨B, 1, none⟩ = some (.slice s.a s.n s.cap) ∧ W.cell? ⟨B, 2, none⟩ = some (.int .i64 p0) ∧ W.cell? ⟨B, 3, none⟩ = some (.int .i64 p1) ∧ W.cell? ⟨B, 4, none⟩ = some (.int .i64 v0) ∧ W.cell? ⟨B, 5, none⟩ = some (.int .i64 v1) := by
  have h0 := heap_cell h 0
  have h1 := heap_cell h 1
  have h2 := heap_cell h 2
  have h3 := heap_cell h 3
  have h4 := heap_cell h 4
  have h5 := heap_cell h 5
  simp only [List.getElem?_toArray, List.getElem?_cons_zero, List.getElem?_cons_succ] at h0 h1 h2 h3 h4 h5
  exact ⟨h0, h1, h2, h3, h4, h5⟩

set_option maxHeartbeats 4000000 in
set_option maxRecDepth 100000 in
theorem touch6_any (s t : Sp) (p0 p1 v0 v1 q0 q1 u0 u1 k : Int) (w : World) (hs : Sh w s) (ht : Sh w t) (hk : 0 ≤ k ∧ k ≤ 8)
    (hp0 : Po p0) (hp1 : Po p1) (hv0 : Ve v0) (hv1 : Ve v1) (hq0 : Po q0) (hq1 : Po q1) (hu0 : Ve u0) (hu1 : Ve u1) :
    Calls Try.prog 31 #[.agg #[.int .i64 s.r, .slice s.a s.n s.cap, .int .i64 (p0), .int .i64 (p1), .int .i64 (v0), .int .i64 (v1)], .agg #[.int .i64 t.r, .slice t.a t.n t.cap, .int .i64 (q0), .int .i64 (q1), .int .i64 (u0), .int .i64 (u1)], .int .i64 k] w fun e w' =>
      e = .returned (.bool (tch s t (p0, p1) (v0, v1) (q0, q1) (u0, u1) k)) ∧ Below w.heap.size w w' := by
  have b0 := sub_bd hv0 hk
  have b1 := sub_bd hv1 hk
  have b2 := sub_bd hu0 hk
  have b3 := sub_bd hu1 hk
  have kd : Bd k := by unfold Bd; omega
  have k1 := fun w => vmulDiv_any v0 v1 k 8 w hv0.bd hv1.bd kd
  have k2 := fun w => vmulDiv_any u0 u1 k 8 w hu0.bd hu1.bd kd
  have k3 := fun w => add_any p0 p1 (flr (v0 * k) 8) (flr (v1 * k) 8) w hp0.bd hp1.bd (by unfold Bd; omega) (by unfold Bd; omega)
  have k4 := fun w => add_any q0 q1 (flr (u0 * k) 8) (flr (u1 * k) 8) w hq0.bd hq1.bd (by unfold Bd; omega) (by unfold Bd; omega)
  have k5 := fun w (h : Sh w s) (h' : Sh w t) => col_any s t (p0 + flr (v0 * k) 8) (p1 + flr (v1 * k) 8) (q0 + flr (u0 * k) 8) (q1 + flr (u1 * k) 8) w h h' (pos_be hp0 hv0 hk) (pos_be hp1 hv1 hk) (pos_be hq0 hu0 hk) (pos_be hq1 hu1 hk)
  have e : tch s t (p0, p1) (v0, v1) (q0, q1) (u0, u1) k = colB s t (p0 + flr (v0 * k) 8, p1 + flr (v1 * k) 8) (q0 + flr (u0 * k) 8, q1 + flr (u1 * k) 8) := rfl
  rw [e]
  clear e b0 b1 b2 b3 kd
  generalize flr (v0 * k) 8 = d0 at *
  generalize flr (v1 * k) 8 = d1 at *
  generalize flr (u0 * k) 8 = e0 at *
  generalize flr (u1 * k) 8 = e1 at *
  generalize p0 + d0 = x0 at *
  generalize p1 + d1 = x1 at *
  generalize q0 + e0 = y0 at *
  generalize q1 + e1 = y1 at *
  generalize colN s t (x0, x1) (y0, y1) = cN at *
  obtain ⟨c0, c1, c2⟩ := cN
  simp only at k5
  generalize colB s t (x0, x1) (y0, y1) = cb at *
  have hkk := Lib.hid (And.intro k1 (And.intro k2 (And.intro k3 (And.intro k4 k5))))
  have hsh := Lib.hid (And.intro hs ht)
  clear k1 k2 k3 k4 k5 hs ht hk hp0 hp1 hv0 hv1 hq0 hq1 hu0 hu1
  go_enter Try.func31, Try.ntmps31
  go_upto_region 1 with fail
  have hA := World.alloc_heap_new w (bodyO s p0 p1 v0 v1)
  have hA' := (Below.heap_alloc (w.alloc (bodyO s p0 p1 v0 v1)) (bodyO t q0 q1 u0 u1) w.heap.size (by simp)).trans hA
  have hB' := World.alloc_heap_new (w.alloc (bodyO s p0 p1 v0 v1)) (bodyO t q0 q1 u0 u1)
  rw [World.size_alloc] at hB'
  have hbV := below_step (alloc_below w (bodyO s p0 p1 v0 v1)) (alloc_below _ (bodyO t q0 q1 u0 u1))
  unfold bodyO at hA' hB' hbV
  obtain ⟨V, hV⟩ : ∃ V, V = (w.alloc (.cells #[.int .i64 s.r, .slice s.a s.n s.cap, .int .i64 (p0), .int .i64 (p1), .int .i64 (v0), .int .i64 (v1)] 50)).alloc (.cells #[.int .i64 t.r, .slice t.a t.n t.cap, .int .i64 (q0), .int .i64 (q1), .int .i64 (u0), .int .i64 (u1)] 50) := ⟨_, rfl⟩
  rw [← hV] at hA' hB' hbV ⊢
  obtain ⟨sa0, sa1, sp0, sp1, sv0, sv1⟩ := body_cells hA'
  obtain ⟨tb0, tb1, tq0, tq1, tu0, tu1⟩ := body_cells hB'
  have hsV := Lib.hid (And.intro (hsh.out.1.carry hbV) (hsh.out.2.carry hbV))
  clear hV hA hA' hB' hsh
  have mk := Lib.hid (fun w' (h : Below V.heap.size V w') => (⟨carry h sa0, carry h sa1, carry h sp0, carry h sp1, carry h sv0, carry h sv1, carry h tb0, carry h tb1, carry h tq0, carry h tq1, carry h tu0, carry h tu1, h⟩ : w'.cell? ⟨w.heap.size, 0, none⟩ = some (.int .i64 s.r) ∧ w'.cell? ⟨w.heap.size, 1, none⟩ = some (.slice s.a s.n s.cap) ∧ w'.cell? ⟨w.heap.size, 2, none⟩ = some (.int .i64 p0) ∧ w'.cell? ⟨w.heap.size, 3, none⟩ = some (.int .i64 p1) ∧ w'.cell? ⟨w.heap.size, 4, none⟩ = some (.int .i64 v0) ∧ w'.cell? ⟨w.heap.size, 5, none⟩ = some (.int .i64 v1) ∧ w'.cell? ⟨w.heap.size + 1, 0, none⟩ = some (.int .i64 t.r) ∧ w'.cell? ⟨w.heap.size + 1, 1, none⟩ = some (.slice t.a t.n t.cap) ∧ w'.cell? ⟨w.heap.size + 1, 2, none⟩ = some (.int .i64 q0) ∧ w'.cell? ⟨w.heap.size + 1, 3, none⟩ = some (.int .i64 q1) ∧ w'.cell? ⟨w.heap.size + 1, 4, none⟩ = some (.int .i64 u0) ∧ w'.cell? ⟨w.heap.size + 1, 5, none⟩ = some (.int .i64 u1) ∧ Below V.heap.size V w'))
  have hnd : ∀ O, (V.drew.alloc O).heap[V.heap.size]? = some O := fun O => World.alloc_heap_new V.drew O
  have bD : Below V.heap.size V V.drew := (Below.refl _ V).drew
  have hnd2 : ∀ O, (V.alloc O).drew.heap[V.heap.size]? = some O := fun O => World.alloc_heap_new V O
  have bA2 : ∀ O, Below V.heap.size V (V.alloc O).drew := fun O => (alloc_below V O).drew
  have bA3 : ∀ O, Below V.heap.size V (V.alloc O) := fun O => alloc_below V O
  have bA : ∀ O, Below V.heap.size V (V.drew.alloc O) := fun O => below_step bD (alloc_below _ O)
  go_cut [8] (fun x W => x = .bool cb ∧ Below V.heap.size V W)
  case first =>
    go_region_held3 (fun w' => w'.cell? ⟨w.heap.size, 0, none⟩ = some (.int .i64 s.r) ∧ w'.cell? ⟨w.heap.size, 1, none⟩ = some (.slice s.a s.n s.cap) ∧ w'.cell? ⟨w.heap.size, 2, none⟩ = some (.int .i64 p0) ∧ w'.cell? ⟨w.heap.size, 3, none⟩ = some (.int .i64 p1) ∧ w'.cell? ⟨w.heap.size, 4, none⟩ = some (.int .i64 v0) ∧ w'.cell? ⟨w.heap.size, 5, none⟩ = some (.int .i64 v1) ∧ w'.cell? ⟨w.heap.size + 1, 0, none⟩ = some (.int .i64 t.r) ∧ w'.cell? ⟨w.heap.size + 1, 1, none⟩ = some (.slice t.a t.n t.cap) ∧ w'.cell? ⟨w.heap.size + 1, 2, none⟩ = some (.int .i64 q0) ∧ w'.cell? ⟨w.heap.size + 1, 3, none⟩ = some (.int .i64 q1) ∧ w'.cell? ⟨w.heap.size + 1, 4, none⟩ = some (.int .i64 u0) ∧ w'.cell? ⟨w.heap.size + 1, 5, none⟩ = some (.int .i64 u1) ∧ Below V.heap.size V w')
      (first | (exact mk.out _ bD) | (exact mk.out _ (bA _)) | (exact mk.out _ (bA2 _)) | (exact mk.out _ (bA3 _)) | (exact mk.out _ B6) | (exact mk.out _ (below_step B6 (alloc_below _ _))) | (exact mk.out _ B7) | (exact mk.out _ (below_step B7 (alloc_below _ _))) | (exact mk.out _ B8) | (exact mk.out _ (below_step B8 (alloc_below _ _))) | (exact mk.out _ B9) | (exact mk.out _ (below_step B9 (alloc_below _ _))) | (exact mk.out _ B10) | (exact mk.out _ (below_step B10 (alloc_below _ _))) | (exact mk.out _ (((B10.setCell (by first | exact Nat.le_refl _ | exact B6.size | exact B7.size | exact B8.size | exact B9.size | exact B10.size) _).setCell (by first | exact Nat.le_refl _ | exact B6.size | exact B7.size | exact B8.size | exact B9.size | exact B10.size) _).setCell (by first | exact Nat.le_refl _ | exact B6.size | exact B7.size | exact B8.size | exact B9.size | exact B10.size) _)) | (exact mk.out _ ((((below_step B10 (alloc_below _ _)).setCell (by first | exact Nat.le_refl _ | exact B6.size | exact B7.size | exact B8.size | exact B9.size | exact B10.size) _).setCell (by first | exact Nat.le_refl _ | exact B6.size | exact B7.size | exact B8.size | exact B9.size | exact B10.size) _).setCell (by first | exact Nat.le_refl _ | exact B6.size | exact B7.size | exact B8.size | exact B9.size | exact B10.size) _)))
      (first
        | (go_at_call 24; with_reducible refine (hkk.out.1 _).mono ?_; rintro e w6 ⟨rfl, hb6⟩; have B6 : Below V.heap.size V w6 := (by first | exact below_step bD hb6 | exact below_step (bA _) hb6 | exact below_step (bA2 _) hb6); (try have n6 : w6.heap[V.heap.size]? = some (curC (0, 0, 0)) := (by first | exact (hb6.block _ (Array.getElem?_eq_some_iff.1 (hnd _)).1).trans (hnd _) | exact (hb6.block _ (Array.getElem?_eq_some_iff.1 (hnd2 _)).1).trans (hnd2 _))))
        | (go_at_call 25; with_reducible refine (hkk.out.2.2.1 _).mono ?_; rintro e w7 ⟨rfl, hb7⟩; have B7 : Below V.heap.size V w7 := (by first | exact below_step B6 hb7 | exact below_step (below_step B6 (alloc_below _ _)) hb7); (try have n7 := (hb7.block _ (Array.getElem?_eq_some_iff.1 n6).1).trans n6); (try have n7 : w7.heap[w6.heap.size]? = some (curC (0, 0, 0)) := (hb7.block _ (Array.getElem?_eq_some_iff.1 (World.alloc_heap_new _ _)).1).trans (World.alloc_heap_new _ _)))
        | (go_at_call 24; with_reducible refine (hkk.out.2.1 _).mono ?_; rintro e w8 ⟨rfl, hb8⟩; have B8 : Below V.heap.size V w8 := (by first | exact below_step B7 hb8 | exact below_step (below_step B7 (alloc_below _ _)) hb8); (try have n8 := (hb8.block _ (Array.getElem?_eq_some_iff.1 n7).1).trans n7); (try have n8 : w8.heap[w7.heap.size]? = some (curC (0, 0, 0)) := (hb8.block _ (Array.getElem?_eq_some_iff.1 (World.alloc_heap_new _ _)).1).trans (World.alloc_heap_new _ _)))
        | (go_at_call 25; with_reducible refine (hkk.out.2.2.2.1 _).mono ?_; rintro e w9 ⟨rfl, hb9⟩; have B9 : Below V.heap.size V w9 := (by first | exact below_step B8 hb9 | exact below_step (below_step B8 (alloc_below _ _)) hb9); (try have n9 := (hb9.block _ (Array.getElem?_eq_some_iff.1 n8).1).trans n8); (try have n9 : w9.heap[w8.heap.size]? = some (curC (0, 0, 0)) := (hb9.block _ (Array.getElem?_eq_some_iff.1 (World.alloc_heap_new _ _)).1).trans (World.alloc_heap_new _ _)))
        | (go_at_call 18; with_reducible refine (hkk.out.2.2.2.2 _ (hsV.out.1.carry (by first | exact B9 | exact below_step B9 (alloc_below _ _))) (hsV.out.2.carry (by first | exact B9 | exact below_step B9 (alloc_below _ _)))).mono ?_; rintro e w10 ⟨rfl, hb10⟩; have B10 : Below V.heap.size V w10 := (by first | exact below_step B9 hb10 | exact below_step (below_step B9 (alloc_below _ _)) hb10); (try have n10 := (hb10.block _ (Array.getElem?_eq_some_iff.1 n9).1).trans n9); (try have n10 : w10.heap[w9.heap.size]? = some (curC (0, 0, 0)) := (hb10.block _ (Array.getElem?_eq_some_iff.1 (World.alloc_heap_new _ _)).1).trans (World.alloc_heap_new _ _)); (try (have o0 := heap_cell n10 0; have o1 := heap_cell n10 1; have o2 := heap_cell n10 2; have f0 := heap_frozen n10 0; have f1 := heap_frozen n10 1; have f2 := heap_frozen n10 2; simp only [List.getElem?_toArray, List.getElem?_cons_zero, List.getElem?_cons_succ] at o0 o1 o2))))
    all_goals
      rename_i hHeld
      have hHB := Lib.hid hHeld.2.2.2.2.2.2.2.2.2.2.2.2
      clear hHeld
      go_wp2_with fail
      go_meet
      exact ⟨rfl, hHB.out⟩
  obtain ⟨rfl, hb1⟩ := hcut
  go_wp2
  go_ret
  exact ⟨rfl, below_step hbV hb1⟩

set_option maxHeartbeats 2000000 in
theorem earliest6_any (s t : Sp) (p0 p1 v0 v1 q0 q1 u0 u1 : Int) (w : World) (hs : Sh w s) (ht : Sh w t)
    (hp0 : Po p0) (hp1 : Po p1) (hv0 : Ve v0) (hv1 : Ve v1) (hq0 : Po q0) (hq1 : Po q1) (hu0 : Ve u0) (hu1 : Ve u1) :
    Calls Try.prog 28 #[.agg #[.int .i64 s.r, .slice s.a s.n s.cap, .int .i64 (p0), .int .i64 (p1), .int .i64 (v0), .int .i64 (v1)], .agg #[.int .i64 t.r, .slice t.a t.n t.cap, .int .i64 (q0), .int .i64 (q1), .int .i64 (u0), .int .i64 (u1)]] w fun e w' =>
      (∃ f, e = .returned (.int .i64 f) ∧ Early (tch s t (p0, p1) (v0, v1) (q0, q1) (u0, u1)) f) ∧ Below w.heap.size w w' := by
  have hbV := below_step (alloc_below w (bodyO s p0 p1 v0 v1)) (alloc_below _ (bodyO t q0 q1 u0 u1))
  have k1 := earliest_any s t p0 p1 v0 v1 q0 q1 u0 u1 _ (hs.carry hbV) (ht.carry hbV) hp0 hp1 hv0 hv1 hq0 hq1 hu0 hu1
  have hk := Lib.hid (And.intro k1 hbV)
  clear k1 hbV
  unfold bodyO at hk
  go_enter Try.func28, Try.ntmps28
  go_wp2_with fail
  refine (hk.out.1).mono ?_
  rintro e w1 ⟨⟨f, rfl, hf⟩, hb1⟩
  go_wp2
  go_ret
  exact ⟨⟨f, rfl, hf⟩, below_step hk.out.2 hb1⟩
end Go.Proofs.Ytfbgghkkgmgnjaa
