/- Package toi: the box over the whole motion. -/
import Derived.Test.YtfbgghkkgmgnjaaToiD
import Derived.Test.YtfbgghkkgmgnjaaToiE
namespace Go.Proofs.Ytfbgghkkgmgnjaa
open Go.ChangeShapes Go.WideShapes Go.ChangeAt Go.RowKit Go.Shelf
open Fxm
set_option linter.unusedSimpArgs false
set_option linter.unusedVariables false

/-- A box's block. -/
def boxO (x0 y0 x1 y1 : Int) : Obj := .cells #[.int .i64 x0, .int .i64 y0, .int .i64 x1, .int .i64 y1] 41
theorem box_cells {W : World} {B : Nat} {x0 y0 x1 y1 : Int} (h : W.heap[B]? = some (boxO x0 y0 x1 y1)) :
    W.cell? ⟨B, 0, none⟩ = some (.int .i64 x0) ∧ W.cell? ⟨B, 1, none⟩ = some (.int .i64 y0) ∧ W.cell? ⟨B, 2, none⟩ = some (.int .i64 x1) ∧ W.cell? ⟨B, 3, none⟩ = some (.int .i64 y1) := by
  have h0 := heap_cell h 0
  have h1 := heap_cell h 1
  have h2 := heap_cell h 2
  have h3 := heap_cell h 3
  simp only [List.getElem?_toArray, List.getElem?_cons_zero, List.getElem?_cons_succ] at h0 h1 h2 h3
  exact ⟨h0, h1, h2, h3⟩
theorem box_store {W : World} {B : Nat} {x0 y0 x1 y1 : Int} (h : W.heap[B]? = some (boxO x0 y0 x1 y1)) (a b c d : Int) :
    ((((W.setCell ⟨B, 0, none⟩ (.int .i64 a)).setCell ⟨B, 1, none⟩ (.int .i64 b)).setCell ⟨B, 2, none⟩ (.int .i64 c)).setCell ⟨B, 3, none⟩ (.int .i64 d)).heap[B]? = some (boxO a b c d) := by
  have := heap_setCell (heap_setCell (heap_setCell (heap_setCell h 0 (.int .i64 a)) 1 (.int .i64 b)) 2 (.int .i64 c)) 3 (.int .i64 d)
  simpa [boxO] using this
theorem oset4 {W : World} {k : Nat} {o : Obj} (B : Nat) (a b c d : Value) (h : W.heap[k]? = some o) (hn : k ≠ B) :
    ((((W.setCell ⟨B, 0, none⟩ a).setCell ⟨B, 1, none⟩ b).setCell ⟨B, 2, none⟩ c).setCell ⟨B, 3, none⟩ d).heap[k]? = some o := oset (oset (oset (oset h hn) hn) hn) hn
/-- A box's sides are not far out. -/
def Nr (a : Int) : Prop := -6000000 ≤ a ∧ a ≤ 6000000
theorem pos_nr {w : World} {s : Sp} (hs : Sh w s) {p v k : Int} (hp : Po p) (hv : Ve v) (hk : 0 ≤ k ∧ k ≤ 8) : (Nr (p + flr (v * k) 8 + s.xa) ∧ Nr (p + flr (v * k) 8 + s.xb)) ∧ (Nr (p + flr (v * k) 8 + s.ya) ∧ Nr (p + flr (v * k) 8 + s.yb)) := by
  have := sub_bd hv hk
  have := hs.bd
  unfold Po at hp
  unfold Nr
  omega

set_option maxHeartbeats 4000000 in
set_option maxRecDepth 100000 in
theorem swept_any (s : Sp) (p0 p1 v0 v1 : Int) (w : World) (hs : Sh w s) (hp0 : Po p0) (hp1 : Po p1) (hv0 : Ve v0) (hv1 : Ve v1) :
    Calls Try.prog 33 #[.agg #[.int .i64 s.r, .slice s.a s.n s.cap, .int .i64 (p0), .int .i64 (p1), .int .i64 (v0), .int .i64 (v1)]] w fun e w' =>
      (∃ x0 y0 x1 y1, e = .returned (.agg #[.int .i64 x0, .int .i64 y0, .int .i64 x1, .int .i64 y1]) ∧ Swept s (p0, p1) (v0, v1) 8 x0 y0 x1 y1 ∧ (Nr x0 ∧ Nr y0 ∧ Nr x1 ∧ Nr y1)) ∧ Below w.heap.size w w' := by
  have hA := (Below.heap_alloc (w.alloc (bodyO s p0 p1 v0 v1)) (boxO 0 0 0 0) w.heap.size (by simp)).trans (World.alloc_heap_new w (bodyO s p0 p1 v0 v1))
  have hR := World.alloc_heap_new (w.alloc (bodyO s p0 p1 v0 v1)) (boxO 0 0 0 0)
  rw [World.size_alloc] at hR
  have hB := below_step (alloc_below w (bodyO s p0 p1 v0 v1)) (alloc_below _ (boxO 0 0 0 0))
  have hV' : ∃ V, V = (w.alloc (bodyO s p0 p1 v0 v1)).alloc (boxO 0 0 0 0) := ⟨_, rfl⟩
  obtain ⟨V, hV⟩ := hV'
  have hVz : V.heap.size = w.heap.size + 2 := by rw [hV]; simp
  have hV2 := Lib.hid hV
  rw [← hV] at hA hR hB
  clear hV
  have hsV := Lib.hid (hs.carry hB)
  have hlow := Lib.hid hs.low
  have k1 := fun w (h : Sh w s) => h.bounds p0 p1 hp0.be.bp hp1.be.bp
  have n1 := pos_nr hs hp0 hv0 (k := 0) (by omega)
  have n2 := pos_nr hs hp1 hv1 (k := 0) (by omega)
  rw [Int.mul_zero, show flr 0 8 = 0 from rfl, Int.add_zero] at n1 n2
  have st := Swept.start s (p0, p1) (v0, v1)
  simp only at st
  have hk1 := Lib.hid k1
  have hst := Lib.hid (And.intro st (And.intro n1 n2))
  have hnr := Lib.hid (fun (k : Int) (hk : 0 ≤ k ∧ k ≤ 8) => And.intro (pos_nr hs hp0 hv0 hk) (pos_nr hs hp1 hv1 hk))
  clear k1 n1 n2 st hs
  go_enter Try.func33, Try.ntmps33
  go_upto_region 1 with fail
  rw [show (w.alloc (.cells #[.int .i64 s.r, .slice s.a s.n s.cap, .int .i64 (p0), .int .i64 (p1), .int .i64 (v0), .int .i64 (v1)] 50)).alloc (.cells #[.int .i64 0, .int .i64 0, .int .i64 0, .int .i64 0] 41) = V from hV2.out.symm]
  clear hV2
  obtain ⟨a0, a1, a2, a3, a4, a5⟩ := body_cells hA
  go_wp2_with fail
  refine (hk1.out _ hsV.out).mono ?_
  rintro e u1 ⟨rfl, hb1⟩
  replace hA := hcarry (hb1) hA
  replace hR := hcarry (hb1) hR
  replace hB := below_step hB hb1
  replace hsV := Lib.hid (hsV.out.carry hb1)
  have hVu : w.heap.size + 2 ≤ u1.heap.size := by have := hb1.size; omega
  clear hb1 a0 a1 a2 a3 a4 a5
  go_upto_region 2 with fail
  have hO := World.alloc_heap_new u1 (boxO (p0 + s.xa) (p1 + s.ya) (p0 + s.xb) (p1 + s.yb))
  have hb1 := alloc_below u1 (boxO (p0 + s.xa) (p1 + s.ya) (p0 + s.xb) (p1 + s.yb))
  obtain ⟨V1, hV1⟩ : ∃ V1, V1 = u1.alloc (boxO (p0 + s.xa) (p1 + s.ya) (p0 + s.xb) (p1 + s.yb)) := ⟨_, rfl⟩
  rw [← hV1] at hO hb1
  rw [show u1.alloc (.cells #[.int .i64 (p0 + s.xa), .int .i64 (p1 + s.ya), .int .i64 (p0 + s.xb), .int .i64 (p1 + s.yb)] 41) = V1 from hV1.symm]
  replace hA := hcarry (hb1) hA
  replace hR := hcarry (hb1) hR
  replace hB := below_step hB hb1
  replace hsV := Lib.hid (hsV.out.carry hb1)
  clear hb1 hV1
  generalize u1.heap.size = O at *
  go_wp2_with fail
  go_loopw [4] (fun i wr => ∃ (k : Nat) (x0 y0 x1 y1 : Int), k ≤ 8 ∧ i = .int .i64 ((k : Int) + 1) ∧ Swept s (p0, p1) (v0, v1) k x0 y0 x1 y1 ∧ (Nr x0 ∧ Nr y0 ∧ Nr x1 ∧ Nr y1) ∧ wr.heap[O]? = some (boxO x0 y0 x1 y1) ∧
    wr.heap[w.heap.size]? = some (bodyO s p0 p1 v0 v1) ∧ wr.heap[w.heap.size + 1]? = some (boxO 0 0 0 0) ∧ Sh wr s ∧ Below w.heap.size w wr) (fun i _ => 9 - (intOf i).toNat)
  case atStart => exact ⟨0, _, _, _, _, by omega, rfl, hst.out.1, ⟨hst.out.2.1.1.1, hst.out.2.2.2.1, hst.out.2.1.1.2, hst.out.2.2.2.2⟩, hO, hA, hR, hsV.out, hB⟩
  case round =>
    clear hO hA hR hsV hB
    obtain ⟨k, x0, y0, x1, y1, hk, rfl, hsw, hN, hO, hA, hR, hs', hB⟩ := hrel
    have hsr := Lib.hid hs'
    have hsw' := Lib.hid hsw
    obtain ⟨o0, o1, o2, o3⟩ := box_cells hO
    clear hs' hsw
    by_cases hlt : k < 8
    · obtain ⟨a0, a1, a2, a3, a4, a5⟩ := body_cells hA
      have hki : (k : Int) + 1 ≤ 8 := by omega
      have b0 := sub_bd hv0 (k := (k : Int) + 1) (by omega)
      have b1 := sub_bd hv1 (k := (k : Int) + 1) (by omega)
      have k1 := fun w => vmulDiv_any v0 v1 ((k : Int) + 1) 8 w hv0.bd hv1.bd (by unfold Bd; omega)
      have k2 := fun w => add_any p0 p1 (flr (v0 * ((k : Int) + 1)) 8) (flr (v1 * ((k : Int) + 1)) 8) w hp0.bd hp1.bd (by unfold Bd; omega) (by unfold Bd; omega)
      have k3 := fun w (h : Sh w s) => h.bounds (p0 + flr (v0 * ((k : Int) + 1)) 8) (p1 + flr (v1 * ((k : Int) + 1)) 8) (pos_be hp0 hv0 (by omega)).bp (pos_be hp1 hv1 (by omega)).bp
      have nn := hnr.out ((k : Int) + 1) (by omega)
      have hst2 := hsw'.out.step
      unfold posV at hst2
      simp only [Int.natCast_add, Int.natCast_one] at hst2
      generalize flr (v0 * ((k : Int) + 1)) 8 = d0 at *
      generalize flr (v1 * ((k : Int) + 1)) 8 = d1 at *
      generalize p0 + d0 = z0 at *
      generalize p1 + d1 = z1 at *
      generalize z0 + s.xa = t0 at *
      generalize z1 + s.ya = t1 at *
      generalize z0 + s.xb = t2 at *
      generalize z1 + s.yb = t3 at *
      have hkk := Lib.hid (And.intro k1 (And.intro k2 k3))
      have hst3 := Lib.hid (And.intro hst2 nn)
      have hN' := Lib.hid hN
      have hlO : O < wr.heap.size := (Array.getElem?_eq_some_iff.1 hO).1
      clear k1 k2 k3 b0 b1 hst2 nn hN
      go_upto_region 5 with fail
      refine wp_region_alloc_last 10 (some 5) (.cells #[.int .i64 0, .int .i64 0, .int .i64 0, .int .i64 0] 41) (by kernel_rfl) (by kernel_rfl) ⟨_, rfl, rfl, fun _ => rfl, fun _ _ => by kernel_rfl⟩ ?_
      apply Exists.intro
      refine ⟨fun W hK E hE => ?_, ?_⟩
      · skip
        have g_a0 := fun x => carry ((hK.below x)) a0
        have g_a1 := fun x => carry ((hK.below x)) a1
        have g_a2 := fun x => carry ((hK.below x)) a2
        have g_a3 := fun x => carry ((hK.below x)) a3
        have g_a4 := fun x => carry ((hK.below x)) a4
        have g_a5 := fun x => carry ((hK.below x)) a5
        have g_o0 := fun x => carry ((hK.below x)) o0
        have g_o1 := fun x => carry ((hK.below x)) o1
        have g_o2 := fun x => carry ((hK.below x)) o2
        have g_o3 := fun x => carry ((hK.below x)) o3
        simp only [List.take_succ_cons, List.take_zero]
        repeat (go_big_quiet_step ((first | (go_at_call 24; with_reducible exact met_made (hkk.out.1 _)) | (go_at_call 25; with_reducible exact met_made (hkk.out.2.1 _)) | (go_at_call 22; with_reducible exact met_made (hkk.out.2.2 _ (hsr.out.carry (hK.below _)))))))
        refine wpQuiet_nil ?_
        exact hE
      intro B wq hBB hbq hheap
      simp only [List.drop_succ_cons, List.drop_zero, Act.put, List.setIfInBounds_toArray, List.set_cons_zero, List.set_cons_succ]
      clear a0 a1 a2 a3 a4 a5
      have hstep := (((hbq.setCell (p := ⟨B, 0, none⟩) hBB (.int .i64 t0)).setCell (p := ⟨B, 1, none⟩) hBB (.int .i64 t1)).setCell (p := ⟨B, 2, none⟩) hBB (.int .i64 t2)).setCell (p := ⟨B, 3, none⟩) hBB (.int .i64 t3)
      replace o0 := carry (hstep) o0
      replace o1 := carry (hstep) o1
      replace o2 := carry (hstep) o2
      replace o3 := carry (hstep) o3
      have hh := box_store (B := B) (x0 := 0) (y0 := 0) (x1 := 0) (y1 := 0) hheap t0 t1 t2 t3
      have hcB := heap_cell hheap
      have hfB := heap_frozen hheap
      go_upto_region 6 with fail
      generalize (((wq.setCell ⟨B, 0, none⟩ (.int .i64 t0)).setCell ⟨B, 1, none⟩ (.int .i64 t1)).setCell ⟨B, 2, none⟩ (.int .i64 t2)).setCell ⟨B, 3, none⟩ (.int .i64 t3) = X at *
      obtain ⟨m0, m1, m2, m3⟩ := box_cells hh
      replace hO := hcarry (hstep) hO
      replace hA := hcarry (hstep) hA
      replace hR := hcarry (hstep) hR
      replace hB := below_step hB hstep
      replace hsr := Lib.hid (hsr.out.carry hstep)
      have f0 := heap_frozen hO 0
      have f1 := heap_frozen hO 1
      have f2 := heap_frozen hO 2
      have f3 := heap_frozen hO 3
      have hAO : w.heap.size ≠ O := by omega
      have hRO : w.heap.size + 1 ≠ O := by omega
      clear hh hstep hbq hBB hcB hfB hheap
      have i0 := min_if x0 t0
      have i1 := min_if y0 t1
      have i2 := max_if x1 t2
      have i3 := max_if y1 t3
      go_wp2
      go_roundw
      case rel => exact ⟨k + 1, _, _, _, _, by omega, by go_num, hst3.out.1, ⟨by have := hst3.out.2; have := hN'.out; unfold Nr at *; omega, by have := hst3.out.2; have := hN'.out; unfold Nr at *; omega, by have := hst3.out.2; have := hN'.out; unfold Nr at *; omega, by have := hst3.out.2; have := hN'.out; unfold Nr at *; omega⟩,
        box_store hO _ _ _ _, oset4 O _ _ _ _ hA hAO, oset4 O _ _ _ _ hR hRO, hsr.out.keep (S := fun r => r ≠ O) (keep_step _ (keep_step _ (keep_step _ (keep_step _ (KeepOn.refl _ _) (fun h => h rfl)) (fun h => h rfl)) (fun h => h rfl)) (fun h => h rfl)) (hlow.out.mono fun r h => by have := h; omega),
        (((hB.setCell (p := ⟨O, 0, none⟩) (by simp only; omega) _).setCell (p := ⟨O, 1, none⟩) (by simp only; omega) _).setCell (p := ⟨O, 2, none⟩) (by simp only; omega) _).setCell (p := ⟨O, 3, none⟩) (by simp only; omega) _⟩
      case measure => simp [intOf]; omega
    · obtain rfl : k = 8 := by omega
      obtain ⟨r0, r1, r2, r3⟩ := box_cells hR
      have f0 := heap_frozen hR 0
      have f1 := heap_frozen hR 1
      have f2 := heap_frozen hR 2
      have f3 := heap_frozen hR 3
      go_wp2
      refine bodyPost_ret (v := .agg #[.int .i64 x0, .int .i64 y0, .int .i64 x1, .int .i64 y1]) (by simp [results, Try.results33, go_sem, r0, r1, r2, r3]) rfl ⟨⟨x0, y0, x1, y1, rfl, hsw'.out, hN⟩, ?_⟩
      exact (((hB.setCell (p := ⟨w.heap.size + 1, 0, none⟩) (by simp only; omega) _).setCell (p := ⟨w.heap.size + 1, 1, none⟩) (by simp only; omega) _).setCell (p := ⟨w.heap.size + 1, 2, none⟩) (by simp only; omega) _).setCell (p := ⟨w.heap.size + 1, 3, none⟩) (by simp only; omega) _
end Go.Proofs.Ytfbgghkkgmgnjaa
