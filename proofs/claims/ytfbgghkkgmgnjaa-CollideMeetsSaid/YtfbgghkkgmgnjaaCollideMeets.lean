/-
  package collide, P5.4: for all pairs of generated shapes and positions whose edges are not short, if both shapes cover a point and the four points at a distance of 4 * One from it, they collide; and the section's example holds; whatever the arguments are.
-/
import Derived.Test.YtfbgghkkgmgnjaaRows
import Derived.WalkKit
import Derived.ProofKit
import Derived.OpenShut
import Derived.Test.YtfbgghkkgmgnjaaLawKit
import Derived.Test.YtfbgghkkgmgnjaaCollS
import Derived.WalkLawsBesides
import Derived.Deep.DeepCutAuto
import Derived.Deep.CutBlock
namespace Go.Proofs.Ytfbgghkkgmgnjaa.collideMeets
open Go.ChangeShapes Go.WideShapes Go.ChangeAt Go.RowKit
set_option linter.unusedVariables false
set_option linter.unusedSimpArgs false

open Fxm
theorem arms_at {W : World} {K : Nat} (h : W.heap[K]? = some (.cells #[.int .i64 0, .int .i64 0, .int .i64 4096, .int .i64 0, .int .i64 (-4096), .int .i64 0, .int .i64 0, .int .i64 4096, .int .i64 0, .int .i64 (-4096)] 28)) {j : Nat} (hj : j < 5) :
    W.cell? ⟨K, j * 2, none⟩ = some (.int .i64 (armV j).1) ∧ W.cell? ⟨K, j * 2 + 1, none⟩ = some (.int .i64 (armV j).2) := by
  rw [heap_cell h, heap_cell h]
  rcases (by omega : j = 0 ∨ j = 1 ∨ j = 2 ∨ j = 3 ∨ j = 4) with rfl | rfl | rfl | rfl | rfl <;> exact ⟨rfl, rfl⟩
theorem hcarry5 {W W' : World} (hb : Below W.heap.size W W') {k : Nat} {o : Obj} (h : W.heap[k]? = some o) : W'.heap[k]? = some o := (hb.block _ (Array.getElem?_eq_some_iff.1 h).1).trans h
theorem arm_bd (j : Nat) : (-4096 ≤ (armV j).1 ∧ (armV j).1 ≤ 4096) ∧ (-4096 ≤ (armV j).2 ∧ (armV j).2 ≤ 4096) := by
  match j with
  | 0 => decide
  | 1 => decide
  | 2 => decide
  | 3 => decide
  | _ + 4 => simp [armV]
theorem own : ownKnob Try.prog.godebug = none := by kernel_rfl

set_option maxRecDepth 100000 in
set_option maxHeartbeats 8000000 in
theorem walk (a0 : Int) (w0 : (Lit.int .i64 a0).wf = true) (a1 : Int) (w1 : (Lit.int .i64 a1).wf = true) (a2_0 : Int) (a2_1 : Int) (a2_2 : Int) (a2_3 : Int) (w2_0 : (Lit.int .i64 a2_0).wf = true) (w2_1 : (Lit.int .i64 a2_1).wf = true) (w2_2 : (Lit.int .i64 a2_2).wf = true) (w2_3 : (Lit.int .i64 a2_3).wf = true) (a3 : Int) (w3 : (Lit.int .i64 a3).wf = true) (a4 : Int) (w4 : (Lit.int .i64 a4).wf = true) (w : World) :
    Calls Try.prog 4 #[.int .i64 a0, .int .i64 a1, .agg #[.int .i64 a2_0, .int .i64 a2_1, .int .i64 a2_2, .int .i64 a2_3], .int .i64 a3, .int .i64 a4] w fun e w' => e = .returned (.bool true) ∧ Below w.heap.size w w' := by
  obtain ⟨i1, i2⟩ := wf64 w3
  obtain ⟨i3, i4⟩ := wf64 w4
  have kx3 := Lib.hid (fun W => around_any a3 3 W i1 i2 (by omega))
  have kx := Lib.hid (fun (m : Int) (hm : 0 < m) W => around_any a3 m W i1 i2 hm)
  have ky := Lib.hid (fun (m : Int) (hm : 0 < m) W => around_any a4 m W i3 i4 hm)
  clear i1 i2 i3 i4
  go_enter Try.func4, Try.ntmps4
  go_wp2_with fail
  refine (shapes_any _ _ w0).mono ?_
  rintro e u1 ⟨s, rfl, hs, hb1⟩
  have l0 : u1.cell? ⟨w.heap.size, 0, none⟩ = some (.int .i64 a2_0) := carry hb1 (by simp [go_sem])
  have l1 : u1.cell? ⟨w.heap.size, 1, none⟩ = some (.int .i64 a2_1) := carry hb1 (by simp [go_sem])
  have l2 : u1.cell? ⟨w.heap.size, 2, none⟩ = some (.int .i64 a2_2) := carry hb1 (by simp [go_sem])
  have l3 : u1.cell? ⟨w.heap.size, 3, none⟩ = some (.int .i64 a2_3) := carry hb1 (by simp [go_sem])
  have hB := below_step (alloc_below w (.cells #[.int .i64 a2_0, .int .i64 a2_1, .int .i64 a2_2, .int .i64 a2_3] 22)) hb1
  clear hb1
  go_upto_region 2 with fail
  have sA0 := World.cell?_alloc_new (w := u1) #[.int .i64 s.r, .slice s.a s.n s.cap] 25 0
  have sA1 := World.cell?_alloc_new (w := u1) #[.int .i64 s.r, .slice s.a s.n s.cap] 25 1
  simp only [List.getElem?_toArray, List.getElem?_cons_zero, List.getElem?_cons_succ] at sA0 sA1
  have hb1 := alloc_below u1 (.cells #[.int .i64 s.r, .slice s.a s.n s.cap] 25)
  generalize u1.alloc (.cells #[.int .i64 s.r, .slice s.a s.n s.cap] 25) = v1 at *
  replace l0 := carry (hb1) l0
  replace l1 := carry (hb1) l1
  replace l2 := carry (hb1) l2
  replace l3 := carry (hb1) l3
  replace hB := below_step hB hb1
  replace hs := hs.carry hb1
  clear hb1
  go_wp2_with fail
  refine (shapes_any _ _ w1).mono ?_
  rintro e u2 ⟨t, rfl, ht, hb1⟩
  replace l0 := carry (hb1) l0
  replace l1 := carry (hb1) l1
  replace l2 := carry (hb1) l2
  replace l3 := carry (hb1) l3
  replace sA0 := carry (hb1) sA0
  replace sA1 := carry (hb1) sA1
  replace hB := below_step hB hb1
  replace hs := hs.carry hb1
  clear hb1
  go_upto_region 3 with fail
  have tA0 := World.cell?_alloc_new (w := u2) #[.int .i64 t.r, .slice t.a t.n t.cap] 25 0
  have tA1 := World.cell?_alloc_new (w := u2) #[.int .i64 t.r, .slice t.a t.n t.cap] 25 1
  simp only [List.getElem?_toArray, List.getElem?_cons_zero, List.getElem?_cons_succ] at tA0 tA1
  have hb1 := alloc_below u2 (.cells #[.int .i64 t.r, .slice t.a t.n t.cap] 25)
  generalize u2.alloc (.cells #[.int .i64 t.r, .slice t.a t.n t.cap] 25) = v2 at *
  replace l0 := carry (hb1) l0
  replace l1 := carry (hb1) l1
  replace l2 := carry (hb1) l2
  replace l3 := carry (hb1) l3
  replace sA0 := carry (hb1) sA0
  replace sA1 := carry (hb1) sA1
  replace hB := below_step hB hb1
  replace hs := hs.carry hb1
  replace ht := ht.carry hb1
  clear hb1
  go_wp2_with fail
  refine (place_any s t _ _ _ _ _ hs ht w2_0 w2_1 w2_2 w2_3).mono ?_
  rintro e u3 ⟨⟨p0, p1, q0, q1, ⟨bp0, bp1, bq0, bq1⟩, rfl⟩, hb1⟩
  replace sA0 := carry (hb1) sA0
  replace sA1 := carry (hb1) sA1
  replace tA0 := carry (hb1) tA0
  replace tA1 := carry (hb1) tA1
  replace hB := below_step hB hb1
  replace hs := hs.carry hb1
  replace ht := ht.carry hb1
  clear hb1 l0 l1 l2 l3
  go_upto_region 4 with fail
  have hb1 := below_step (alloc_below u3 (.cells #[.int .i64 p0, .int .i64 p1] 28)) (alloc_below _ (.cells #[.int .i64 q0, .int .i64 q1] 28))
  have vp0 : ((u3.alloc (.cells #[.int .i64 p0, .int .i64 p1] 28)).alloc (.cells #[.int .i64 q0, .int .i64 q1] 28)).cell? ⟨u3.heap.size, 0, none⟩ = some (.int .i64 p0) := by simp [go_sem]
  have vp1 : ((u3.alloc (.cells #[.int .i64 p0, .int .i64 p1] 28)).alloc (.cells #[.int .i64 q0, .int .i64 q1] 28)).cell? ⟨u3.heap.size, 1, none⟩ = some (.int .i64 p1) := by simp [go_sem]
  have vq0 : ((u3.alloc (.cells #[.int .i64 p0, .int .i64 p1] 28)).alloc (.cells #[.int .i64 q0, .int .i64 q1] 28)).cell? ⟨u3.heap.size + 1, 0, none⟩ = some (.int .i64 q0) := by simp [go_sem]
  have vq1 : ((u3.alloc (.cells #[.int .i64 p0, .int .i64 p1] 28)).alloc (.cells #[.int .i64 q0, .int .i64 q1] 28)).cell? ⟨u3.heap.size + 1, 1, none⟩ = some (.int .i64 q1) := by simp [go_sem]
  replace sA0 := carry (hb1) sA0
  replace sA1 := carry (hb1) sA1
  replace tA0 := carry (hb1) tA0
  replace tA1 := carry (hb1) tA1
  replace hB := below_step hB hb1
  replace hs := Lib.hid (hs.carry hb1)
  replace ht := Lib.hid (ht.carry hb1)
  generalize (u3.alloc (.cells #[.int .i64 p0, .int .i64 p1] 28)).alloc (.cells #[.int .i64 q0, .int .i64 q1] 28) = v3 at *
  clear hb1
  have ep0 : Be p0 := be_of (by omega) (by omega)
  have ep1 : Be p1 := be_of (by omega) (by omega)
  have eq0 : Be q0 := be_of (by omega) (by omega)
  have eq1 : Be q1 := be_of (by omega) (by omega)
  go_wp2_with fail
  refine (hs.out.long).mono ?_
  rintro e u5 ⟨⟨l1, rfl, hl1⟩, hb1⟩
  have hfar1 := Lib.hid hl1
  clear hl1
  replace sA0 := carry (hb1) sA0
  replace sA1 := carry (hb1) sA1
  replace tA0 := carry (hb1) tA0
  replace tA1 := carry (hb1) tA1
  replace vp0 := carry (hb1) vp0
  replace vp1 := carry (hb1) vp1
  replace vq0 := carry (hb1) vq0
  replace vq1 := carry (hb1) vq1
  replace hB := below_step hB hb1
  replace hs := Lib.hid (hs.out.carry hb1)
  replace ht := Lib.hid (ht.out.carry hb1)
  clear hb1
  cases l1 with
  | false =>
    go_wp2_with fail
    refine (lives5_any _).mono ?_
    rintro e u9 ⟨rfl, hb9⟩
    go_wp2
    go_ret
    exact ⟨rfl, below_step hB hb9⟩
  | true =>
    go_wp2_with fail
    refine (ht.out.long).mono ?_
    rintro e u6 ⟨⟨l2, rfl, hl2⟩, hb1⟩
    have hfar2 := Lib.hid hl2
    clear hl2
    replace sA0 := carry (hb1) sA0
    replace sA1 := carry (hb1) sA1
    replace tA0 := carry (hb1) tA0
    replace tA1 := carry (hb1) tA1
    replace vp0 := carry (hb1) vp0
    replace vp1 := carry (hb1) vp1
    replace vq0 := carry (hb1) vq0
    replace vq1 := carry (hb1) vq1
    replace hB := below_step hB hb1
    replace hs := Lib.hid (hs.out.carry hb1)
    replace ht := Lib.hid (ht.out.carry hb1)
    clear hb1
    cases l2 with
    | false =>
      go_wp2_with fail
      refine (lives5_any _).mono ?_
      rintro e u9 ⟨rfl, hb9⟩
      go_wp2
      go_ret
      exact ⟨rfl, below_step hB hb9⟩
    | true =>
      have K1 := fun w (h : Sh w s) => h.bounds p0 p1 ep0.bp ep1.bp
      have d1 := hs.out.bd
      have X0b : -40000 ≤ p0 + s.xa ∧ p0 + s.xa ≤ p0 + s.xb ∧ p0 + s.xb ≤ 40000 := by omega
      have Y0b : -40000 ≤ p1 + s.ya ∧ p1 + s.ya ≤ p1 + s.yb ∧ p1 + s.yb ≤ 40000 := by omega
      generalize p0 + s.xa = X0 at *
      generalize p1 + s.ya = Y0 at *
      generalize p0 + s.xb = X1 at *
      generalize p1 + s.yb = Y1 at *
      have hk1 := Lib.hid K1
      have he := Lib.hid (And.intro ep0 (And.intro ep1 (And.intro eq0 eq1)))
      clear K1 d1 ep0 ep1 eq0 eq1
      go_wp2_with fail
      refine (hk1.out _ hs.out).mono ?_
      rintro e u7 ⟨rfl, hb1⟩
      replace sA0 := carry (hb1) sA0
      replace sA1 := carry (hb1) sA1
      replace tA0 := carry (hb1) tA0
      replace tA1 := carry (hb1) tA1
      replace vp0 := carry (hb1) vp0
      replace vp1 := carry (hb1) vp1
      replace vq0 := carry (hb1) vq0
      replace vq1 := carry (hb1) vq1
      replace hB := below_step hB hb1
      replace hs := Lib.hid (hs.out.carry hb1)
      replace ht := Lib.hid (ht.out.carry hb1)
      clear hb1
      go_upto_region 7 with fail
      have x0 := World.cell?_alloc_new (w := u7) #[.int .i64 X0, .int .i64 Y0, .int .i64 X1, .int .i64 Y1] 41 0
      have x1 := World.cell?_alloc_new (w := u7) #[.int .i64 X0, .int .i64 Y0, .int .i64 X1, .int .i64 Y1] 41 1
      have x2 := World.cell?_alloc_new (w := u7) #[.int .i64 X0, .int .i64 Y0, .int .i64 X1, .int .i64 Y1] 41 2
      have x3 := World.cell?_alloc_new (w := u7) #[.int .i64 X0, .int .i64 Y0, .int .i64 X1, .int .i64 Y1] 41 3
      have hb1 := alloc_below u7 (.cells #[.int .i64 X0, .int .i64 Y0, .int .i64 X1, .int .i64 Y1] 41)
      generalize u7.alloc (.cells #[.int .i64 X0, .int .i64 Y0, .int .i64 X1, .int .i64 Y1] 41) = U at *
      simp only [List.getElem?_toArray, List.getElem?_cons_zero, List.getElem?_cons_succ] at x0 x1 x2 x3
      replace sA0 := carry (hb1) sA0
      replace sA1 := carry (hb1) sA1
      replace tA0 := carry (hb1) tA0
      replace tA1 := carry (hb1) tA1
      replace vp0 := carry (hb1) vp0
      replace vp1 := carry (hb1) vp1
      replace vq0 := carry (hb1) vq0
      replace vq1 := carry (hb1) vq1
      replace hB := below_step hB hb1
      replace hs := Lib.hid (hs.out.carry hb1)
      replace ht := Lib.hid (ht.out.carry hb1)
      clear hb1
      have q1 := kx.out (X1 - X0 + 1) (by omega)
      have q2 := ky.out (Y1 - Y0 + 1) (by omega)
      have m1 := arnd_bd a3 (m := X1 - X0 + 1) (by omega)
      have m2 := arnd_bd a4 (m := Y1 - Y0 + 1) (by omega)
      generalize arnd a3 (X1 - X0 + 1) = g0 at *
      generalize arnd a4 (Y1 - Y0 + 1) = g1 at *
      have hq := Lib.hid (And.intro q1 q2)
      have c0b : -40000 ≤ X0 + g0 ∧ X0 + g0 ≤ 40000 := by omega
      have c1b : -40000 ≤ Y0 + g1 ∧ Y0 + g1 ≤ 40000 := by omega
      clear q1 q2
      refine wp_region_alloc_last 23 (some 16) (.cells #[.int .i64 0, .int .i64 0] 28) (by kernel_rfl) (by kernel_rfl) ⟨_, rfl, rfl, fun _ => rfl, fun _ _ => by kernel_rfl⟩ ?_
      apply Exists.intro
      refine ⟨fun W hK E hE => ?_, ?_⟩
      · skip
        have g_x0 := fun x => carry ((hK.below x)) x0
        have g_x1 := fun x => carry ((hK.below x)) x1
        have g_x2 := fun x => carry ((hK.below x)) x2
        have g_x3 := fun x => carry ((hK.below x)) x3
        simp only [List.take_succ_cons, List.take_zero]
        repeat (go_big_quiet_step ((first | (go_at_call 23; with_reducible exact met_same (hq.out.1 _)) | (go_at_call 23; with_reducible exact met_same (hq.out.2 _)))))
        refine wpQuiet_nil ?_
        exact hE
      intro B wq hBB hbq hheap
      simp only [List.drop_succ_cons, List.drop_zero, Act.put, List.setIfInBounds_toArray, List.set_cons_zero, List.set_cons_succ]
      have hstep := (hbq.setCell (p := ⟨B, 0, none⟩) hBB (.int .i64 (X0 + g0))).setCell (p := ⟨B, 1, none⟩) hBB (.int .i64 (Y0 + g1))
      have hC := heap_setCell (heap_setCell hheap 0 (.int .i64 (X0 + g0))) 1 (.int .i64 (Y0 + g1))
      simp only [List.setIfInBounds_toArray, List.set_cons_zero, List.set_cons_succ] at hC
      have hcB := heap_cell hheap
      have hfB := heap_frozen hheap
      go_upto_region 8 with fail
      generalize (wq.setCell ⟨B, 0, none⟩ (.int .i64 (X0 + g0))).setCell ⟨B, 1, none⟩ (.int .i64 (Y0 + g1)) = X at *
      generalize X0 + g0 = e0 at *
      generalize Y0 + g1 = e1 at *
      have hUU := Lib.hid (And.intro sA0 (And.intro sA1 (And.intro tA0 (And.intro tA1 (And.intro vp0 (And.intro vp1 (And.intro vq0 vq1)))))))
      replace vp0 := carry (hstep) vp0
      replace vp1 := carry (hstep) vp1
      replace vq0 := carry (hstep) vq0
      replace vq1 := carry (hstep) vq1
      clear sA0 sA1 tA0 tA1 hcB hfB hheap hbq x0 x1 x2 x3 m1 m2 hq hk1 X0b Y0b wq
      have hBU : U.heap.size ≤ B := hBB
      have ka := fun w => add_any p0 p1 q0 q1 w he.out.1.bd he.out.2.1.bd he.out.2.2.1.bd he.out.2.2.2.bd
      have kb := fun w => vmulDiv_any (p0 + q0) (p1 + q1) 1 2 w (by unfold Bd; omega) (by unfold Bd; omega) (by unfold Bd; omega)
      have fb0 := flr_spec_pos (a := (p0 + q0) * 1) (b := 2) (by omega)
      have fb1 := flr_spec_pos (a := (p1 + q1) * 1) (b := 2) (by omega)
      obtain ⟨f0, hf0⟩ : ∃ x, x = flr ((p0 + q0) * 1) 2 := ⟨_, rfl⟩
      obtain ⟨f1, hf1⟩ : ∃ x, x = flr ((p1 + q1) * 1) 2 := ⟨_, rfl⟩
      rw [← hf0] at kb fb0
      rw [← hf1] at kb fb1
      have f0b : -100000 ≤ f0 ∧ f0 ≤ 100000 := by omega
      have f1b : -100000 ≤ f1 ∧ f1 ≤ 100000 := by omega
      generalize p0 + q0 = r0 at *
      generalize p1 + q1 = r1 at *
      have hab := Lib.hid (And.intro ka kb)
      clear ka kb fb0 fb1 hf0 hf1
      have kA := kx3.out
      generalize arnd a3 3 = ar at kA
      have kA' := Lib.hid kA
      clear kA
      go_wp2_with fail
      refine (kA'.out _).mono ?_
      rintro e _ ⟨rfl, rfl⟩
      go_upto_if 69 with fail
      go_cut [] (fun wx => ∃ c0 c1, (-100000 ≤ c0 ∧ c0 ≤ 100000) ∧ (-100000 ≤ c1 ∧ c1 ≤ 100000) ∧ wx.heap[B]? = some (.cells #[.int .i64 c0, .int .i64 c1] 28) ∧ Below U.heap.size U wx)
      case first =>
        have y0 := heap_cell hC 0
        have y1 := heap_cell hC 1
        have yf0 := heap_frozen hC 0
        have yf1 := heap_frozen hC 1
        simp only [List.getElem?_toArray, List.getElem?_cons_zero, List.getElem?_cons_succ] at y0 y1
        by_cases h0 : ar = 0
        · have h1 : (ar == 0) = true := by simp [h0]
          go_wp2_with fail
          refine (hab.out.1 _).mono ?_
          rintro e z1 ⟨rfl, hz1⟩
          go_wp2_with fail
          refine (hab.out.2 _).mono ?_
          rintro e z2 ⟨rfl, hz2⟩
          have hC2 := (hz2.block _ (Array.getElem?_eq_some_iff.1 ((hz1.block _ (Array.getElem?_eq_some_iff.1 hC).1).trans hC)).1).trans ((hz1.block _ (Array.getElem?_eq_some_iff.1 hC).1).trans hC)
          have y0' := heap_cell hC2 0
          have y1' := heap_cell hC2 1
          have yf0' := heap_frozen hC2 0
          have yf1' := heap_frozen hC2 1
          simp only [List.getElem?_toArray, List.getElem?_cons_zero, List.getElem?_cons_succ] at y0' y1'
          go_wp2_with fail
          go_meet
          have hC3 := heap_setCell (heap_setCell hC2 0 (.int .i64 f0)) 1 (.int .i64 f1)
          simp only [List.setIfInBounds_toArray, List.set_cons_zero, List.set_cons_succ] at hC3
          exact ⟨f0, f1, f0b, f1b, hC3, ((below_step (below_step hstep hz1) hz2).setCell (p := ⟨B, 0, none⟩) hBU _).setCell (p := ⟨B, 1, none⟩) hBU _⟩
        · have h1 : (ar == 0) = false := by simp only [beq_eq_false_iff_ne, ne_eq]; exact h0
          go_wp2_with fail
          go_meet
          exact ⟨e0, e1, by omega, by omega, hC, hstep⟩
      obtain ⟨c0, c1, c0b', c1b', hC', hb1⟩ := hcut
      obtain ⟨sA0, sA1, tA0, tA1, vp0, vp1, vq0, vq1⟩ := hUU.out
      replace sA0 := carry (hb1) sA0
      replace sA1 := carry (hb1) sA1
      replace tA0 := carry (hb1) tA0
      replace tA1 := carry (hb1) tA1
      replace vp0 := carry (hb1) vp0
      replace vp1 := carry (hb1) vp1
      replace vq0 := carry (hb1) vq0
      replace vq1 := carry (hb1) vq1
      replace hB := below_step hB hb1
      replace hs := Lib.hid (hs.out.carry hb1)
      replace ht := Lib.hid (ht.out.carry hb1)
      clear hb1
      clear hUU hC hstep hab kA' f0b f1b c0b c1b hBB
      have vc0 := heap_cell hC' 0
      have vc1 := heap_cell hC' 1
      simp only [List.getElem?_toArray, List.getElem?_cons_zero, List.getElem?_cons_succ] at vc0 vc1
      clear hC'
      go_upto_region 11 with fail
      have hArm := World.alloc_heap_new wc (.cells #[.int .i64 0, .int .i64 0, .int .i64 4096, .int .i64 0, .int .i64 (-4096), .int .i64 0, .int .i64 0, .int .i64 4096, .int .i64 0, .int .i64 (-4096)] 28)
      have hb1 := alloc_below wc (.cells #[.int .i64 0, .int .i64 0, .int .i64 4096, .int .i64 0, .int .i64 (-4096), .int .i64 0, .int .i64 0, .int .i64 4096, .int .i64 0, .int .i64 (-4096)] 28)
      generalize wc.alloc (.cells #[.int .i64 0, .int .i64 0, .int .i64 4096, .int .i64 0, .int .i64 (-4096), .int .i64 0, .int .i64 0, .int .i64 4096, .int .i64 0, .int .i64 (-4096)] 28) = Y at *
      replace sA0 := carry (hb1) sA0
      replace sA1 := carry (hb1) sA1
      replace tA0 := carry (hb1) tA0
      replace tA1 := carry (hb1) tA1
      replace vp0 := carry (hb1) vp0
      replace vp1 := carry (hb1) vp1
      replace vq0 := carry (hb1) vq0
      replace vq1 := carry (hb1) vq1
      replace vc0 := carry (hb1) vc0
      replace vc1 := carry (hb1) vc1
      replace hB := below_step hB hb1
      replace hs := Lib.hid (hs.out.carry hb1)
      replace ht := Lib.hid (ht.out.carry hb1)
      clear hb1
      generalize wc.heap.size = kb at *
      go_wp2_with fail
      go_loopw [18] (fun i wr => ∃ j : Nat, j ≤ 5 ∧ i = .int .i64 j ∧ (∀ i, i < j → s.ins (c0 + (armV i).1 - p0, c1 + (armV i).2 - p1) = true ∧ t.ins (c0 + (armV i).1 - q0, c1 + (armV i).2 - q1) = true) ∧ Below Y.heap.size Y wr) (fun i _ => 5 - (intOf i).toNat)
      case atStart => exact ⟨0, by omega, rfl, fun i hi => absurd hi (Nat.not_lt_zero _), Below.refl _ _⟩
      case round =>
        obtain ⟨j, hj, rfl, hall, hbl⟩ := hrel
        have hall' := Lib.hid hall
        clear hall
        by_cases hlt : j < 5
        · have hjlt : (j : Int) < 5 := by omega
          replace sA0 := carry (hbl) sA0
          replace sA1 := carry (hbl) sA1
          replace tA0 := carry (hbl) tA0
          replace tA1 := carry (hbl) tA1
          replace vp0 := carry (hbl) vp0
          replace vp1 := carry (hbl) vp1
          replace vq0 := carry (hbl) vq0
          replace vq1 := carry (hbl) vq1
          replace vc0 := carry (hbl) vc0
          replace vc1 := carry (hbl) vc1
          obtain ⟨ax, ay⟩ := arms_at (hcarry5 hbl hArm) hlt
          have ab := arm_bd j
          have hsr := Lib.hid (hs.out.carry hbl)
          have htr := Lib.hid (ht.out.carry hbl)
          have hBr := below_step hB hbl
          obtain ⟨x, hx⟩ : ∃ x, x = (armV j).1 := ⟨_, rfl⟩
          obtain ⟨y, hy⟩ : ∃ y, y = (armV j).2 := ⟨_, rfl⟩
          have hA' : s.ins (c0 + (armV j).1 - p0, c1 + (armV j).2 - p1) = s.ins (c0 + x - p0, c1 + y - p1) ∧ t.ins (c0 + (armV j).1 - q0, c1 + (armV j).2 - q1) = t.ins (c0 + x - q0, c1 + y - q1) := by rw [hx, hy]; exact ⟨rfl, rfl⟩
          rw [← hx] at ax ab
          rw [← hy] at ay ab
          have ka := fun w => add_any c0 c1 x y w (by unfold Bd; omega) (by unfold Bd; omega) (by unfold Bd; omega) (by unfold Bd; omega)
          have hbb := he.out
          have kc := fun w (h : Sh w s) => h.contains p0 p1 (c0 + x) (c1 + y) hbb.1.bd hbb.2.1.bd (by unfold Bd; omega) (by unfold Bd; omega)
          have kd := fun w (h : Sh w t) => h.contains q0 q1 (c0 + x) (c1 + y) hbb.2.2.1.bd hbb.2.2.2.bd (by unfold Bd; omega) (by unfold Bd; omega)
          generalize s.ins (c0 + x - p0, c1 + y - p1) = i1 at *
          generalize t.ins (c0 + x - q0, c1 + y - q1) = i2 at *
          generalize c0 + x = z0 at *
          generalize c1 + y = z1 at *
          have hkk := Lib.hid (And.intro ka (And.intro kc kd))
          have hAl := Lib.hid hA'
          clear ka kc kd hA' hbb ab hx hy
          go_wp2_with fail
          cases i1 with
          | false =>
            refine wp_region_made (by kernel_rfl) (by kernel_rfl) ?_
            intro W hK
            have g_sA0 := fun x => carry ((hK.below x)) sA0
            have g_sA1 := fun x => carry ((hK.below x)) sA1
            have g_tA0 := fun x => carry ((hK.below x)) tA0
            have g_tA1 := fun x => carry ((hK.below x)) tA1
            have g_vp0 := fun x => carry ((hK.below x)) vp0
            have g_vp1 := fun x => carry ((hK.below x)) vp1
            have g_vq0 := fun x => carry ((hK.below x)) vq0
            have g_vq1 := fun x => carry ((hK.below x)) vq1
            have g_vc0 := fun x => carry ((hK.below x)) vc0
            have g_vc1 := fun x => carry ((hK.below x)) vc1
            have g_ax := fun x => carry ((hK.below x)) ax
            have g_ay := fun x => carry ((hK.below x)) ay
            repeat (go_big_quiet_step ((first | (go_at_call 25; with_reducible exact met_made (hkk.out.1 _)) | (go_at_call 26; with_reducible exact met_made (hkk.out.2.1 _ (hsr.out.carry (hK.below _)))) | (go_at_call 26; with_reducible exact met_made (hkk.out.2.2 _ (htr.out.carry (hK.below _)))))))
            refine wpQuiet_nil ?_
            intro wq hw'
            have hbq := kept_in hK hw'
            clear g_sA0 g_sA1 g_tA0 g_tA1 g_vp0 g_vp1 g_vq0 g_vq1 g_vc0 g_vc1 g_ax g_ay
            clear hw' hK W
            replace sA0 := carry (hbq) sA0
            replace sA1 := carry (hbq) sA1
            replace tA0 := carry (hbq) tA0
            replace tA1 := carry (hbq) tA1
            replace vp0 := carry (hbq) vp0
            replace vp1 := carry (hbq) vp1
            replace vq0 := carry (hbq) vq0
            replace vq1 := carry (hbq) vq1
            replace vc0 := carry (hbq) vc0
            replace vc1 := carry (hbq) vc1
            replace ax := carry (hbq) ax
            replace ay := carry (hbq) ay
            go_wp2_with fail
            refine (lives5_any _).mono ?_
            rintro e u9 ⟨rfl, hb9⟩
            go_wp2
            go_ret
            exact ⟨rfl, below_step (below_step hBr hbq) hb9⟩
          | true =>
            cases i2 with
            | false =>
              refine wp_region_made (by kernel_rfl) (by kernel_rfl) ?_
              intro W hK
              have g_sA0 := fun x => carry ((hK.below x)) sA0
              have g_sA1 := fun x => carry ((hK.below x)) sA1
              have g_tA0 := fun x => carry ((hK.below x)) tA0
              have g_tA1 := fun x => carry ((hK.below x)) tA1
              have g_vp0 := fun x => carry ((hK.below x)) vp0
              have g_vp1 := fun x => carry ((hK.below x)) vp1
              have g_vq0 := fun x => carry ((hK.below x)) vq0
              have g_vq1 := fun x => carry ((hK.below x)) vq1
              have g_vc0 := fun x => carry ((hK.below x)) vc0
              have g_vc1 := fun x => carry ((hK.below x)) vc1
              have g_ax := fun x => carry ((hK.below x)) ax
              have g_ay := fun x => carry ((hK.below x)) ay
              repeat (go_big_quiet_step ((first | (go_at_call 25; with_reducible exact met_made (hkk.out.1 _)) | (go_at_call 26; with_reducible exact met_made (hkk.out.2.1 _ (hsr.out.carry (hK.below _)))) | (go_at_call 26; with_reducible exact met_made (hkk.out.2.2 _ (htr.out.carry (hK.below _)))))))
              refine wpQuiet_nil ?_
              intro wq hw'
              have hbq := kept_in hK hw'
              clear g_sA0 g_sA1 g_tA0 g_tA1 g_vp0 g_vp1 g_vq0 g_vq1 g_vc0 g_vc1 g_ax g_ay
              clear hw' hK W
              replace sA0 := carry (hbq) sA0
              replace sA1 := carry (hbq) sA1
              replace tA0 := carry (hbq) tA0
              replace tA1 := carry (hbq) tA1
              replace vp0 := carry (hbq) vp0
              replace vp1 := carry (hbq) vp1
              replace vq0 := carry (hbq) vq0
              replace vq1 := carry (hbq) vq1
              replace vc0 := carry (hbq) vc0
              replace vc1 := carry (hbq) vc1
              replace ax := carry (hbq) ax
              replace ay := carry (hbq) ay
              go_wp2_with fail
              refine (lives5_any _).mono ?_
              rintro e u9 ⟨rfl, hb9⟩
              go_wp2
              go_ret
              exact ⟨rfl, below_step (below_step hBr hbq) hb9⟩
            | true =>
              refine wp_region_made (by kernel_rfl) (by kernel_rfl) ?_
              intro W hK
              have g_sA0 := fun x => carry ((hK.below x)) sA0
              have g_sA1 := fun x => carry ((hK.below x)) sA1
              have g_tA0 := fun x => carry ((hK.below x)) tA0
              have g_tA1 := fun x => carry ((hK.below x)) tA1
              have g_vp0 := fun x => carry ((hK.below x)) vp0
              have g_vp1 := fun x => carry ((hK.below x)) vp1
              have g_vq0 := fun x => carry ((hK.below x)) vq0
              have g_vq1 := fun x => carry ((hK.below x)) vq1
              have g_vc0 := fun x => carry ((hK.below x)) vc0
              have g_vc1 := fun x => carry ((hK.below x)) vc1
              have g_ax := fun x => carry ((hK.below x)) ax
              have g_ay := fun x => carry ((hK.below x)) ay
              repeat (go_big_quiet_step ((first | (go_at_call 25; with_reducible exact met_made (hkk.out.1 _)) | (go_at_call 26; with_reducible exact met_made (hkk.out.2.1 _ (hsr.out.carry (hK.below _)))) | (go_at_call 26; with_reducible exact met_made (hkk.out.2.2 _ (htr.out.carry (hK.below _)))))))
              refine wpQuiet_nil ?_
              intro wq hw'
              have hbq := kept_in hK hw'
              clear g_sA0 g_sA1 g_tA0 g_tA1 g_vp0 g_vp1 g_vq0 g_vq1 g_vc0 g_vc1 g_ax g_ay
              clear hw' hK W
              replace sA0 := carry (hbq) sA0
              replace sA1 := carry (hbq) sA1
              replace tA0 := carry (hbq) tA0
              replace tA1 := carry (hbq) tA1
              replace vp0 := carry (hbq) vp0
              replace vp1 := carry (hbq) vp1
              replace vq0 := carry (hbq) vq0
              replace vq1 := carry (hbq) vq1
              replace vc0 := carry (hbq) vc0
              replace vc1 := carry (hbq) vc1
              replace ax := carry (hbq) ax
              replace ay := carry (hbq) ay
              go_wp2_with fail
              go_roundw
              case rel => exact ⟨j + 1, by omega, by go_num, fun i hi => by
                rcases Nat.lt_or_ge i j with h | h
                · exact hall'.out i h
                · obtain rfl : i = j := by omega
                  exact hAl.out, below_step hbl hbq⟩
              case measure => simp [intOf]; omega
        · obtain rfl : j = 5 := by omega
          have hhit := meets_hit (p := (p0, p1)) (q := (q0, q1)) (c := (c0, c1)) hs.out ht.out (fun i hi => (hall'.out i hi).1) (fun i hi => (hall'.out i hi).2) (hfar1.out (by first | rfl | trivial)) (hfar2.out (by first | rfl | trivial))
          have hcy := (col_yes hhit).2
          replace sA0 := carry (hbl) sA0
          replace sA1 := carry (hbl) sA1
          replace tA0 := carry (hbl) tA0
          replace tA1 := carry (hbl) tA1
          replace vp0 := carry (hbl) vp0
          replace vp1 := carry (hbl) vp1
          replace vq0 := carry (hbl) vq0
          replace vq1 := carry (hbl) vq1
          have hsr := Lib.hid (hs.out.carry hbl)
          have htr := Lib.hid (ht.out.carry hbl)
          have hBr := below_step hB hbl
          have kC := fun w (h : Sh w s) (h' : Sh w t) => col_any s t p0 p1 q0 q1 w h h' he.out.1 he.out.2.1 he.out.2.2.1 he.out.2.2.2
          rw [hcy] at kC
          generalize colN s t (p0, p1) (q0, q1) = cN at *
          obtain ⟨m0, m1, m2⟩ := cN
          simp only at kC
          have hkC := Lib.hid kC
          clear kC hcy hhit
          go_wp2_with fail
          refine (hkC.out _ hsr.out htr.out).mono ?_
          rintro e u8 ⟨rfl, hb8⟩
          go_wp2_with fail
          refine (lives5_any _).mono ?_
          rintro e u9 ⟨rfl, hb9⟩
          go_wp2
          go_ret
          exact ⟨rfl, below_step (below_step (below_step hBr hb8) (alloc_below _ _)) hb9⟩

set_option maxRecDepth 100000 in
theorem lifted (os : Os) (started : os.Started) (H : Type) (enc : TypeId × Value → H) :
    ReturnsInHanded {} Try.checked os 4 .any (Rows.collideMeetsSpec.pre6 enc Try.prog Try.f4 Rows.collideMeetsRow.domain false) (Rows.collideMeetsSpec.post enc Try.prog Try.f4 false true false false) := by
  refine returnsInHanded_of_change (C := Try.checked) own started (by kernel_rfl) Try.func4
    (ChangeSpec.witness6 (enc := enc) (C := Try.checked) false ⟨#[], #[.int .i64 0, .int .i64 0, .agg #[.int .i64 0, .int .i64 0, .int .i64 0, .int .i64 0], .int .i64 0, .int .i64 0], []⟩ 8 (by kernel_rfl) (by kernel_rfl) (by kernel_rfl) (by kernel_rfl)) ?_
  intro W base args ds gs before hval0 hW hcnd _
  have hval : ∀ (j : Nat) t v, Try.f4.params[j]? = some t → args[j]? = some v → Value.okWide Try.prog W .any base t v := hval0
  have hW' := hW
  obtain ⟨p, q, hA0, hV, rfl, hfz, hnd⟩ := hW
  have hA : DataW.TrodAll enc Try.prog W 0 (fun _ => true) true Try.f4.params.toList args.toList ds p := hA0
  rw [Try.params4] at hA hval
  obtain ⟨v0, vs0, d0, ds0, p0, q0, hargs, rfl, rfl, h0, r0⟩ := trodAll_cons hA
  obtain ⟨v1, vs1, d1, ds1, p1, q1, rfl, rfl, rfl, h1, r1⟩ := trodAll_cons r0
  obtain ⟨v2, vs2, d2, ds2, p2, q2, rfl, rfl, rfl, h2, r2⟩ := trodAll_cons r1
  obtain ⟨v3, vs3, d3, ds3, p3, q3, rfl, rfl, rfl, h3, r3⟩ := trodAll_cons r2
  obtain ⟨v4, vs4, d4, ds4, p4, q4, rfl, rfl, rfl, h4, r4⟩ := trodAll_cons r3
  obtain ⟨rfl, rfl, rfl⟩ := trodAll_nil r4
  obtain rfl : args = #[v0, v1, v2, v3, v4] := by cases args; simp_all
  obtain ⟨rfl, rfl⟩ := trodVars_none hV
  obtain ⟨a0, rfl, rfl, rfl, w0⟩ := open_int Try.underlying3 (hval 0 3 v0 rfl rfl) h0
  obtain ⟨a1, rfl, rfl, rfl, w1⟩ := open_int Try.underlying3 (hval 1 3 v1 rfl rfl) h1
  obtain ⟨z2, l2, e2, rfl, rfl, y2⟩ := open_arr Try.underlying22 Try.underlying3 (by kernel_rfl) (by kernel_rfl) (hval 2 22 v2 rfl rfl) h2
  obtain ⟨a2_0, a2_1, a2_2, a2_3, rfl⟩ := list4 l2
  simp only [List.map_cons, List.map_nil] at e2
  subst e2
  obtain ⟨a3, rfl, rfl, rfl, w3⟩ := open_int Try.underlying3 (hval 3 3 v3 rfl rfl) h3
  obtain ⟨a4, rfl, rfl, rfl, w4⟩ := open_int Try.underlying3 (hval 4 3 v4 rfl rfl) h4
  clear hA0 hval0
  simp only [List.append_nil] at hW'
  refine (walk a0 w0 a1 w1 a2_0 a2_1 a2_2 a2_3 (y2 _ (by simp)) (y2 _ (by simp)) (y2 _ (by simp)) (y2 _ (by simp)) a3 w3 a4 w4 W).mono fun e W' ⟨he, hb⟩ => ?_
  subst he
  exact ⟨_, rfl, kept_post (pa := []) hW' (fun _ _ _ => (trodAll_cons_mk (shut_bool Try.underlying4 _) trodAll_mk0)) (fun sp _ => (trodAll_cons_mk (shut_int Try.underlying3 w0) (trodAll_cons_mk (shut_int Try.underlying3 w1) (trodAll_cons_mk (shut_arr Try.underlying22 Try.underlying3 (by kernel_rfl) (by kernel_rfl) rfl y2) (trodAll_cons_mk (shut_int Try.underlying3 w3) (trodAll_cons_mk (shut_int Try.underlying3 w4) trodAll_mk0)))))) (fun _ => rfl) hb (ok_one (by kernel_rfl) rfl (okWide_bool_mk Try.underlying4 _))⟩

theorem over : Rows.collideMeetsRow.holds Try.pinned (OpenSpec.ofChange Rows.collideMeetsSpec) :=
  OpenClaim.holds_of_wide 4 Try.f4 rfl rfl rfl rfl rfl rfl rfl ⟨rfl, rfl, rfl, rfl, rfl⟩ rfl rfl rfl rfl rfl (by kernel_rfl) Try.func4 (by kernel_rfl)
    (of_decide_eq_true (by kernel_rfl)) (by unfold Func.isWrapper; first | (rw [if_pos (by decide +kernel)]; kernel_rfl) | (rw [if_neg (by decide +kernel)]; exact ⟨rfl, rfl⟩))
    (fun os started H enc _ => lifted os started H enc)

theorem proved : Rows.CollideMeetsSaid :=
  over
#print axioms proved
end Go.Proofs.Ytfbgghkkgmgnjaa.collideMeets
