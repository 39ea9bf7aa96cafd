/- Package collide: the laws' helpers: Place. -/
import Derived.Test.YtfbgghkkgmgnjaaCollI
import Derived.Deep.RegionHeld3
namespace Go.Proofs.Ytfbgghkkgmgnjaa
open Go.ChangeShapes Go.WideShapes Go.ChangeAt Go.RowKit Go.Shelf
open Fxm
set_option linter.unusedSimpArgs false
set_option linter.unusedVariables false

theorem wf64 {n : Int} (h : (Lit.int .i64 n).wf = true) : -9223372036854775808 ≤ n ∧ n ≤ 9223372036854775807 := by
  have h1 : IntKind.i64.min = -9223372036854775808 := rfl
  have h2 : IntKind.i64.max = 9223372036854775807 := rfl
  simp only [Lit.wf, Bool.and_eq_true, decide_eq_true_eq] at h
  omega
theorem bp_zero' : Bp 0 := ⟨by omega, by omega⟩
theorem tdiv2 {a : Int} (h : 0 ≤ a) (k : a ≤ 131072) : 0 ≤ a.tdiv 2 ∧ a.tdiv 2 ≤ 65536 := by
  rw [Int.tdiv_eq_ediv_of_nonneg h]
  omega

set_option maxHeartbeats 1000000 in
theorem place_any (s t : Sp) (l0 l1 l2 l3 : Int) (w : World) (hs : Sh w s) (ht : Sh w t) (hl0 : (Lit.int .i64 l0).wf = true) (hl1 : (Lit.int .i64 l1).wf = true) (hl2 : (Lit.int .i64 l2).wf = true) (hl3 : (Lit.int .i64 l3).wf = true) :
    Calls Try.prog 14 #[.agg #[.int .i64 s.r, .slice s.a s.n s.cap], .agg #[.int .i64 t.r, .slice t.a t.n t.cap], .agg #[.int .i64 l0, .int .i64 l1, .int .i64 l2, .int .i64 l3]] w fun e w' =>
      (∃ p0 p1 q0 q1, ((-5000 ≤ p0 ∧ p0 ≤ 5000) ∧ (-5000 ≤ p1 ∧ p1 ≤ 5000) ∧ (-80000 ≤ q0 ∧ q0 ≤ 80000) ∧ (-80000 ≤ q1 ∧ q1 ≤ 80000)) ∧ e = .returned (.tuple #[.agg #[.int .i64 p0, .int .i64 p1], .agg #[.int .i64 q0, .int .i64 q1]])) ∧ Below w.heap.size w w' := by
  obtain ⟨b1, b2⟩ := wf64 hl0
  obtain ⟨b3, b4⟩ := wf64 hl1
  obtain ⟨b5, b6⟩ := wf64 hl2
  obtain ⟨b7, b8⟩ := wf64 hl3
  have k1 := fun w (h : Sh w s) => h.refBounds 0 0 bp_zero' bp_zero'
  have k2 := fun w (h : Sh w t) => h.refBounds 0 0 bp_zero' bp_zero'
  have d1 := hs.bd
  have d2 := ht.bd
  simp only [Int.zero_add] at k1 k2
  generalize s.xa = sxa at *
  generalize s.ya = sya at *
  generalize s.xb = sxb at *
  generalize s.yb = syb at *
  generalize t.xa = txa at *
  generalize t.ya = tya at *
  generalize t.xb = txb at *
  generalize t.yb = tyb at *
  have k3 := fun w => bound_any l0 5000 w b1 b2 (by omega) (by omega)
  have k4 := fun w => bound_any l1 5000 w b3 b4 (by omega) (by omega)
  have k5 := fun w => around_any l0 5 w b1 b2 (by omega)
  have m3 := arnd_bd l0 (m := 2 * 5000 + 1) (by omega)
  have m4 := arnd_bd l1 (m := 2 * 5000 + 1) (by omega)
  have k6 := fun m (h : 0 ≤ m) (h' : m ≤ 100000) w => bound_any l2 m w b5 b6 h (by omega)
  have k7 := fun m (h : 0 ≤ m) (h' : m ≤ 100000) w => bound_any l3 m w b7 b8 h (by omega)
  have m6 := fun m (h : 0 ≤ m) => arnd_bd l2 (m := 2 * m + 1) (by omega)
  have m7 := fun m (h : 0 ≤ m) => arnd_bd l3 (m := 2 * m + 1) (by omega)
  generalize hp0 : arnd l0 (2 * 5000 + 1) - 5000 = p0 at *
  generalize hp1 : arnd l1 (2 * 5000 + 1) - 5000 = p1 at *
  have hpb := Lib.hid (show (-5000 ≤ p0 ∧ p0 ≤ 5000) ∧ (-5000 ≤ p1 ∧ p1 ≤ 5000) by omega)
  have hk := Lib.hid (And.intro k1 (And.intro k2 (And.intro k3 (And.intro k4 k5))))
  have hk2 := Lib.hid (And.intro k6 k7)
  have hm := Lib.hid (And.intro m6 m7)
  have hsh := Lib.hid (And.intro hs ht)
  have hd := Lib.hid (And.intro d1 d2)
  clear k1 k2 k3 k4 k5 k6 k7 m6 m7 m3 m4 hp0 hp1 hs ht b1 b2 b3 b4 b5 b6 b7 b8 hl0 hl1 hl2 hl3
  go_enter Try.func14, Try.ntmps14
  go_upto_region 1 with fail
  obtain ⟨V, hV⟩ : ∃ V, V = ((((w.alloc (.cells #[.int .i64 s.r, .slice s.a s.n s.cap] 25)).alloc (.cells #[.int .i64 t.r, .slice t.a t.n t.cap] 25)).alloc (.cells #[.int .i64 l0, .int .i64 l1, .int .i64 l2, .int .i64 l3] 22)).alloc (.cells #[.int .i64 0, .int .i64 0] 28)).alloc (.cells #[.int .i64 0, .int .i64 0] 28) := ⟨_, rfl⟩
  have hB : Below w.heap.size w V := by rw [hV]; exact below_step (below_step (below_step (below_step (alloc_below _ _) (alloc_below _ _)) (alloc_below _ _)) (alloc_below _ _)) (alloc_below _ _)
  have a0 : V.cell? ⟨w.heap.size, 0, none⟩ = some (.int .i64 s.r) := by rw [hV]; simp [go_sem]
  have a1 : V.cell? ⟨w.heap.size, 1, none⟩ = some (.slice s.a s.n s.cap) := by rw [hV]; simp [go_sem]
  have b0 : V.cell? ⟨w.heap.size + 1, 0, none⟩ = some (.int .i64 t.r) := by rw [hV]; simp [go_sem]
  have b1 : V.cell? ⟨w.heap.size + 1, 1, none⟩ = some (.slice t.a t.n t.cap) := by rw [hV]; simp [go_sem]
  have c0 : V.cell? ⟨w.heap.size + 1 + 1, 0, none⟩ = some (.int .i64 l0) := by rw [hV]; simp [go_sem]
  have c1 : V.cell? ⟨w.heap.size + 1 + 1, 1, none⟩ = some (.int .i64 l1) := by rw [hV]; simp [go_sem]
  have c2 : V.cell? ⟨w.heap.size + 1 + 1, 2, none⟩ = some (.int .i64 l2) := by rw [hV]; simp [go_sem]
  have c3 : V.cell? ⟨w.heap.size + 1 + 1, 3, none⟩ = some (.int .i64 l3) := by rw [hV]; simp [go_sem]
  have r0 : V.cell? ⟨w.heap.size + 1 + 1 + 1, 0, none⟩ = some (.int .i64 0) := by rw [hV]; simp [go_sem]
  have r1 : V.cell? ⟨w.heap.size + 1 + 1 + 1, 1, none⟩ = some (.int .i64 0) := by rw [hV]; simp [go_sem]
  have r2 : V.cell? ⟨w.heap.size + 1 + 1 + 1 + 1, 0, none⟩ = some (.int .i64 0) := by rw [hV]; simp [go_sem]
  have r3 : V.cell? ⟨w.heap.size + 1 + 1 + 1 + 1, 1, none⟩ = some (.int .i64 0) := by rw [hV]; simp [go_sem]
  have fr : ∀ k, V.frozen? ⟨w.heap.size + 1 + 1 + 1, k, none⟩ = false := fun k => by rw [hV]; simp [go_sem]
  have fs : ∀ k, V.frozen? ⟨w.heap.size + 1 + 1 + 1 + 1, k, none⟩ = false := fun k => by rw [hV]; simp [go_sem]
  rw [← hV]
  clear hV
  have nr := block_lt_of_cell r0
  have ns := block_lt_of_cell r2
  simp only at nr ns
  go_wp2_with fail
  refine (hk.out.1 _ (hsh.out.1.carry hB)).mono ?_
  rintro e w1 ⟨rfl, hb1⟩
  go_upto_region 2 with fail
  have x0 := World.cell?_alloc_new (w := w1) #[.int .i64 sxa, .int .i64 sya, .int .i64 sxb, .int .i64 syb] 41 0
  have x1 := World.cell?_alloc_new (w := w1) #[.int .i64 sxa, .int .i64 sya, .int .i64 sxb, .int .i64 syb] 41 1
  have x2 := World.cell?_alloc_new (w := w1) #[.int .i64 sxa, .int .i64 sya, .int .i64 sxb, .int .i64 syb] 41 2
  have x3 := World.cell?_alloc_new (w := w1) #[.int .i64 sxa, .int .i64 sya, .int .i64 sxb, .int .i64 syb] 41 3
  have hb2 := below_step hb1 (alloc_below w1 (.cells #[.int .i64 sxa, .int .i64 sya, .int .i64 sxb, .int .i64 syb] 41))
  generalize w1.alloc (.cells #[.int .i64 sxa, .int .i64 sya, .int .i64 sxb, .int .i64 syb] 41) = U1 at *
  simp only [List.getElem?_toArray, List.getElem?_cons_zero, List.getElem?_cons_succ] at x0 x1 x2 x3
  replace a0 := carry (hb2) a0
  replace a1 := carry (hb2) a1
  replace b0 := carry (hb2) b0
  replace b1 := carry (hb2) b1
  replace c0 := carry (hb2) c0
  replace c1 := carry (hb2) c1
  replace c2 := carry (hb2) c2
  replace c3 := carry (hb2) c3
  replace r0 := carry (hb2) r0
  replace r1 := carry (hb2) r1
  replace r2 := carry (hb2) r2
  replace r3 := carry (hb2) r3
  replace fr := fun k => (hb2.frozen (p := ⟨w.heap.size + 1 + 1 + 1, k, none⟩) nr).trans (fr k)
  replace fs := fun k => (hb2.frozen (p := ⟨w.heap.size + 1 + 1 + 1 + 1, k, none⟩) ns).trans (fs k)
  replace hB := below_step hB hb2
  replace nr := Nat.lt_of_lt_of_le nr hb2.size
  replace ns := Nat.lt_of_lt_of_le ns hb2.size
  clear hb1 hb2
  go_wp2_with fail
  refine (hk.out.2.1 _ (hsh.out.2.carry hB)).mono ?_
  rintro e w2 ⟨rfl, hb1⟩
  go_upto_region 3 with fail
  have y0 := World.cell?_alloc_new (w := w2) #[.int .i64 txa, .int .i64 tya, .int .i64 txb, .int .i64 tyb] 41 0
  have y1 := World.cell?_alloc_new (w := w2) #[.int .i64 txa, .int .i64 tya, .int .i64 txb, .int .i64 tyb] 41 1
  have y2 := World.cell?_alloc_new (w := w2) #[.int .i64 txa, .int .i64 tya, .int .i64 txb, .int .i64 tyb] 41 2
  have y3 := World.cell?_alloc_new (w := w2) #[.int .i64 txa, .int .i64 tya, .int .i64 txb, .int .i64 tyb] 41 3
  have hb2 := below_step hb1 (alloc_below w2 (.cells #[.int .i64 txa, .int .i64 tya, .int .i64 txb, .int .i64 tyb] 41))
  generalize w2.alloc (.cells #[.int .i64 txa, .int .i64 tya, .int .i64 txb, .int .i64 tyb] 41) = U2 at *
  simp only [List.getElem?_toArray, List.getElem?_cons_zero, List.getElem?_cons_succ] at y0 y1 y2 y3
  replace a0 := carry (hb2) a0
  replace a1 := carry (hb2) a1
  replace b0 := carry (hb2) b0
  replace b1 := carry (hb2) b1
  replace c0 := carry (hb2) c0
  replace c1 := carry (hb2) c1
  replace c2 := carry (hb2) c2
  replace c3 := carry (hb2) c3
  replace r0 := carry (hb2) r0
  replace r1 := carry (hb2) r1
  replace r2 := carry (hb2) r2
  replace r3 := carry (hb2) r3
  replace x0 := carry (hb2) x0
  replace x1 := carry (hb2) x1
  replace x2 := carry (hb2) x2
  replace x3 := carry (hb2) x3
  replace fr := fun k => (hb2.frozen (p := ⟨w.heap.size + 1 + 1 + 1, k, none⟩) nr).trans (fr k)
  replace fs := fun k => (hb2.frozen (p := ⟨w.heap.size + 1 + 1 + 1 + 1, k, none⟩) ns).trans (fs k)
  replace hB := below_step hB hb2
  replace nr := Nat.lt_of_lt_of_le nr hb2.size
  replace ns := Nat.lt_of_lt_of_le ns hb2.size
  clear hb1 hb2
  refine wp_region_alloc_last 7 (some 10) (.cells #[.int .i64 0, .int .i64 0] 28) (by kernel_rfl) (by kernel_rfl) ⟨_, rfl, rfl, fun _ => rfl, fun _ _ => by kernel_rfl⟩ ?_
  apply Exists.intro
  refine ⟨fun W hK E hE => ?_, ?_⟩
  · skip
    have g_a0 := fun x => carry ((hK.below x)) a0
    have g_a1 := fun x => carry ((hK.below x)) a1
    have g_b0 := fun x => carry ((hK.below x)) b0
    have g_b1 := fun x => carry ((hK.below x)) b1
    have g_c0 := fun x => carry ((hK.below x)) c0
    have g_c1 := fun x => carry ((hK.below x)) c1
    have g_c2 := fun x => carry ((hK.below x)) c2
    have g_c3 := fun x => carry ((hK.below x)) c3
    have g_r0 := fun x => carry ((hK.below x)) r0
    have g_r1 := fun x => carry ((hK.below x)) r1
    have g_r2 := fun x => carry ((hK.below x)) r2
    have g_r3 := fun x => carry ((hK.below x)) r3
    have g_x0 := fun x => carry ((hK.below x)) x0
    have g_x1 := fun x => carry ((hK.below x)) x1
    have g_x2 := fun x => carry ((hK.below x)) x2
    have g_x3 := fun x => carry ((hK.below x)) x3
    have g_y0 := fun x => carry ((hK.below x)) y0
    have g_y1 := fun x => carry ((hK.below x)) y1
    have g_y2 := fun x => carry ((hK.below x)) y2
    have g_y3 := fun x => carry ((hK.below x)) y3
    simp only [List.take_succ_cons, List.take_zero]
    repeat (go_big_quiet_step ((first | (go_at_call 35; with_reducible exact met_same (hk.out.2.2.1 _)) | (go_at_call 35; with_reducible exact met_same (hk.out.2.2.2.1 _)))))
    refine wpQuiet_nil ?_
    exact hE
  intro B wq hBB hbq hheap
  simp only [List.drop_succ_cons, List.drop_zero, Act.put, List.setIfInBounds_toArray, List.set_cons_zero, List.set_cons_succ]
  have hstep := (hbq.setCell (p := ⟨B, 0, none⟩) hBB (.int .i64 (p0))).setCell (p := ⟨B, 1, none⟩) hBB (.int .i64 (p1))
  replace a0 := carry (hstep) a0
  replace a1 := carry (hstep) a1
  replace b0 := carry (hstep) b0
  replace b1 := carry (hstep) b1
  replace c0 := carry (hstep) c0
  replace c1 := carry (hstep) c1
  replace c2 := carry (hstep) c2
  replace c3 := carry (hstep) c3
  replace r0 := carry (hstep) r0
  replace r1 := carry (hstep) r1
  replace r2 := carry (hstep) r2
  replace r3 := carry (hstep) r3
  replace x0 := carry (hstep) x0
  replace x1 := carry (hstep) x1
  replace x2 := carry (hstep) x2
  replace x3 := carry (hstep) x3
  replace y0 := carry (hstep) y0
  replace y1 := carry (hstep) y1
  replace y2 := carry (hstep) y2
  replace y3 := carry (hstep) y3
  have hh := heap_setCell (heap_setCell hheap 0 (.int .i64 (p0))) 1 (.int .i64 (p1))
  have vn0 := heap_cell hh 0
  have vn1 := heap_cell hh 1
  simp at vn0 vn1
  have hcB := heap_cell hheap
  have hfB := heap_frozen hheap
  clear hh hheap
  have hne1 : B ≠ w.heap.size + 1 + 1 + 1 := by omega
  have hne2 : B ≠ w.heap.size + 1 + 1 + 1 + 1 := by omega
  go_upto_region 4 with fail
  generalize (wq.setCell ⟨B, 0, none⟩ (.int .i64 p0)).setCell ⟨B, 1, none⟩ (.int .i64 p1) = U3 at *
  replace fr := fun k => (hstep.frozen (p := ⟨w.heap.size + 1 + 1 + 1, k, none⟩) nr).trans (fr k)
  replace fs := fun k => (hstep.frozen (p := ⟨w.heap.size + 1 + 1 + 1 + 1, k, none⟩) ns).trans (fs k)
  replace hB := below_step hB hstep
  replace nr := Nat.lt_of_lt_of_le nr hstep.size
  replace ns := Nat.lt_of_lt_of_le ns hstep.size
  obtain ⟨Bq0, hBq0⟩ : ∃ x, x = B := ⟨_, rfl⟩
  rw [← hBq0] at vn0 vn1 hne1 hne2
  rw [← hBq0]
  have hne3 := hne1.symm
  have hne4 := hne2.symm
  have hne5 : w.heap.size + 1 + 1 ≠ w.heap.size + 1 + 1 + 1 + 1 := by omega
  have hne6 := hne5.symm
  clear hcB hfB hstep hbq hBB hBq0 wq
  go_upto_region 6 with fail
  have hnb := Lib.hid hB
  have hw1 : 0 ≤ sxb - sxa + txb - txa ∧ sxb - sxa + txb - txa ≤ 131072 := by omega
  have hw2 : 0 ≤ syb - sya + tyb - tya ∧ syb - sya + tyb - tya ≤ 131072 := by omega
  generalize sxb - sxa + txb - txa = Ww at *
  generalize syb - sya + tyb - tya = Wh at *
  have t1 := tdiv2 hw1.1 hw1.2
  have t2 := tdiv2 hw2.1 hw2.2
  have kA := hk.out.2.2.2.2
  generalize arnd l0 5 = ar at kA
  have kA' := Lib.hid kA
  have hhd := Lib.hid (And.intro d1 d2)
  clear kA d1 d2
  by_cases h4 : ar = 4
  · have h5 : (ar == 4) = true := by simp [h4]
    go_wp2_with fail
    refine (kA'.out _).mono ?_
    rintro e w3 ⟨rfl, hw3⟩
    subst hw3
    go_upto_region 9 with fail
    have x1 : IntKind.i64.wrap (IntKind.i64.wrap 1 + 2) = 3 := by decide
    have hX := Lib.hid x1
    have kb6 := Lib.hid (hk2.out.1 (IntKind.i64.wrap (IntKind.i64.wrap 1 + 2)) (by omega) (by omega))
    have kb7 := Lib.hid (hk2.out.2 (IntKind.i64.wrap (IntKind.i64.wrap 1 + 2)) (by omega) (by omega))
    have mb6 := hm.out.1 (IntKind.i64.wrap (IntKind.i64.wrap 1 + 2)) (by omega)
    have mb7 := hm.out.2 (IntKind.i64.wrap (IntKind.i64.wrap 1 + 2)) (by omega)
    obtain ⟨e0, he0⟩ : ∃ e0, e0 = arnd l2 (2 * (IntKind.i64.wrap (IntKind.i64.wrap 1 + 2)) + 1) - (IntKind.i64.wrap (IntKind.i64.wrap 1 + 2)) := ⟨_, rfl⟩
    obtain ⟨e1, he1⟩ : ∃ e1, e1 = arnd l3 (2 * (IntKind.i64.wrap (IntKind.i64.wrap 1 + 2)) + 1) - (IntKind.i64.wrap (IntKind.i64.wrap 1 + 2)) := ⟨_, rfl⟩
    rw [← he0] at kb6
    rw [← he1] at kb7
    have he0b : -70000 ≤ e0 ∧ e0 ≤ 70000 := by omega
    have he1b : -70000 ≤ e1 ∧ e1 ≤ 70000 := by omega
    have hpp := hpb.out
    clear he0 he1 mb6 mb7 x1
    try clear x2
    have f0 := fr 0
    have f1 := fr 1
    have f2 := fs 0
    have f3 := fs 1
    clear fr fs
    generalize hR1 : w.heap.size + 1 + 1 + 1 + 1 = R1 at *
    generalize hR0 : w.heap.size + 1 + 1 + 1 = R0 at *
    generalize hLb : w.heap.size + 1 + 1 = Lb at *
    have n1 : Lb ≠ R0 := by omega
    have n2 : Lb ≠ R1 := by omega
    have n3 : R0 ≠ R1 := by omega
    have n4 := n1.symm
    have n5 := n2.symm
    have n6 := n3.symm
    have q0 : w.heap.size ≤ R0 := by omega
    have q1 : w.heap.size ≤ R1 := by omega
    have hLL := Lib.hid (And.intro hR1 (And.intro hR0 hLb))
    clear hR1 hR0 hLb
    go_region_held3 (fun w' => w'.cell? ⟨Bq0, 0, none⟩ = some (.int .i64 p0) ∧ w'.cell? ⟨Bq0, 1, none⟩ = some (.int .i64 p1) ∧ w'.cell? ⟨Lb, 2, none⟩ = some (.int .i64 l2) ∧ w'.cell? ⟨Lb, 3, none⟩ = some (.int .i64 l3))
      (go_keep)
      (first | (go_at_call 35; with_reducible refine (kb6.out _).mono ?_; rintro e w4 ⟨rfl, hw4⟩; subst hw4) | (go_at_call 35; with_reducible refine (kb7.out _).mono ?_; rintro e w4 ⟨rfl, hw4⟩; subst hw4))
    all_goals
      have y0' : IntKind.i64.wrap (p0 + e0) = p0 + e0 := IntWalk.i64_in _ ⟨by omega, by omega⟩
      have y1' : IntKind.i64.wrap (p1 + e1) = p1 + e1 := IntWalk.i64_in _ ⟨by omega, by omega⟩
      have hy := Lib.hid (And.intro y0' y1')
      clear y0' y1'
      go_wp2
      refine bodyPost_ret (v := .tuple #[.agg #[.int .i64 p0, .int .i64 p1], .agg #[.int .i64 (IntKind.i64.wrap (p0 + e0)), .int .i64 (IntKind.i64.wrap (p1 + e1))]]) (by simp [results, Try.results14, go_sem, r0, r1, r2, r3]) rfl ⟨⟨p0, p1, IntKind.i64.wrap (p0 + e0), IntKind.i64.wrap (p1 + e1), by rw [hy.out.1, hy.out.2]; omega, rfl⟩, ?_⟩
      repeat (first | exact hB.drew | (refine Below.drew ?_) | (refine Below.setCell ?_ (by first | (simp; done) | (simp; omega) | omega) _) | exact hB)
  · have h5 : (ar == 4) = false := by simp [h4]
    go_wp2_with fail
    refine (kA'.out _).mono ?_
    rintro e w3 ⟨rfl, hw3⟩
    subst hw3
    go_upto_region 9 with fail
    have x1 : IntKind.i64.wrap (IntKind.i64.wrap (Ww.tdiv 2) + 2) = Ww.tdiv 2 + 2 := by rw [IntWalk.i64_in (Ww.tdiv 2) ⟨by omega, by omega⟩, IntWalk.i64_in _ ⟨by omega, by omega⟩]
    have x2 : IntKind.i64.wrap (IntKind.i64.wrap (Wh.tdiv 2) + 2) = Wh.tdiv 2 + 2 := by rw [IntWalk.i64_in (Wh.tdiv 2) ⟨by omega, by omega⟩, IntWalk.i64_in _ ⟨by omega, by omega⟩]
    have hX := Lib.hid (And.intro x1 x2)
    have kb6 := Lib.hid (hk2.out.1 (IntKind.i64.wrap (IntKind.i64.wrap (Ww.tdiv 2) + 2)) (by omega) (by omega))
    have kb7 := Lib.hid (hk2.out.2 (IntKind.i64.wrap (IntKind.i64.wrap (Wh.tdiv 2) + 2)) (by omega) (by omega))
    have mb6 := hm.out.1 (IntKind.i64.wrap (IntKind.i64.wrap (Ww.tdiv 2) + 2)) (by omega)
    have mb7 := hm.out.2 (IntKind.i64.wrap (IntKind.i64.wrap (Wh.tdiv 2) + 2)) (by omega)
    obtain ⟨e0, he0⟩ : ∃ e0, e0 = arnd l2 (2 * (IntKind.i64.wrap (IntKind.i64.wrap (Ww.tdiv 2) + 2)) + 1) - (IntKind.i64.wrap (IntKind.i64.wrap (Ww.tdiv 2) + 2)) := ⟨_, rfl⟩
    obtain ⟨e1, he1⟩ : ∃ e1, e1 = arnd l3 (2 * (IntKind.i64.wrap (IntKind.i64.wrap (Wh.tdiv 2) + 2)) + 1) - (IntKind.i64.wrap (IntKind.i64.wrap (Wh.tdiv 2) + 2)) := ⟨_, rfl⟩
    rw [← he0] at kb6
    rw [← he1] at kb7
    have he0b : -70000 ≤ e0 ∧ e0 ≤ 70000 := by omega
    have he1b : -70000 ≤ e1 ∧ e1 ≤ 70000 := by omega
    have hpp := hpb.out
    clear he0 he1 mb6 mb7 x1
    try clear x2
    have f0 := fr 0
    have f1 := fr 1
    have f2 := fs 0
    have f3 := fs 1
    clear fr fs
    generalize hR1 : w.heap.size + 1 + 1 + 1 + 1 = R1 at *
    generalize hR0 : w.heap.size + 1 + 1 + 1 = R0 at *
    generalize hLb : w.heap.size + 1 + 1 = Lb at *
    have n1 : Lb ≠ R0 := by omega
    have n2 : Lb ≠ R1 := by omega
    have n3 : R0 ≠ R1 := by omega
    have n4 := n1.symm
    have n5 := n2.symm
    have n6 := n3.symm
    have q0 : w.heap.size ≤ R0 := by omega
    have q1 : w.heap.size ≤ R1 := by omega
    have hLL := Lib.hid (And.intro hR1 (And.intro hR0 hLb))
    clear hR1 hR0 hLb
    go_region_held3 (fun w' => w'.cell? ⟨Bq0, 0, none⟩ = some (.int .i64 p0) ∧ w'.cell? ⟨Bq0, 1, none⟩ = some (.int .i64 p1) ∧ w'.cell? ⟨Lb, 2, none⟩ = some (.int .i64 l2) ∧ w'.cell? ⟨Lb, 3, none⟩ = some (.int .i64 l3))
      (go_keep)
      (first | (go_at_call 35; with_reducible refine (kb6.out _).mono ?_; rintro e w4 ⟨rfl, hw4⟩; subst hw4) | (go_at_call 35; with_reducible refine (kb7.out _).mono ?_; rintro e w4 ⟨rfl, hw4⟩; subst hw4))
    all_goals
      have y0' : IntKind.i64.wrap (p0 + e0) = p0 + e0 := IntWalk.i64_in _ ⟨by omega, by omega⟩
      have y1' : IntKind.i64.wrap (p1 + e1) = p1 + e1 := IntWalk.i64_in _ ⟨by omega, by omega⟩
      have hy := Lib.hid (And.intro y0' y1')
      clear y0' y1'
      go_wp2
      refine bodyPost_ret (v := .tuple #[.agg #[.int .i64 p0, .int .i64 p1], .agg #[.int .i64 (IntKind.i64.wrap (p0 + e0)), .int .i64 (IntKind.i64.wrap (p1 + e1))]]) (by simp [results, Try.results14, go_sem, r0, r1, r2, r3]) rfl ⟨⟨p0, p1, IntKind.i64.wrap (p0 + e0), IntKind.i64.wrap (p1 + e1), by rw [hy.out.1, hy.out.2]; omega, rfl⟩, ?_⟩
      repeat (first | exact hB.drew | (refine Below.drew ?_) | (refine Below.setCell ?_ (by first | (simp; done) | (simp; omega) | omega) _) | exact hB)
end Go.Proofs.Ytfbgghkkgmgnjaa
