/- Package resolve: the reference's Resolve. -/
import Derived.Test.YtihoanoanoaneaaResD
namespace Go.Proofs.Ytihoanoanoaneaa
open Go.ChangeShapes Go.WideShapes Go.ChangeAt Go.RowKit
open Fxm
set_option linter.unusedSimpArgs false
set_option linter.unusedVariables false

theorem Door.velA {W : World} {h : Nat} {a b : Mo} {n0 n1 d : Int} {X Y : Mo} (D : Door W h a b n0 n1 d X Y) (x y : Int) : Door ((W.setCell ⟨h, 2, none⟩ (.int .i64 x)).setCell ⟨h, 3, none⟩ (.int .i64 y)) h { a with v0 := x, v1 := y } b n0 n1 d X Y :=
  ⟨mo_vel D.a x y, oset2 h 2 3 _ _ D.b (by omega), oset2 h 2 3 _ _ D.c (by omega), oset2 h 2 3 _ _ D.x (by omega), oset2 h 2 3 _ _ D.y (by omega)⟩
theorem Door.posA {W : World} {h : Nat} {a b : Mo} {n0 n1 d : Int} {X Y : Mo} (D : Door W h a b n0 n1 d X Y) (x y : Int) : Door ((W.setCell ⟨h, 0, none⟩ (.int .i64 x)).setCell ⟨h, 1, none⟩ (.int .i64 y)) h { a with p0 := x, p1 := y } b n0 n1 d X Y :=
  ⟨mo_pos D.a x y, oset2 h 0 1 _ _ D.b (by omega), oset2 h 0 1 _ _ D.c (by omega), oset2 h 0 1 _ _ D.x (by omega), oset2 h 0 1 _ _ D.y (by omega)⟩
theorem Door.velB {W : World} {h : Nat} {a b : Mo} {n0 n1 d : Int} {X Y : Mo} (D : Door W h a b n0 n1 d X Y) (x y : Int) : Door ((W.setCell ⟨h + 1, 2, none⟩ (.int .i64 x)).setCell ⟨h + 1, 3, none⟩ (.int .i64 y)) h a { b with v0 := x, v1 := y } n0 n1 d X Y :=
  ⟨oset2 _ 2 3 _ _ D.a (by omega), mo_vel D.b x y, oset2 _ 2 3 _ _ D.c (by omega), oset2 _ 2 3 _ _ D.x (by omega), oset2 _ 2 3 _ _ D.y (by omega)⟩
theorem Door.posB {W : World} {h : Nat} {a b : Mo} {n0 n1 d : Int} {X Y : Mo} (D : Door W h a b n0 n1 d X Y) (x y : Int) : Door ((W.setCell ⟨h + 1, 0, none⟩ (.int .i64 x)).setCell ⟨h + 1, 1, none⟩ (.int .i64 y)) h a { b with p0 := x, p1 := y } n0 n1 d X Y :=
  ⟨oset2 _ 0 1 _ _ D.a (by omega), mo_pos D.b x y, oset2 _ 0 1 _ _ D.c (by omega), oset2 _ 0 1 _ _ D.x (by omega), oset2 _ 0 1 _ _ D.y (by omega)⟩

set_option maxHeartbeats 4000000 in
set_option maxRecDepth 100000 in
theorem refClampM_any (a : Mo) (w : World) :
    Calls Try.prog 38 #[.agg #[.int .i64 a.p0, .int .i64 a.p1, .int .i64 a.v0, .int .i64 a.v1, .int .i64 a.m]] w fun E w' =>
      E = .returned (.agg #[.int .i64 (cp a.p0), .int .i64 (cp a.p1), .int .i64 (cv a.v0), .int .i64 (cv a.v1), .int .i64 a.m]) ∧ Below w.heap.size w w' := by
  have e0 : clampV a.p0 (-1048576) 1048576 = cp a.p0 := rfl
  have e1 : clampV a.p1 (-1048576) 1048576 = cp a.p1 := rfl
  have e2 : clampV a.v0 (-16384) 16384 = cv a.v0 := rfl
  have e3 : clampV a.v1 (-16384) 16384 = cv a.v1 := rfl
  have hee := Lib.hid (And.intro e0 (And.intro e1 (And.intro e2 e3)))
  rw [← e0, ← e1, ← e2, ← e3]
  clear e0 e1 e2 e3 hee
  go_enter Try.func38, Try.ntmps38
  go_wp2
  refine wp_region_tail 21 (by kernel_rfl) (by kernel_rfl) ?_
  intro W hK
  obtain ⟨hc, hf, hz, hb⟩ := hK
  simp only [List.take_succ_cons, List.take_zero, List.drop_succ_cons, List.drop_zero]
  repeat (go_big_quiet_step ((go_at_call 49; with_reducible exact met_same (refClamp_any _ _ _ _))))
  refine wpQuiet_nil ?_
  intro _ hw'
  obtain ⟨xq, hw''⟩ := hw'
  subst hw''
  go_wp2
  refine bodyPost_ret (v := .agg #[.int .i64 (clampV a.p0 (-1048576) 1048576), .int .i64 (clampV a.p1 (-1048576) 1048576), .int .i64 (clampV a.v0 (-16384) 16384), .int .i64 (clampV a.v1 (-16384) 16384), .int .i64 a.m]) (by simp [results, Try.results38, go_sem, hc, hf]) rfl ⟨rfl, ?_⟩
  repeat (first | exact Below.refl _ _ | (refine Below.setCell ?_ (by first | (simp; done) | (simp; omega) | omega) _) | (refine Below.alloc ?_ (by first | exact Nat.le_refl _ | (simp; done) | (simp; omega) | omega) _) | refine Below.drew ?_ | (refine Below.trans ?_ ((hb _).mono (by first | (simp; done) | (simp; omega) | omega))) | (refine Below.trans ?_ (hb1.mono (by first | (simp; done) | (simp; omega) | omega))))

set_option maxHeartbeats 4000000 in
set_option maxRecDepth 100000 in
theorem refResolve_none (a b : Mo) (n0 n1 d e : Int) (w : World) (ha : a.Dom) (hb : b.Dom) (ht : a.m + b.m = 0) :
    Calls Try.prog 13 #[.agg #[.int .i64 a.p0, .int .i64 a.p1, .int .i64 a.v0, .int .i64 a.v1, .int .i64 a.m], .agg #[.int .i64 b.p0, .int .i64 b.p1, .int .i64 b.v0, .int .i64 b.v1, .int .i64 b.m], .agg #[.int .i64 n0, .int .i64 n1, .int .i64 d], .int .i64 e] w fun E w' =>
      E = .returned (.tuple #[.agg #[.int .i64 a.p0, .int .i64 a.p1, .int .i64 a.v0, .int .i64 a.v1, .int .i64 a.m], .agg #[.int .i64 b.p0, .int .i64 b.p1, .int .i64 b.v0, .int .i64 b.v1, .int .i64 b.m]]) ∧ Below w.heap.size w w' := by
  have D := door_at w a b n0 n1 d
  have hB := door_below w a b n0 n1 d
  obtain ⟨V, hV⟩ : ∃ V, V = doorW w a b n0 n1 d := ⟨_, rfl⟩
  rw [← hV] at D hB
  have hV' := Lib.hid hV
  have D' := Lib.hid D
  have hB' := Lib.hid hB
  obtain ⟨a0, a1, a2, a3, a4⟩ := mo_cells D.a
  obtain ⟨b0, b1, b2, b3, b4⟩ := mo_cells D.b
  have hl := D.lt
  have ma := ha.m
  have mb := hb.m
  clear hV D hB ha hb
  go_enter Try.func13, Try.ntmps13
  go_upto_region 1 with fail
  rw [show ((((w.alloc (.cells #[.int .i64 a.p0, .int .i64 a.p1, .int .i64 a.v0, .int .i64 a.v1, .int .i64 a.m] 26)).alloc (.cells #[.int .i64 b.p0, .int .i64 b.p1, .int .i64 b.v0, .int .i64 b.v1, .int .i64 b.m] 26)).alloc (.cells #[.int .i64 n0, .int .i64 n1, .int .i64 d] 29)).alloc (.cells #[.int .i64 0, .int .i64 0, .int .i64 0, .int .i64 0, .int .i64 0] 26)).alloc (.cells #[.int .i64 0, .int .i64 0, .int .i64 0, .int .i64 0, .int .i64 0] 26) = V from hV'.out.symm]
  clear hV'
  go_upto_region 3 with fail
  have xf := mo_frozen D'.out.x
  have yf := mo_frozen D'.out.y
  obtain ⟨x0, x1, x2, x3, x4⟩ := mo_cells D'.out.x
  obtain ⟨y0, y1, y2, y3, y4⟩ := mo_cells D'.out.y
  go_region
  go_wp2
  refine bodyPost_ret (v := .tuple #[.agg #[.int .i64 a.p0, .int .i64 a.p1, .int .i64 a.v0, .int .i64 a.v1, .int .i64 a.m], .agg #[.int .i64 b.p0, .int .i64 b.p1, .int .i64 b.v0, .int .i64 b.v1, .int .i64 b.m]]) (by simp [results, Try.results13, go_sem, x0, x1, x2, x3, x4, y0, y1, y2, y3, y4, xf, yf, hl]) rfl ⟨rfl, ?_⟩
  repeat (first | with_reducible exact hB'.out | with_reducible (refine Below.drew ?_) | with_reducible (refine Below.setCell ?_ (by simp only; omega) _))

set_option maxHeartbeats 4000000 in
set_option maxRecDepth 100000 in
theorem refResolve_some (a b : Mo) (n0 n1 d e : Int) (w : World) (ha : a.Dom) (hb : b.Dom) (ht : ¬ a.m + b.m = 0) (hn0 : -1024 ≤ n0 ∧ n0 ≤ 1024) (hn1 : -1024 ≤ n1 ∧ n1 ≤ 1024) (hd : 0 ≤ d ∧ d ≤ 1048576) (he : 0 ≤ e ∧ e ≤ 1024) (RA RB : Mo) (hRA : resA a b n0 n1 d e = RA) (hRB : resB a b n0 n1 d e = RB) :
    Calls Try.prog 13 #[.agg #[.int .i64 a.p0, .int .i64 a.p1, .int .i64 a.v0, .int .i64 a.v1, .int .i64 a.m], .agg #[.int .i64 b.p0, .int .i64 b.p1, .int .i64 b.v0, .int .i64 b.v1, .int .i64 b.m], .agg #[.int .i64 n0, .int .i64 n1, .int .i64 d], .int .i64 e] w fun E w' =>
      E = .returned (.tuple #[.agg #[.int .i64 RA.p0, .int .i64 RA.p1, .int .i64 RA.v0, .int .i64 RA.v1, .int .i64 RA.m], .agg #[.int .i64 RB.p0, .int .i64 RB.p1, .int .i64 RB.v0, .int .i64 RB.v1, .int .i64 RB.m]]) ∧ Below w.heap.size w w' := by
  rw [resA_at ht] at hRA
  rw [resB_at ht] at hRB
  have hR' := Lib.hid (And.intro hRA hRB)
  have hdom := Lib.hid (And.intro ha hb)
  have D := door_at w a b n0 n1 d
  have hB := door_below w a b n0 n1 d
  obtain ⟨V, hV⟩ : ∃ V, V = doorW w a b n0 n1 d := ⟨_, rfl⟩
  rw [← hV] at D hB
  have hV' := Lib.hid hV
  have D' := Lib.hid D
  have hB' := Lib.hid hB
  have hF := Lib.hid (fits a b n0 n1 d e ha hb ht hn0 hn1 hd he)
  obtain ⟨a0, a1, a2, a3, a4⟩ := mo_cells D.a
  obtain ⟨b0, b1, b2, b3, b4⟩ := mo_cells D.b
  obtain ⟨c0, c1, c2⟩ := con_cells D.c
  have hl := D.lt
  have ma := ha.m
  have mb := hb.m
  have ht' : (a.m + b.m == 0) = false := by simpa using ht
  have hnz := Lib.hid ht
  have k1 := fun w => refSub_any b.v0 b.v1 a.v0 a.v1 w (by have := hdom.out.2.v0; unfold Bd; omega) (by have := hdom.out.2.v1; unfold Bd; omega) (by have := hdom.out.1.v0; unfold Bd; omega) (by have := hdom.out.1.v1; unfold Bd; omega)
  have k2 := fun w => refDot_any (b.v0 - a.v0) (b.v1 - a.v1) n0 n1 w (by have := hdom.out.2.v0; have := hdom.out.1.v0; unfold Bd; omega) (by have := hdom.out.2.v1; have := hdom.out.1.v1; unfold Bd; omega) (by unfold Bd; omega) (by unfold Bd; omega)
  rw [show flr ((b.v0 - a.v0) * n0 + (b.v1 - a.v1) * n1) 1024 = rvn a b n0 n1 from rfl] at k2
  have hkk := Lib.hid (And.intro k1 k2)
  clear k1 k2
  clear hV D hB ha hb hRA hRB ht
  go_enter Try.func13, Try.ntmps13
  go_upto_region 1 with fail
  rw [show ((((w.alloc (.cells #[.int .i64 a.p0, .int .i64 a.p1, .int .i64 a.v0, .int .i64 a.v1, .int .i64 a.m] 26)).alloc (.cells #[.int .i64 b.p0, .int .i64 b.p1, .int .i64 b.v0, .int .i64 b.v1, .int .i64 b.m] 26)).alloc (.cells #[.int .i64 n0, .int .i64 n1, .int .i64 d] 29)).alloc (.cells #[.int .i64 0, .int .i64 0, .int .i64 0, .int .i64 0, .int .i64 0] 26)).alloc (.cells #[.int .i64 0, .int .i64 0, .int .i64 0, .int .i64 0, .int .i64 0] 26) = V from hV'.out.symm]
  clear hV'
  go_upto_region 4 with fail
  clear ht' a4 b4 c2 a0 a1 b0 b1
  refine wp_region_made (by kernel_rfl) (by kernel_rfl) ?_
  intro W hK
  have g_a2 := fun x => carry ((hK.below x)) a2
  have g_a3 := fun x => carry ((hK.below x)) a3
  have g_b2 := fun x => carry ((hK.below x)) b2
  have g_b3 := fun x => carry ((hK.below x)) b3
  have g_c0 := fun x => carry ((hK.below x)) c0
  have g_c1 := fun x => carry ((hK.below x)) c1
  repeat (go_big_quiet_step ((first | (go_at_call 33; with_reducible exact met_made (hkk.out.1 _)) | (go_at_call 32; with_reducible exact met_made (hkk.out.2 _)))))
  refine wpQuiet_nil ?_
  intro wq hw'
  have hbq := kept_in hK hw'
  clear g_a2 g_a3 g_b2 g_b3 g_c0 g_c1
  clear hw' hK W
  replace a2 := carry (hbq) a2
  replace a3 := carry (hbq) a3
  replace b2 := carry (hbq) b2
  replace b3 := carry (hbq) b3
  replace c0 := carry (hbq) c0
  replace c1 := carry (hbq) c1
  have D3 := Lib.hid (D'.out.carry hbq)
  have hb3 := Lib.hid (below_step hB'.out hbq)
  clear hbq hkk a2 a3 b2 b3 c0 c1 D' hB' hl
  obtain ⟨J, hJ⟩ : ∃ J, J = rj a b n0 n1 e := ⟨_, rfl⟩
  have hJ' := Lib.hid hJ
  clear hJ
  go_upto_if 31 with fail
  go_cut [4, 5] (fun p q W => p = .pointer (some ⟨w.heap.size, 0, none⟩) ∧ q = .pointer (some ⟨w.heap.size + 1, 0, none⟩) ∧ Door W w.heap.size { a with v0 := a.v0 - rsc n0 (rfv J a.m), v1 := a.v1 - rsc n1 (rfv J a.m) } { b with v0 := b.v0 + rsc n0 (rfv J b.m), v1 := b.v1 + rsc n1 (rfv J b.m) } n0 n1 d ⟨0, 0, 0, 0, 0⟩ ⟨0, 0, 0, 0, 0⟩ ∧ Below w.heap.size w W)
  case first =>
    by_cases hv : rvn a b n0 n1 < 0
    · have hvn := hF.out.vn
      have hj : flr (-rvn a b n0 n1 * (1024 + e)) (a.m + b.m) = J := by rw [hJ'.out]; unfold rj; rw [if_pos hv]
      have k1 := fun w => refMulDiv_any (-rvn a b n0 n1) (1024 + e) (a.m + b.m) w hF.out.num.1 hF.out.num.2
      have k2 := fun w => refMul_any J a.m w (by rw [hJ'.out]; exact hF.out.ja.1) (by rw [hJ'.out]; exact hF.out.ja.2)
      have k3 := fun w => refMul_any J b.m w (by rw [hJ'.out]; exact hF.out.jb.1) (by rw [hJ'.out]; exact hF.out.jb.2)
      have k4 := fun w => refScale_any n0 n1 (rfv J a.m) w (by unfold Bd; omega) (by unfold Bd; omega) (by rw [hJ'.out]; exact hF.out.fa)
      have k5 := fun w => refScale_any n0 n1 (rfv J b.m) w (by unfold Bd; omega) (by unfold Bd; omega) (by rw [hJ'.out]; exact hF.out.fb)
      have k6 := fun w => refSub_any a.v0 a.v1 (rsc n0 (rfv J a.m)) (rsc n1 (rfv J a.m)) w (by have := hdom.out.1.v0; unfold Bd; omega) (by have := hdom.out.1.v1; unfold Bd; omega) (by rw [hJ'.out]; have := hF.out.a0; unfold Bd; omega) (by rw [hJ'.out]; have := hF.out.a1; unfold Bd; omega)
      have k7 := fun w => refAdd_any b.v0 b.v1 (rsc n0 (rfv J b.m)) (rsc n1 (rfv J b.m)) w (by have := hdom.out.2.v0; unfold Bd; omega) (by have := hdom.out.2.v1; unfold Bd; omega) (by rw [hJ'.out]; have := hF.out.b0; unfold Bd; omega) (by rw [hJ'.out]; have := hF.out.b1; unfold Bd; omega)
      rw [hj] at k1
      rw [show flr (J * a.m) 1024 = rfv J a.m from rfl] at k2
      rw [show flr (J * b.m) 1024 = rfv J b.m from rfl] at k3
      rw [show flr (n0 * rfv J a.m) 1024 = rsc n0 (rfv J a.m) from rfl, show flr (n1 * rfv J a.m) 1024 = rsc n1 (rfv J a.m) from rfl] at k4
      rw [show flr (n0 * rfv J b.m) 1024 = rsc n0 (rfv J b.m) from rfl, show flr (n1 * rfv J b.m) 1024 = rsc n1 (rfv J b.m) from rfl] at k5
      have hk := Lib.hid (And.intro k1 (And.intro k2 (And.intro k3 (And.intro k4 (And.intro k5 (And.intro k6 k7))))))
      clear k1 k2 k3 k4 k5 k6 k7 hj
      have hvd := Lib.hid (And.intro hdom.out.1.v0 (And.intro hdom.out.1.v1 (And.intro hdom.out.2.v0 hdom.out.2.v1)))
      have hrs := Lib.hid (And.intro hF.out.a0 (And.intro hF.out.a1 (And.intro hF.out.b0 hF.out.b1)))
      go_wp2_with fail
      refine (hk.out.1 _).mono ?_
      rintro e' w' ⟨rfl, rfl⟩
      go_upto_region 7 with fail
      obtain ⟨-, -, a2, a3, a4⟩ := mo_cells D3.out.a
      obtain ⟨c0, c1, -⟩ := con_cells D3.out.c
      generalize rfv J a.m = fa at *
      generalize rfv J b.m = fb at *
      generalize rsc n0 fa = r0 at *
      generalize rsc n1 fa = r1 at *
      generalize rsc n0 fb = s0 at *
      generalize rsc n1 fb = s1 at *
      refine wp_region_tail 11 (by kernel_rfl) (by kernel_rfl) ?_
      intro W hK
      have g_a2 := fun x => carry ((hK.below x)) a2
      have g_a3 := fun x => carry ((hK.below x)) a3
      have g_a4 := fun x => carry ((hK.below x)) a4
      have g_c0 := fun x => carry ((hK.below x)) c0
      have g_c1 := fun x => carry ((hK.below x)) c1
      simp only [List.take_succ_cons, List.take_zero, List.drop_succ_cons, List.drop_zero]
      repeat (go_big_quiet_step ((first | (go_at_call 36; with_reducible exact met_same (hk.out.2.1 _)) | (go_at_call 35; with_reducible exact met_made (hk.out.2.2.2.1 _)) | (go_at_call 33; with_reducible exact met_made (hk.out.2.2.2.2.2.1 _)))))
      refine wpQuiet_nil ?_
      intro wq hw'
      have hbq := kept_in hK hw'
      clear g_a2 g_a3 g_a4 g_c0 g_c1
      clear hw' hK W
      replace a2 := carry (hbq) a2
      replace a3 := carry (hbq) a3
      replace a4 := carry (hbq) a4
      replace c0 := carry (hbq) c0
      replace c1 := carry (hbq) c1
      have D4 := Lib.hid (D3.out.carry hbq)
      have hb4 := Lib.hid (below_step hb3.out hbq)
      have cf := mo_frozen D4.out.a
      clear hbq a4 c0 c1
      go_upto_region 8 with fail
      have D5 := Lib.hid (D4.out.velA (a.v0 - r0) (a.v1 - r1))
      have hb5 := Lib.hid ((hb4.out.setCell (p := ⟨w.heap.size, 2, none⟩) (Nat.le_refl _) (.int .i64 (a.v0 - r0))).setCell (p := ⟨w.heap.size, 3, none⟩) (Nat.le_refl _) (.int .i64 (a.v1 - r1)))
      clear a2 a3 cf D4 hb4
      generalize (wq.setCell ⟨w.heap.size, 2, none⟩ (.int .i64 (a.v0 - r0))).setCell ⟨w.heap.size, 3, none⟩ (.int .i64 (a.v1 - r1)) = V5 at *
      obtain ⟨-, -, b2, b3, b4⟩ := mo_cells D5.out.b
      obtain ⟨c0, c1, -⟩ := con_cells D5.out.c
      refine wp_region_tail 11 (by kernel_rfl) (by kernel_rfl) ?_
      intro W hK
      have g_b2 := fun x => carry ((hK.below x)) b2
      have g_b3 := fun x => carry ((hK.below x)) b3
      have g_b4 := fun x => carry ((hK.below x)) b4
      have g_c0 := fun x => carry ((hK.below x)) c0
      have g_c1 := fun x => carry ((hK.below x)) c1
      simp only [List.take_succ_cons, List.take_zero, List.drop_succ_cons, List.drop_zero]
      repeat (go_big_quiet_step ((first | (go_at_call 36; with_reducible exact met_same (hk.out.2.2.1 _)) | (go_at_call 35; with_reducible exact met_made (hk.out.2.2.2.2.1 _)) | (go_at_call 37; with_reducible exact met_made (hk.out.2.2.2.2.2.2 _)))))
      refine wpQuiet_nil ?_
      intro wq hw'
      have hbq := kept_in hK hw'
      clear g_b2 g_b3 g_b4 g_c0 g_c1
      clear hw' hK W
      replace b2 := carry (hbq) b2
      replace b3 := carry (hbq) b3
      replace b4 := carry (hbq) b4
      replace c0 := carry (hbq) c0
      replace c1 := carry (hbq) c1
      have D6 := Lib.hid (D5.out.carry hbq)
      have hb6 := Lib.hid (below_step hb5.out hbq)
      have cf := mo_frozen D6.out.b
      clear hbq b4 c0 c1
      go_wp2_with fail
      go_meet
      exact ⟨rfl, rfl, D6.out.velB _ _, (hb6.out.setCell (p := ⟨w.heap.size + 1, 2, none⟩) (Nat.le_succ _) _).setCell (p := ⟨w.heap.size + 1, 3, none⟩) (Nat.le_succ _) _⟩
    · have hJ0 : J = 0 := by rw [hJ'.out]; unfold rj; rw [if_neg hv]
      have hJ0' := Lib.hid hJ0
      clear hJ0
      go_wp2_with fail
      go_meet
      have hJ0 := hJ0'.out
      rw [hJ0, zero_rfv, zero_rfv, rsc_zero, rsc_zero]
      simp only [Int.sub_zero, Int.add_zero]
      exact ⟨trivial, trivial, D3.out, hb3.out⟩
  obtain ⟨rfl, rfl, D5, hb5⟩ := hcut
  obtain ⟨V5, hV5⟩ : ∃ V, V = wc := ⟨wc, rfl⟩
  subst hV5
  have D5' := Lib.hid D5
  have hb5' := Lib.hid hb5
  clear D5 hb5 D3 hb3
  have hRR := hR'.out
  rw [← hJ'.out] at hRR
  have hRR' := Lib.hid hRR
  clear hRR
  have k1 := fun w => refMulDiv_any d a.m (a.m + b.m) w hF.out.da.1 hF.out.da.2
  have k2 := fun w => refMulDiv_any d b.m (a.m + b.m) w hF.out.db.1 hF.out.db.2
  have k3 := fun w => refScale_any n0 n1 (rfp d a.m (a.m + b.m)) w (by unfold Bd; omega) (by unfold Bd; omega) hF.out.pa
  have k4 := fun w => refScale_any n0 n1 (rfp d b.m (a.m + b.m)) w (by unfold Bd; omega) (by unfold Bd; omega) hF.out.pb
  have k5 := fun w => refSub_any a.p0 a.p1 (rsc n0 (rfp d a.m (a.m + b.m))) (rsc n1 (rfp d a.m (a.m + b.m))) w (by have := hdom.out.1.p0; unfold Bd; omega) (by have := hdom.out.1.p1; unfold Bd; omega) (by have := hF.out.x0; unfold Bd; omega) (by have := hF.out.x1; unfold Bd; omega)
  have k6 := fun w => refAdd_any b.p0 b.p1 (rsc n0 (rfp d b.m (a.m + b.m))) (rsc n1 (rfp d b.m (a.m + b.m))) w (by have := hdom.out.2.p0; unfold Bd; omega) (by have := hdom.out.2.p1; unfold Bd; omega) (by have := hF.out.y0; unfold Bd; omega) (by have := hF.out.y1; unfold Bd; omega)
  rw [show flr (d * a.m) (a.m + b.m) = rfp d a.m (a.m + b.m) from rfl] at k1
  rw [show flr (d * b.m) (a.m + b.m) = rfp d b.m (a.m + b.m) from rfl] at k2
  rw [show flr (n0 * rfp d a.m (a.m + b.m)) 1024 = rsc n0 (rfp d a.m (a.m + b.m)) from rfl, show flr (n1 * rfp d a.m (a.m + b.m)) 1024 = rsc n1 (rfp d a.m (a.m + b.m)) from rfl] at k3
  rw [show flr (n0 * rfp d b.m (a.m + b.m)) 1024 = rsc n0 (rfp d b.m (a.m + b.m)) from rfl, show flr (n1 * rfp d b.m (a.m + b.m)) 1024 = rsc n1 (rfp d b.m (a.m + b.m)) from rfl] at k4
  have k7 := fun w => refClampM_any { { a with v0 := a.v0 - rsc n0 (rfv J a.m), v1 := a.v1 - rsc n1 (rfv J a.m) } with p0 := a.p0 - rsc n0 (rfp d a.m (a.m + b.m)), p1 := a.p1 - rsc n1 (rfp d a.m (a.m + b.m)) } w
  have k8 := fun w => refClampM_any { { b with v0 := b.v0 + rsc n0 (rfv J b.m), v1 := b.v1 + rsc n1 (rfv J b.m) } with p0 := b.p0 + rsc n0 (rfp d b.m (a.m + b.m)), p1 := b.p1 + rsc n1 (rfp d b.m (a.m + b.m)) } w
  simp only at k7 k8
  have hk := Lib.hid (And.intro k1 (And.intro k2 (And.intro k3 (And.intro k4 (And.intro k5 (And.intro k6 (And.intro k7 k8)))))))
  clear k1 k2 k3 k4 k5 k6 k7 k8
  have hrs := Lib.hid (And.intro hF.out.x0 (And.intro hF.out.x1 (And.intro hF.out.y0 hF.out.y1)))
  generalize rfp d a.m (a.m + b.m) = fa at *
  generalize rfp d b.m (a.m + b.m) = fb at *
  generalize rsc n0 fa = r0 at *
  generalize rsc n1 fa = r1 at *
  generalize rsc n0 fb = s0 at *
  generalize rsc n1 fb = s1 at *
  generalize a.v0 - rsc n0 (rfv J a.m) = av0 at *
  generalize a.v1 - rsc n1 (rfv J a.m) = av1 at *
  generalize b.v0 + rsc n0 (rfv J b.m) = bv0 at *
  generalize b.v1 + rsc n1 (rfv J b.m) = bv1 at *
  go_upto_region 9 with fail
  obtain ⟨a0, a1, -, -, a4⟩ := mo_cells D5'.out.a
  obtain ⟨c0, c1, c2⟩ := con_cells D5'.out.c
  simp only at a0 a1 a4
  refine wp_region_tail 13 (by kernel_rfl) (by kernel_rfl) ?_
  intro W hK
  have g_a0 := fun x => carry ((hK.below x)) a0
  have g_a1 := fun x => carry ((hK.below x)) a1
  have g_a4 := fun x => carry ((hK.below x)) a4
  have g_c0 := fun x => carry ((hK.below x)) c0
  have g_c1 := fun x => carry ((hK.below x)) c1
  have g_c2 := fun x => carry ((hK.below x)) c2
  simp only [List.take_succ_cons, List.take_zero, List.drop_succ_cons, List.drop_zero]
  repeat (go_big_quiet_step ((first | (go_at_call 34; with_reducible exact met_same (hk.out.1 _)) | (go_at_call 35; with_reducible exact met_made (hk.out.2.2.1 _)) | (go_at_call 33; with_reducible exact met_made (hk.out.2.2.2.2.1 _)))))
  refine wpQuiet_nil ?_
  intro wq hw'
  have hbq := kept_in hK hw'
  clear g_a0 g_a1 g_a4 g_c0 g_c1 g_c2
  clear hw' hK W
  replace a0 := carry (hbq) a0
  replace a1 := carry (hbq) a1
  replace a4 := carry (hbq) a4
  replace c0 := carry (hbq) c0
  replace c1 := carry (hbq) c1
  replace c2 := carry (hbq) c2
  have D6 := Lib.hid (D5'.out.carry hbq)
  have hb6 := Lib.hid (below_step hb5'.out hbq)
  have cf := mo_frozen D6.out.a
  clear hbq a4 c0 c1 c2 D5' hb5'
  go_upto_region 10 with fail
  have D7 := Lib.hid (D6.out.posA (a.p0 - r0) (a.p1 - r1))
  have hb7 := Lib.hid ((hb6.out.setCell (p := ⟨w.heap.size, 0, none⟩) (Nat.le_refl _) (.int .i64 (a.p0 - r0))).setCell (p := ⟨w.heap.size, 1, none⟩) (Nat.le_refl _) (.int .i64 (a.p1 - r1)))
  clear a0 a1 cf D6 hb6
  generalize (wq.setCell ⟨w.heap.size, 0, none⟩ (.int .i64 (a.p0 - r0))).setCell ⟨w.heap.size, 1, none⟩ (.int .i64 (a.p1 - r1)) = V7 at *
  obtain ⟨b0, b1, -, -, b4⟩ := mo_cells D7.out.b
  obtain ⟨c0, c1, c2⟩ := con_cells D7.out.c
  simp only at b0 b1 b4
  refine wp_region_tail 13 (by kernel_rfl) (by kernel_rfl) ?_
  intro W hK
  have g_b0 := fun x => carry ((hK.below x)) b0
  have g_b1 := fun x => carry ((hK.below x)) b1
  have g_b4 := fun x => carry ((hK.below x)) b4
  have g_c0 := fun x => carry ((hK.below x)) c0
  have g_c1 := fun x => carry ((hK.below x)) c1
  have g_c2 := fun x => carry ((hK.below x)) c2
  simp only [List.take_succ_cons, List.take_zero, List.drop_succ_cons, List.drop_zero]
  repeat (go_big_quiet_step ((first | (go_at_call 34; with_reducible exact met_same (hk.out.2.1 _)) | (go_at_call 35; with_reducible exact met_made (hk.out.2.2.2.1 _)) | (go_at_call 37; with_reducible exact met_made (hk.out.2.2.2.2.2.1 _)))))
  refine wpQuiet_nil ?_
  intro wq hw'
  have hbq := kept_in hK hw'
  clear g_b0 g_b1 g_b4 g_c0 g_c1 g_c2
  clear hw' hK W
  replace b0 := carry (hbq) b0
  replace b1 := carry (hbq) b1
  replace b4 := carry (hbq) b4
  replace c0 := carry (hbq) c0
  replace c1 := carry (hbq) c1
  replace c2 := carry (hbq) c2
  have D8 := Lib.hid (D7.out.carry hbq)
  have hb8 := Lib.hid (below_step hb7.out hbq)
  have cf := mo_frozen D8.out.b
  clear hbq b4 c0 c1 c2 D7 hb7
  go_upto_region 11 with fail
  have D9 := Lib.hid (D8.out.posB (b.p0 + s0) (b.p1 + s1))
  have hb9 := Lib.hid ((hb8.out.setCell (p := ⟨w.heap.size + 1, 0, none⟩) (Nat.le_succ _) (.int .i64 (b.p0 + s0))).setCell (p := ⟨w.heap.size + 1, 1, none⟩) (Nat.le_succ _) (.int .i64 (b.p1 + s1)))
  clear b0 b1 cf D8 hb8
  generalize (wq.setCell ⟨w.heap.size + 1, 0, none⟩ (.int .i64 (b.p0 + s0))).setCell ⟨w.heap.size + 1, 1, none⟩ (.int .i64 (b.p1 + s1)) = V9 at *
  obtain ⟨a0, a1, a2, a3, a4⟩ := mo_cells D9.out.a
  obtain ⟨b0, b1, b2, b3, b4⟩ := mo_cells D9.out.b
  simp only at a0 a1 a2 a3 a4 b0 b1 b2 b3 b4
  refine wp_region_tail 4 (by kernel_rfl) (by kernel_rfl) ?_
  intro W hK
  have g_a0 := fun x => carry ((hK.below x)) a0
  have g_a1 := fun x => carry ((hK.below x)) a1
  have g_a2 := fun x => carry ((hK.below x)) a2
  have g_a3 := fun x => carry ((hK.below x)) a3
  have g_a4 := fun x => carry ((hK.below x)) a4
  have g_b0 := fun x => carry ((hK.below x)) b0
  have g_b1 := fun x => carry ((hK.below x)) b1
  have g_b2 := fun x => carry ((hK.below x)) b2
  have g_b3 := fun x => carry ((hK.below x)) b3
  have g_b4 := fun x => carry ((hK.below x)) b4
  simp only [List.take_succ_cons, List.take_zero, List.drop_succ_cons, List.drop_zero]
  repeat (go_big_quiet_step ((first | (go_at_call 38; with_reducible exact met_made (hk.out.2.2.2.2.2.2.1 _)) | (go_at_call 38; with_reducible exact met_made (hk.out.2.2.2.2.2.2.2 _)))))
  refine wpQuiet_nil ?_
  intro wq hw'
  have hbq := kept_in hK hw'
  clear g_a0 g_a1 g_a2 g_a3 g_a4 g_b0 g_b1 g_b2 g_b3 g_b4
  clear hw' hK W
  replace a0 := carry (hbq) a0
  replace a1 := carry (hbq) a1
  replace a2 := carry (hbq) a2
  replace a3 := carry (hbq) a3
  replace a4 := carry (hbq) a4
  replace b0 := carry (hbq) b0
  replace b1 := carry (hbq) b1
  replace b2 := carry (hbq) b2
  replace b3 := carry (hbq) b3
  replace b4 := carry (hbq) b4
  have D10 := Lib.hid (D9.out.carry hbq)
  have hb10 := Lib.hid (below_step hb9.out hbq)
  clear hbq a0 a1 a2 a3 a4 b0 b1 b2 b3 b4 hk D9 hb9
  obtain ⟨x0, x1, x2, x3, x4⟩ := mo_cells D10.out.x
  obtain ⟨y0, y1, y2, y3, y4⟩ := mo_cells D10.out.y
  have xf := mo_frozen D10.out.x
  have yf := mo_frozen D10.out.y
  go_wp2
  obtain ⟨rfl, rfl⟩ := hRR'.out
  refine bodyPost_ret (v := .tuple #[.agg #[.int .i64 (cp (a.p0 - r0)), .int .i64 (cp (a.p1 - r1)), .int .i64 (cv av0), .int .i64 (cv av1), .int .i64 a.m], .agg #[.int .i64 (cp (b.p0 + s0)), .int .i64 (cp (b.p1 + s1)), .int .i64 (cv bv0), .int .i64 (cv bv1), .int .i64 b.m]]) (by simp [results, Try.results13, go_sem, x0, x1, x2, x3, x4, y0, y1, y2, y3, y4, xf, yf]) rfl ⟨rfl, ?_⟩
  repeat (first | with_reducible exact hb10.out | with_reducible (refine Below.drew ?_) | with_reducible (refine Below.setCell ?_ (by simp only; omega) _))

/-- The reference's Resolve, whatever the motions. -/
theorem refResolve_any (a b : Mo) (n0 n1 d e : Int) (w : World) (ha : a.Dom) (hb : b.Dom) (hn0 : -1024 ≤ n0 ∧ n0 ≤ 1024) (hn1 : -1024 ≤ n1 ∧ n1 ≤ 1024) (hd : 0 ≤ d ∧ d ≤ 1048576) (he : 0 ≤ e ∧ e ≤ 1024) (RA RB : Mo) (hRA : resA a b n0 n1 d e = RA) (hRB : resB a b n0 n1 d e = RB) :
    Calls Try.prog 13 #[.agg #[.int .i64 a.p0, .int .i64 a.p1, .int .i64 a.v0, .int .i64 a.v1, .int .i64 a.m], .agg #[.int .i64 b.p0, .int .i64 b.p1, .int .i64 b.v0, .int .i64 b.v1, .int .i64 b.m], .agg #[.int .i64 n0, .int .i64 n1, .int .i64 d], .int .i64 e] w fun E w' =>
      E = .returned (.tuple #[.agg #[.int .i64 RA.p0, .int .i64 RA.p1, .int .i64 RA.v0, .int .i64 RA.v1, .int .i64 RA.m], .agg #[.int .i64 RB.p0, .int .i64 RB.p1, .int .i64 RB.v0, .int .i64 RB.v1, .int .i64 RB.m]]) ∧ Below w.heap.size w w' := by
  by_cases ht : a.m + b.m = 0
  · rw [resA_none ht] at hRA
    rw [resB_none ht] at hRB
    subst hRA hRB
    exact refResolve_none a b n0 n1 d e w ha hb ht
  · exact refResolve_some a b n0 n1 d e w ha hb ht hn0 hn1 hd he RA RB hRA hRB
end Go.Proofs.Ytihoanoanoaneaa
