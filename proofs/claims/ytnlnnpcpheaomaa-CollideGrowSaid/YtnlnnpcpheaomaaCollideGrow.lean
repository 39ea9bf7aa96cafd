/-
  package collide, P5.3: for all circles and all generated shapes, at all generated positions, a circle that collides still does with a larger radius, and Depth does not decrease; and the section's example holds; whatever the arguments are.
-/
import Derived.Test.YtnlnnpcpheaomaaRows
import Derived.WalkKit
import Derived.ProofKit
import Derived.OpenShut
import Derived.Test.YtnlnnpcpheaomaaLawKit
import Derived.Test.YtnlnnpcpheaomaaCollN
import Derived.WalkLawsBesides
import Derived.Deep.DeepCutAuto
import Derived.Deep.CutBlock
namespace Go.Proofs.Ytnlnnpcpheaomaa.collideGrow
open Go.ChangeShapes Go.WideShapes Go.ChangeAt Go.RowKit
set_option linter.unusedVariables false
set_option linter.unusedSimpArgs false

open Fxm
theorem own : ownKnob Try.prog.godebug = none := by kernel_rfl

set_option maxRecDepth 100000 in
set_option maxHeartbeats 8000000 in
theorem walk (a0 : Int) (w0 : (Lit.int .i64 a0).wf = true) (a1 : Int) (w1 : (Lit.int .i64 a1).wf = true) (a2 : Int) (w2 : (Lit.int .i64 a2).wf = true) (a3_0 : Int) (a3_1 : Int) (a3_2 : Int) (a3_3 : Int) (w3_0 : (Lit.int .i64 a3_0).wf = true) (w3_1 : (Lit.int .i64 a3_1).wf = true) (w3_2 : (Lit.int .i64 a3_2).wf = true) (w3_3 : (Lit.int .i64 a3_3).wf = true) (w : World) :
    Calls Try.prog 7 #[.int .i64 a0, .int .i64 a1, .int .i64 a2, .agg #[.int .i64 a3_0, .int .i64 a3_1, .int .i64 a3_2, .int .i64 a3_3]] w fun e w' => e = .returned (.bool true) ∧ Below w.heap.size w w' := by
  obtain ⟨b1, b2⟩ := wf64 w0
  obtain ⟨b3, b4⟩ := wf64 w1
  have t3 : -9223372036854775808 ≤ a0.tdiv 3 ∧ a0.tdiv 3 ≤ 9223372036854775807 := by
    by_cases hm : a0 = -9223372036854775808
    · subst hm; decide
    · have := tdiv_bd a0 3 9223372036854775807 (by omega) (by omega)
      omega
  go_enter Try.func7, Try.ntmps7
  go_wp2_with fail
  obtain ⟨u0, hu0⟩ : ∃ u0, u0 = w.alloc (.cells #[.int .i64 a3_0, .int .i64 a3_1, .int .i64 a3_2, .int .i64 a3_3] 22) := ⟨_, rfl⟩
  have hB : Below w.heap.size w u0 := by rw [hu0]; exact alloc_below _ _
  have l0 : u0.cell? ⟨w.heap.size, 0, none⟩ = some (.int .i64 a3_0) := by rw [hu0]; simp [go_sem]
  have l1 : u0.cell? ⟨w.heap.size, 1, none⟩ = some (.int .i64 a3_1) := by rw [hu0]; simp [go_sem]
  have l2 : u0.cell? ⟨w.heap.size, 2, none⟩ = some (.int .i64 a3_2) := by rw [hu0]; simp [go_sem]
  have l3 : u0.cell? ⟨w.heap.size, 3, none⟩ = some (.int .i64 a3_3) := by rw [hu0]; simp [go_sem]
  rw [← hu0]
  clear hu0
  refine (aroundx_any a0 30000 _ b1 b2 (by omega)).mono ?_
  rintro e y0 ⟨⟨x1, hx1, hx2, rfl⟩, hy0⟩
  subst hy0
  go_wp2_with fail
  refine (aroundx_any a0 3 _ b1 b2 (by omega)).mono ?_
  rintro e y0 ⟨⟨x3, hx3, hx4, rfl⟩, hy0⟩
  subst hy0
  go_upto_if 24 with fail
  go_cut [9] (fun v W => (∃ R : Int, v = .int .i64 R ∧ 1 ≤ R ∧ R ≤ 30000) ∧ W = u0)
  case first =>
    by_cases h3 : x3 = 0
    · subst h3
      go_wp2_with fail
      refine (aroundx_any (a0.tdiv 3) 60 _ t3.1 t3.2 (by omega)).mono ?_
      rintro e y0 ⟨⟨x5, hx5, hx6, rfl⟩, hy0⟩
      subst hy0
      go_wp2_with fail
      go_meet
      exact ⟨⟨_, rfl, by omega, by omega⟩, rfl⟩
    · go_wp2_with fail
      go_meet
      exact ⟨⟨_, rfl, by omega, by omega⟩, rfl⟩
  obtain ⟨⟨R, hR, hR1, hR2⟩, hW⟩ := hcut
  obtain ⟨u1, hV⟩ : ∃ V, V = wc := ⟨wc, rfl⟩
  subst hV
  subst hR
  subst hW
  clear hx1 hx2 hx3 hx4 b1 b2 t3
  go_upto_region 5 with fail
  have sA0 := World.cell?_alloc_new (w := u1) #[.int .i64 (R), .slice none 0 0] 25 0
  have sA1 := World.cell?_alloc_new (w := u1) #[.int .i64 (R), .slice none 0 0] 25 1
  simp only [List.getElem?_toArray, List.getElem?_cons_zero, List.getElem?_cons_succ] at sA0 sA1
  have hb1 := alloc_below u1 (.cells #[.int .i64 (R), .slice none 0 0] 25)
  generalize u1.alloc (.cells #[.int .i64 (R), .slice none 0 0] 25) = v1 at *
  replace l0 := carry (hb1) l0
  replace l1 := carry (hb1) l1
  replace l2 := carry (hb1) l2
  replace l3 := carry (hb1) l3
  replace hB := below_step hB hb1
  clear hb1
  go_wp2_with fail
  refine (aroundx_any a1 2769 _ b3 b4 (by omega)).mono ?_
  rintro e y0 ⟨⟨y, hy1, hy2, rfl⟩, hy0⟩
  subst hy0
  go_upto_region 6 with fail
  have sG0 := World.cell?_alloc_new (w := v1) #[.int .i64 (R + y), .slice none 0 0] 25 0
  have sG1 := World.cell?_alloc_new (w := v1) #[.int .i64 (R + y), .slice none 0 0] 25 1
  simp only [List.getElem?_toArray, List.getElem?_cons_zero, List.getElem?_cons_succ] at sG0 sG1
  have hb1 := alloc_below v1 (.cells #[.int .i64 (R + y), .slice none 0 0] 25)
  generalize v1.alloc (.cells #[.int .i64 (R + y), .slice none 0 0] 25) = v2 at *
  replace l0 := carry (hb1) l0
  replace l1 := carry (hb1) l1
  replace l2 := carry (hb1) l2
  replace l3 := carry (hb1) l3
  replace sA0 := carry (hb1) sA0
  replace sA1 := carry (hb1) sA1
  replace hB := below_step hB hb1
  clear hb1
  go_wp2_with fail
  refine (shapes_any _ _ w2).mono ?_
  rintro e u2 ⟨t, rfl, ht, hb1⟩
  replace l0 := carry (hb1) l0
  replace l1 := carry (hb1) l1
  replace l2 := carry (hb1) l2
  replace l3 := carry (hb1) l3
  replace sA0 := carry (hb1) sA0
  replace sA1 := carry (hb1) sA1
  replace sG0 := carry (hb1) sG0
  replace sG1 := carry (hb1) sG1
  replace hB := below_step hB hb1
  clear hb1
  go_upto_region 7 with fail
  have tA0 := World.cell?_alloc_new (w := u2) #[.int .i64 t.r, .slice t.a t.n t.cap] 25 0
  have tA1 := World.cell?_alloc_new (w := u2) #[.int .i64 t.r, .slice t.a t.n t.cap] 25 1
  simp only [List.getElem?_toArray, List.getElem?_cons_zero, List.getElem?_cons_succ] at tA0 tA1
  have hb1 := alloc_below u2 (.cells #[.int .i64 t.r, .slice t.a t.n t.cap] 25)
  generalize u2.alloc (.cells #[.int .i64 t.r, .slice t.a t.n t.cap] 25) = v3 at *
  replace l0 := carry (hb1) l0
  replace l1 := carry (hb1) l1
  replace l2 := carry (hb1) l2
  replace l3 := carry (hb1) l3
  replace sA0 := carry (hb1) sA0
  replace sA1 := carry (hb1) sA1
  replace sG0 := carry (hb1) sG0
  replace sG1 := carry (hb1) sG1
  replace hB := below_step hB hb1
  replace ht := ht.carry hb1
  clear hb1
  have hsR : ∀ w, Sh w (.c R) := fun w => ⟨hR1, by omega⟩
  have hsG : ∀ w, Sh w (.c (R + y)) := fun w => ⟨by omega, by omega⟩
  have kp := fun w (h : Sh w t) => place_any (.c R) t a3_0 a3_1 a3_2 a3_3 w (hsR w) h w3_0 w3_1 w3_2 w3_3
  simp only [Sp.r, Sp.a, Sp.n, Sp.cap] at kp
  go_wp2_with fail
  refine (kp _ ht).mono ?_
  rintro e u3 ⟨⟨p0, p1, q0, q1, ⟨bp0, bp1, bq0, bq1⟩, rfl⟩, hb1⟩
  replace sA0 := carry (hb1) sA0
  replace sA1 := carry (hb1) sA1
  replace sG0 := carry (hb1) sG0
  replace sG1 := carry (hb1) sG1
  replace tA0 := carry (hb1) tA0
  replace tA1 := carry (hb1) tA1
  replace hB := below_step hB hb1
  replace ht := ht.carry hb1
  clear hb1 l0 l1 l2 l3
  go_upto_region 8 with fail
  have hb1 := below_step (alloc_below u3 (.cells #[.int .i64 p0, .int .i64 p1] 28)) (alloc_below _ (.cells #[.int .i64 q0, .int .i64 q1] 28))
  have vp0 : ((u3.alloc (.cells #[.int .i64 p0, .int .i64 p1] 28)).alloc (.cells #[.int .i64 q0, .int .i64 q1] 28)).cell? ⟨u3.heap.size, 0, none⟩ = some (.int .i64 p0) := by simp [go_sem]
  have vp1 : ((u3.alloc (.cells #[.int .i64 p0, .int .i64 p1] 28)).alloc (.cells #[.int .i64 q0, .int .i64 q1] 28)).cell? ⟨u3.heap.size, 1, none⟩ = some (.int .i64 p1) := by simp [go_sem]
  have vq0 : ((u3.alloc (.cells #[.int .i64 p0, .int .i64 p1] 28)).alloc (.cells #[.int .i64 q0, .int .i64 q1] 28)).cell? ⟨u3.heap.size + 1, 0, none⟩ = some (.int .i64 q0) := by simp [go_sem]
  have vq1 : ((u3.alloc (.cells #[.int .i64 p0, .int .i64 p1] 28)).alloc (.cells #[.int .i64 q0, .int .i64 q1] 28)).cell? ⟨u3.heap.size + 1, 1, none⟩ = some (.int .i64 q1) := by simp [go_sem]
  replace sA0 := carry (hb1) sA0
  replace sA1 := carry (hb1) sA1
  replace sG0 := carry (hb1) sG0
  replace sG1 := carry (hb1) sG1
  replace tA0 := carry (hb1) tA0
  replace tA1 := carry (hb1) tA1
  replace hB := below_step hB hb1
  generalize (u3.alloc (.cells #[.int .i64 p0, .int .i64 p1] 28)).alloc (.cells #[.int .i64 q0, .int .i64 q1] 28) = v4 at *
  have ep0 : Be p0 := be_of (by omega) (by omega)
  have ep1 : Be p1 := be_of (by omega) (by omega)
  have eq0 : Be q0 := be_of (by omega) (by omega)
  have eq1 : Be q1 := be_of (by omega) (by omega)
  replace ht := Lib.hid (ht.carry hb1)
  clear hb1
  have kc := fun w (h : Sh w t) => col_any (.c R) t p0 p1 q0 q1 w (hsR w) h ep0 ep1 eq0 eq1
  have kd := fun w (h : Sh w t) => col_any (.c (R + y)) t p0 p1 q0 q1 w (hsG w) h ep0 ep1 eq0 eq1
  have hg := grow_col (r := R) (r' := R + y) (by omega) (t := t) (p := (p0, p1)) (q := (q0, q1)) (ndir_pos (w := v4) (hsR v4))
  simp only [Sp.r, Sp.a, Sp.n, Sp.cap] at kc kd
  generalize colB (.c R) t (p0, p1) (q0, q1) = cb at *
  generalize colB (.c (R + y)) t (p0, p1) (q0, q1) = db at *
  generalize (colN (.c R) t (p0, p1) (q0, q1)).1 = c0 at *
  generalize (colN (.c R) t (p0, p1) (q0, q1)).2.1 = c1 at *
  generalize (colN (.c R) t (p0, p1) (q0, q1)).2.2 = c2 at *
  generalize (colN (.c (R + y)) t (p0, p1) (q0, q1)).1 = d0 at *
  generalize (colN (.c (R + y)) t (p0, p1) (q0, q1)).2.1 = d1 at *
  generalize (colN (.c (R + y)) t (p0, p1) (q0, q1)).2.2 = d2 at *
  have hkk := Lib.hid (And.intro kc kd)
  have hg' := Lib.hid hg
  generalize R + y = G at *
  clear kc kd kp hg hsR hsG bp0 bp1 bq0 bq1 ep0 ep1 eq0 eq1 hR1 hR2 hy1 hy2 b3 b4
  go_wp2_with fail
  refine (hkk.out.1 _ ht.out).mono ?_
  rintro e u4 ⟨rfl, hb1⟩
  replace sA0 := carry (hb1) sA0
  replace sA1 := carry (hb1) sA1
  replace sG0 := carry (hb1) sG0
  replace sG1 := carry (hb1) sG1
  replace tA0 := carry (hb1) tA0
  replace tA1 := carry (hb1) tA1
  replace vp0 := carry (hb1) vp0
  replace vp1 := carry (hb1) vp1
  replace vq0 := carry (hb1) vq0
  replace vq1 := carry (hb1) vq1
  replace hB := below_step hB hb1
  replace ht := Lib.hid (ht.out.carry hb1)
  clear hb1
  go_upto_region 9 with fail
  have vc0 := World.cell?_alloc_new (w := u4) #[.int .i64 (c0), .int .i64 (c1), .int .i64 (c2)] 34 0
  have vc1 := World.cell?_alloc_new (w := u4) #[.int .i64 (c0), .int .i64 (c1), .int .i64 (c2)] 34 1
  have vc2 := World.cell?_alloc_new (w := u4) #[.int .i64 (c0), .int .i64 (c1), .int .i64 (c2)] 34 2
  simp only [List.getElem?_toArray, List.getElem?_cons_zero, List.getElem?_cons_succ] at vc0 vc1 vc2
  have hb1 := alloc_below u4 (.cells #[.int .i64 (c0), .int .i64 (c1), .int .i64 (c2)] 34)
  generalize u4.alloc (.cells #[.int .i64 (c0), .int .i64 (c1), .int .i64 (c2)] 34) = v5 at *
  replace sA0 := carry (hb1) sA0
  replace sA1 := carry (hb1) sA1
  replace sG0 := carry (hb1) sG0
  replace sG1 := carry (hb1) sG1
  replace tA0 := carry (hb1) tA0
  replace tA1 := carry (hb1) tA1
  replace vp0 := carry (hb1) vp0
  replace vp1 := carry (hb1) vp1
  replace vq0 := carry (hb1) vq0
  replace vq1 := carry (hb1) vq1
  replace hB := below_step hB hb1
  replace ht := Lib.hid (ht.out.carry hb1)
  clear hb1
  go_wp2_with fail
  refine (hkk.out.2 _ ht.out).mono ?_
  rintro e u5 ⟨rfl, hb1⟩
  replace vc0 := carry (hb1) vc0
  replace vc1 := carry (hb1) vc1
  replace vc2 := carry (hb1) vc2
  replace hB := below_step hB hb1
  clear hb1 sA0 sA1 sG0 sG1 tA0 tA1 vp0 vp1 vq0 vq1
  go_upto_region 10 with fail
  have vd0 := World.cell?_alloc_new (w := u5) #[.int .i64 (d0), .int .i64 (d1), .int .i64 (d2)] 34 0
  have vd1 := World.cell?_alloc_new (w := u5) #[.int .i64 (d0), .int .i64 (d1), .int .i64 (d2)] 34 1
  have vd2 := World.cell?_alloc_new (w := u5) #[.int .i64 (d0), .int .i64 (d1), .int .i64 (d2)] 34 2
  simp only [List.getElem?_toArray, List.getElem?_cons_zero, List.getElem?_cons_succ] at vd0 vd1 vd2
  have hb1 := alloc_below u5 (.cells #[.int .i64 (d0), .int .i64 (d1), .int .i64 (d2)] 34)
  generalize u5.alloc (.cells #[.int .i64 (d0), .int .i64 (d1), .int .i64 (d2)] 34) = v6 at *
  replace vc0 := carry (hb1) vc0
  replace vc1 := carry (hb1) vc1
  replace vc2 := carry (hb1) vc2
  replace hB := below_step hB hb1
  clear hb1
  rcases hg'.out with hcb | ⟨hcb, hdb, hle⟩
  · subst hcb
    go_wp2_with fail
    refine (lives5_any _).mono ?_
    rintro e u6 ⟨rfl, hb1⟩
    go_wp2
    go_ret
    exact ⟨rfl, below_step hB hb1⟩
  · subst hcb
    subst hdb
    have h1 : decide (c2 ≤ d2) = true := decide_eq_true hle
    go_wp2_with fail
    refine (lives5_any _).mono ?_
    rintro e u6 ⟨rfl, hb1⟩
    go_wp2
    go_ret
    exact ⟨rfl, below_step hB hb1⟩

set_option maxRecDepth 100000 in
theorem lifted (os : Os) (started : os.Started) (H : Type) (enc : TypeId × Value → H) :
    ReturnsInHanded {} Try.checked os 7 .any (Rows.collideGrowSpec.pre6 enc Try.prog Try.f7 Rows.collideGrowRow.domain false) (Rows.collideGrowSpec.post enc Try.prog Try.f7 false true false false) := by
  refine returnsInHanded_of_change (C := Try.checked) own started (by kernel_rfl) Try.func7
    (ChangeSpec.witness6 (enc := enc) (C := Try.checked) false ⟨#[], #[.int .i64 0, .int .i64 0, .int .i64 0, .agg #[.int .i64 0, .int .i64 0, .int .i64 0, .int .i64 0]], []⟩ 8 (by kernel_rfl) (by kernel_rfl) (by kernel_rfl) (by kernel_rfl)) ?_
  intro W base args ds gs before hval0 hW hcnd _
  have hval : ∀ (j : Nat) t v, Try.f7.params[j]? = some t → args[j]? = some v → Value.okWide Try.prog W .any base t v := hval0
  have hW' := hW
  obtain ⟨p, q, hA0, hV, rfl, hfz, hnd⟩ := hW
  have hA : DataW.TrodAll enc Try.prog W 0 (fun _ => true) true Try.f7.params.toList args.toList ds p := hA0
  rw [Try.params7] at hA hval
  obtain ⟨v0, vs0, d0, ds0, p0, q0, hargs, rfl, rfl, h0, r0⟩ := trodAll_cons hA
  obtain ⟨v1, vs1, d1, ds1, p1, q1, rfl, rfl, rfl, h1, r1⟩ := trodAll_cons r0
  obtain ⟨v2, vs2, d2, ds2, p2, q2, rfl, rfl, rfl, h2, r2⟩ := trodAll_cons r1
  obtain ⟨v3, vs3, d3, ds3, p3, q3, rfl, rfl, rfl, h3, r3⟩ := trodAll_cons r2
  obtain ⟨rfl, rfl, rfl⟩ := trodAll_nil r3
  obtain rfl : args = #[v0, v1, v2, v3] := by cases args; simp_all
  obtain ⟨rfl, rfl⟩ := trodVars_none hV
  obtain ⟨a0, rfl, rfl, rfl, w0⟩ := open_int Try.underlying3 (hval 0 3 v0 rfl rfl) h0
  obtain ⟨a1, rfl, rfl, rfl, w1⟩ := open_int Try.underlying3 (hval 1 3 v1 rfl rfl) h1
  obtain ⟨a2, rfl, rfl, rfl, w2⟩ := open_int Try.underlying3 (hval 2 3 v2 rfl rfl) h2
  obtain ⟨z3, l3, e3, rfl, rfl, y3⟩ := open_arr Try.underlying22 Try.underlying3 (by kernel_rfl) (by kernel_rfl) (hval 3 22 v3 rfl rfl) h3
  obtain ⟨a3_0, a3_1, a3_2, a3_3, rfl⟩ := list4 l3
  simp only [List.map_cons, List.map_nil] at e3
  subst e3
  clear hA0 hval0
  simp only [List.append_nil] at hW'
  refine (walk a0 w0 a1 w1 a2 w2 a3_0 a3_1 a3_2 a3_3 (y3 _ (by simp)) (y3 _ (by simp)) (y3 _ (by simp)) (y3 _ (by simp)) W).mono fun e W' ⟨he, hb⟩ => ?_
  subst he
  exact ⟨_, rfl, kept_post (pa := []) hW' (fun _ _ _ => (trodAll_cons_mk (shut_bool Try.underlying4 _) trodAll_mk0)) (fun sp _ => (trodAll_cons_mk (shut_int Try.underlying3 w0) (trodAll_cons_mk (shut_int Try.underlying3 w1) (trodAll_cons_mk (shut_int Try.underlying3 w2) (trodAll_cons_mk (shut_arr Try.underlying22 Try.underlying3 (by kernel_rfl) (by kernel_rfl) rfl y3) trodAll_mk0))))) (fun _ => rfl) hb (ok_one (by kernel_rfl) rfl (okWide_bool_mk Try.underlying4 _))⟩

theorem over : Rows.collideGrowRow.holds Try.pinned (OpenSpec.ofChange Rows.collideGrowSpec) :=
  OpenClaim.holds_of_wide 7 Try.f7 rfl rfl rfl rfl rfl rfl rfl ⟨rfl, rfl, rfl, rfl, rfl⟩ rfl rfl rfl rfl rfl (by kernel_rfl) Try.func7 (by kernel_rfl)
    (of_decide_eq_true (by kernel_rfl)) (by unfold Func.isWrapper; first | (rw [if_pos (by decide +kernel)]; kernel_rfl) | (rw [if_neg (by decide +kernel)]; exact ⟨rfl, rfl⟩))
    (fun os started H enc _ => lifted os started H enc)

theorem proved : Rows.CollideGrowSaid :=
  over
#print axioms proved
end Go.Proofs.Ytnlnnpcpheaomaa.collideGrow
