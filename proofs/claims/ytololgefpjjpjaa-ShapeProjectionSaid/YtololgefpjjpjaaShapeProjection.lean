/-
  Proved: arenanetlaw03.ShapeProjection returns true for all seven ints and leaves its arguments as they were. No further condition.
-/
import Derived.Test.YtololgefpjjpjaaRows
import Derived.WalkKit
import Derived.ProofKit
import Derived.OpenShut
import Derived.Test.YtololgefpjjpjaaLawKit
import Derived.Test.YtololgefpjjpjaaShapeL
import Derived.Test.YtololgefpjjpjaaMadeAlloc
namespace Go.Proofs.Ytololgefpjjpjaa.shapeProjection
open Go.ChangeShapes Go.WideShapes Go.ChangeAt Go.RowKit
set_option linter.unusedVariables false
set_option linter.unusedSimpArgs false

open Fxm
theorem own : ownKnob Try.prog.godebug = none := by kernel_rfl

set_option maxHeartbeats 2000000 in
theorem walk (a0 : Int) (w0 : (Lit.int .i64 a0).wf = true) (a1 : Int) (w1 : (Lit.int .i64 a1).wf = true) (a2 : Int) (w2 : (Lit.int .i64 a2).wf = true) (a3 : Int) (w3 : (Lit.int .i64 a3).wf = true) (a4 : Int) (w4 : (Lit.int .i64 a4).wf = true) (a5 : Int) (w5 : (Lit.int .i64 a5).wf = true) (a6 : Int) (w6 : (Lit.int .i64 a6).wf = true) (w : World) :
    Calls Try.prog 7 #[.int .i64 a0, .int .i64 a1, .int .i64 a2, .int .i64 a3, .int .i64 a4, .int .i64 a5, .int .i64 a6] w fun e w' => e = .returned (.bool true) ∧ Below w.heap.size w w' := by
  go_enter Try.func7, Try.ntmps7
  go_wp2_with fail
  refine (shapes_any _ _ w0).mono ?_
  rintro e u1 ⟨s, rfl, hs, hb1⟩
  have hB := hb1
  clear hb1
  go_wp2_with fail
  with_reducible refine (of_any _ _ _ (wrap64_wf _) (wrap64_wf _)).mono ?_
  rintro e u2 ⟨⟨q0, q1, hq0, hq1, rfl⟩, hb2⟩
  have s0 := carry hb2 (a := ⟨u1.heap.size, 0, none⟩) (v := .int .i64 s.r) (by simp)
  have s1 := carry hb2 (a := ⟨u1.heap.size, 1, none⟩) (v := .slice s.a s.n s.cap) (by simp)
  replace hB := below_step (below_step hB (alloc_below _ _)) hb2
  replace hs := (hs.carry (alloc_below _ _)).carry hb2
  clear hb2
  have vq0 : (u2.alloc (.cells #[.int .i64 (q0), .int .i64 (q1)] 34)).cell? ⟨u2.heap.size, 0, none⟩ = some (.int .i64 (q0)) := World.cell?_alloc_new (w := u2) #[.int .i64 (q0), .int .i64 (q1)] 34 0
  have vq1 : (u2.alloc (.cells #[.int .i64 (q0), .int .i64 (q1)] 34)).cell? ⟨u2.heap.size, 1, none⟩ = some (.int .i64 (q1)) := World.cell?_alloc_new (w := u2) #[.int .i64 (q0), .int .i64 (q1)] 34 1
  replace s0 := carry (alloc_below u2 (.cells #[.int .i64 (q0), .int .i64 (q1)] 34)) s0
  replace s1 := carry (alloc_below u2 (.cells #[.int .i64 (q0), .int .i64 (q1)] 34)) s1
  replace hB := below_step hB (alloc_below u2 (.cells #[.int .i64 (q0), .int .i64 (q1)] 34))
  replace hs := hs.carry (alloc_below u2 (.cells #[.int .i64 (q0), .int .i64 (q1)] 34))
  go_wp2_with fail
  generalize u2.alloc (.cells #[.int .i64 (q0), .int .i64 (q1)] 34) = u3 at *
  have hn0 := hs.nx_bd a5
  have hn1 := hs.ny_bd a6
  have k2 := fun w => add_any q0 q1 (s.nx a5) (s.ny a6) w hq0.bd hq1.bd (near_bd hn0) (near_bd hn1)
  have k1 := fun w (h : Sh w s) => h.near a5 a6 w5 w6
  have hp0 := hq0.near hn0
  have hp1 := hq1.near hn1
  generalize s.nx a5 = m0 at *
  generalize s.ny a6 = m1 at *
  have hk := Lib.hid (And.intro k1 k2)
  clear k1 k2
  have hsh := Lib.hid hs
  refine wp_region_alloc_last 6 (some 17) (.cells #[.int .i64 0, .int .i64 0] 34) (by kernel_rfl) (by kernel_rfl) ⟨_, rfl, rfl, fun _ => rfl, fun _ _ => by kernel_rfl⟩ ?_
  apply Exists.intro
  refine ⟨fun W hK E hE => ?_, ?_⟩
  · skip
    have g_s0 := fun x => carry ((hK.below x)) s0
    have g_s1 := fun x => carry ((hK.below x)) s1
    have g_vq0 := fun x => carry ((hK.below x)) vq0
    have g_vq1 := fun x => carry ((hK.below x)) vq1
    simp only [List.take_succ_cons, List.take_zero]
    repeat (go_big_quiet_step ((first | (go_at_call 18; with_reducible exact met_made (hk.out.1 _ (hsh.out.carry (hK.below _)))) | (go_at_call 26; with_reducible exact met_made (hk.out.2 _)))))
    refine wpQuiet_nil ?_
    exact hE
  intro B wq hBB hbq hheap
  simp only [List.drop_succ_cons, List.drop_zero, Act.put, List.setIfInBounds_toArray, List.set_cons_zero, List.set_cons_succ]
  have hstep := (hbq.setCell (p := ⟨B, 0, none⟩) hBB (.int .i64 (q0 + m0))).setCell (p := ⟨B, 1, none⟩) hBB (.int .i64 (q1 + m1))
  replace s0 := carry (hstep) s0
  replace s1 := carry (hstep) s1
  replace vq0 := carry (hstep) vq0
  replace vq1 := carry (hstep) vq1
  have hh := heap_setCell (heap_setCell hheap 0 (.int .i64 (q0 + m0))) 1 (.int .i64 (q1 + m1))
  have vn0 := heap_cell hh 0
  have vn1 := heap_cell hh 1
  simp at vn0 vn1
  have hcB := heap_cell hheap
  have hfB := heap_frozen hheap
  clear hh hheap
  replace hB := below_step hB hstep
  replace hs := hs.carry hstep
  go_wp2_with fail
  generalize (wq.setCell ⟨B, 0, none⟩ (.int .i64 (q0 + m0))).setCell ⟨B, 1, none⟩ (.int .i64 (q1 + m1)) = u7 at *
  obtain ⟨Bp0, hBp0⟩ : ∃ x, x = B := ⟨_, rfl⟩
  rw [← hBp0] at vn0 vn1
  rw [← hBp0]
  clear hcB hfB hstep hbq hBB hsh hk hBp0 wq
  have k1 := hs.contains q0 q1 (q0 + m0) (q1 + m1) hq0.bd hq1.bd hp0 hp1
  rw [pair_eq (show q0 + m0 - q0 = m0 by omega) (show q1 + m1 - q1 = m1 by omega)] at k1
  obtain ⟨c, hc⟩ : ∃ c, c = s.ins (m0, m1) := ⟨_, rfl⟩
  rw [← hc] at k1
  have hc' := Lib.hid hc
  clear hc
  have hP0 := hp0
  have hP1 := hp1
  refine k1.mono ?_
  clear k1
  rintro e u8 ⟨rfl, hb8⟩
  replace s0 := carry (hb8) s0
  replace s1 := carry (hb8) s1
  replace vq0 := carry (hb8) vq0
  replace vq1 := carry (hb8) vq1
  replace vn0 := carry (hb8) vn0
  replace vn1 := carry (hb8) vn1
  replace hB := below_step hB hb8
  replace hs := hs.carry hb8
  clear hb8
  cases c with
  | false =>
    go_wp2_with fail
    refine (lives3_any _).mono ?_
    rintro e u9 ⟨rfl, hb9⟩
    go_wp2
    go_ret
    exact ⟨rfl, below_step hB hb9⟩
  | true =>
    go_wp2_with fail
    refine (axis_any _ _ _ w3 w4).mono ?_
    rintro e u9 ⟨⟨x0, x1, hx0, hx1, rfl⟩, hb9⟩
    replace s0 := carry (hb9) s0
    replace s1 := carry (hb9) s1
    replace vq0 := carry (hb9) vq0
    replace vq1 := carry (hb9) vq1
    replace vn0 := carry (hb9) vn0
    replace vn1 := carry (hb9) vn1
    replace hB := below_step hB hb9
    replace hs := hs.carry hb9
    clear hb9
    have vx0 : (u9.alloc (.cells #[.int .i64 (x0), .int .i64 (x1)] 34)).cell? ⟨u9.heap.size, 0, none⟩ = some (.int .i64 (x0)) := World.cell?_alloc_new (w := u9) #[.int .i64 (x0), .int .i64 (x1)] 34 0
    have vx1 : (u9.alloc (.cells #[.int .i64 (x0), .int .i64 (x1)] 34)).cell? ⟨u9.heap.size, 1, none⟩ = some (.int .i64 (x1)) := World.cell?_alloc_new (w := u9) #[.int .i64 (x0), .int .i64 (x1)] 34 1
    replace s0 := carry (alloc_below u9 (.cells #[.int .i64 (x0), .int .i64 (x1)] 34)) s0
    replace s1 := carry (alloc_below u9 (.cells #[.int .i64 (x0), .int .i64 (x1)] 34)) s1
    replace vq0 := carry (alloc_below u9 (.cells #[.int .i64 (x0), .int .i64 (x1)] 34)) vq0
    replace vq1 := carry (alloc_below u9 (.cells #[.int .i64 (x0), .int .i64 (x1)] 34)) vq1
    replace vn0 := carry (alloc_below u9 (.cells #[.int .i64 (x0), .int .i64 (x1)] 34)) vn0
    replace vn1 := carry (alloc_below u9 (.cells #[.int .i64 (x0), .int .i64 (x1)] 34)) vn1
    replace hB := below_step hB (alloc_below u9 (.cells #[.int .i64 (x0), .int .i64 (x1)] 34))
    replace hs := hs.carry (alloc_below u9 (.cells #[.int .i64 (x0), .int .i64 (x1)] 34))
    go_wp2_with fail
    generalize u9.alloc (.cells #[.int .i64 (x0), .int .i64 (x1)] 34) = u10 at *
    have bx0 : Bd x0 := ⟨by omega, by omega⟩
    have bx1 : Bd x1 := ⟨by omega, by omega⟩
    have hin := hs.proj_in hc'.out.symm q0 q1 x0 x1 (fun _ => small_axis hx0 hx1)
    have k1 := fun w (h : Sh w s) => h.project q0 q1 x0 x1 hq0.bp hq1.bp bx0 bx1
    have k2 := fun w => dot_any (q0 + m0) (q1 + m1) x0 x1 w hP0 hP1 bx0 bx1
    generalize s.pl q0 q1 x0 x1 = lw at *
    generalize s.ph q0 q1 x0 x1 = hg at *
    generalize flr ((q0 + m0) * x0 + (q1 + m1) * x1) 1024 = D at *
    have hk := Lib.hid (And.intro k1 k2)
    clear k1 k2
    have e1 : ¬ D < lw := by omega
    have e2 : ¬ hg < D := by omega
    refine (hk.out.1 _ hs).mono ?_
    rintro e u11 ⟨rfl, hb11⟩
    replace s0 := carry (hb11) s0
    replace s1 := carry (hb11) s1
    replace vq0 := carry (hb11) vq0
    replace vq1 := carry (hb11) vq1
    replace vn0 := carry (hb11) vn0
    replace vn1 := carry (hb11) vn1
    replace vx0 := carry (hb11) vx0
    replace vx1 := carry (hb11) vx1
    replace hB := below_step hB hb11
    replace hs := hs.carry hb11
    clear hb11
    go_wp2_with fail
    refine (hk.out.2 _).mono ?_
    rintro e u12 ⟨rfl, hb12⟩
    replace s0 := carry (hb12) s0
    replace s1 := carry (hb12) s1
    replace vq0 := carry (hb12) vq0
    replace vq1 := carry (hb12) vq1
    replace vn0 := carry (hb12) vn0
    replace vn1 := carry (hb12) vn1
    replace vx0 := carry (hb12) vx0
    replace vx1 := carry (hb12) vx1
    replace hB := below_step hB hb12
    replace hs := hs.carry hb12
    clear hb12
    clear hk hin vx0 vx1
    cases s with
    | c r =>
      replace s1 : u12.cell? ⟨u1.heap.size, 1, none⟩ = some (.slice none 0 0) := s1
      go_wp2_with fail
      refine (lives3_any _).mono ?_
      rintro e u13 ⟨rfl, hb13⟩
      go_wp2
      go_ret
      exact ⟨rfl, below_step hB hb13⟩
    | p g cap vs =>
      replace s0 : u12.cell? ⟨u1.heap.size, 0, none⟩ = some (.int .i64 0) := s0
      replace s1 : u12.cell? ⟨u1.heap.size, 1, none⟩ = some (.slice (some ⟨g, 0, none⟩) vs.length cap) := s1
      have hl := hs.2.lo
      have hl6 := hs.2.hi
      have hl0 : 0 < (vs.length : Int) := by omega
      have hl0' : 0 < vs.length := by omega
      go_wp2_with fail
      refine (of_any _ _ _ w3 w4).mono ?_
      rintro e u13 ⟨⟨y0, y1, hy0, hy1, rfl⟩, hb13⟩
      replace s0 := carry (hb13) s0
      replace s1 := carry (hb13) s1
      replace vq0 := carry (hb13) vq0
      replace vq1 := carry (hb13) vq1
      replace vn0 := carry (hb13) vn0
      replace vn1 := carry (hb13) vn1
      replace hB := below_step hB hb13
      replace hs := hs.carry hb13
      clear hb13
      have vy0 : (u13.alloc (.cells #[.int .i64 (y0), .int .i64 (y1)] 34)).cell? ⟨u13.heap.size, 0, none⟩ = some (.int .i64 (y0)) := World.cell?_alloc_new (w := u13) #[.int .i64 (y0), .int .i64 (y1)] 34 0
      have vy1 : (u13.alloc (.cells #[.int .i64 (y0), .int .i64 (y1)] 34)).cell? ⟨u13.heap.size, 1, none⟩ = some (.int .i64 (y1)) := World.cell?_alloc_new (w := u13) #[.int .i64 (y0), .int .i64 (y1)] 34 1
      replace s0 := carry (alloc_below u13 (.cells #[.int .i64 (y0), .int .i64 (y1)] 34)) s0
      replace s1 := carry (alloc_below u13 (.cells #[.int .i64 (y0), .int .i64 (y1)] 34)) s1
      replace vq0 := carry (alloc_below u13 (.cells #[.int .i64 (y0), .int .i64 (y1)] 34)) vq0
      replace vq1 := carry (alloc_below u13 (.cells #[.int .i64 (y0), .int .i64 (y1)] 34)) vq1
      replace vn0 := carry (alloc_below u13 (.cells #[.int .i64 (y0), .int .i64 (y1)] 34)) vn0
      replace vn1 := carry (alloc_below u13 (.cells #[.int .i64 (y0), .int .i64 (y1)] 34)) vn1
      replace hB := below_step hB (alloc_below u13 (.cells #[.int .i64 (y0), .int .i64 (y1)] 34))
      replace hs := hs.carry (alloc_below u13 (.cells #[.int .i64 (y0), .int .i64 (y1)] 34))
      go_wp2_with fail
      generalize u13.alloc (.cells #[.int .i64 (y0), .int .i64 (y1)] 34) = u14 at *
      have hin := hs.proj_in hc'.out.symm q0 q1 y0 y1 (fun h => absurd h (by simp only [Sp.n]; omega))
      have k1 : ∀ w', Below u14.heap.size u14 w' → Calls Try.prog 19 #[.agg #[.int .i64 0, .slice (some ⟨g, 0, none⟩) vs.length cap], .agg #[.int .i64 q0, .int .i64 q1], .agg #[.int .i64 y0, .int .i64 y1]] w' fun e w'' => e = .returned (.tuple #[.int .i64 ((Sp.p g cap vs).pl q0 q1 y0 y1), .int .i64 ((Sp.p g cap vs).ph q0 q1 y0 y1)]) ∧ Below w'.heap.size w' w'' := fun w' hb => (hs.carry hb).project q0 q1 y0 y1 hq0.bp hq1.bp hy0.bd hy1.bd
      have k2 := fun w => dot_any (q0 + m0) (q1 + m1) y0 y1 w hP0 hP1 hy0.bd hy1.bd
      generalize (Sp.p g cap vs).pl q0 q1 y0 y1 = lw2 at *
      generalize (Sp.p g cap vs).ph q0 q1 y0 y1 = hg2 at *
      generalize flr ((q0 + m0) * y0 + (q1 + m1) * y1) 1024 = D2 at *
      have hk := Lib.hid (And.intro k1 k2)
      clear k1 k2
      have e1 : ¬ D2 < lw2 := by omega
      have e2 : ¬ hg2 < D2 := by omega
      refine (hk.out.1 _ (Below.refl _ _)).mono ?_
      rintro e u15 ⟨rfl, hb15⟩
      replace s0 := carry (hb15) s0
      replace s1 := carry (hb15) s1
      replace vq0 := carry (hb15) vq0
      replace vq1 := carry (hb15) vq1
      replace vn0 := carry (hb15) vn0
      replace vn1 := carry (hb15) vn1
      replace vy0 := carry (hb15) vy0
      replace vy1 := carry (hb15) vy1
      replace hB := below_step hB hb15
      replace hs := hs.carry hb15
      clear hb15
      go_wp2_with fail
      refine (hk.out.2 _).mono ?_
      rintro e u16 ⟨rfl, hb16⟩
      replace hB := below_step hB hb16
      clear hb16 hk hin
      go_wp2_with fail
      refine (lives3_any _).mono ?_
      rintro e u17 ⟨rfl, hb17⟩
      go_wp2
      go_ret
      exact ⟨rfl, below_step hB hb17⟩

set_option maxRecDepth 100000 in
theorem lifted (os : Os) (started : os.Started) (H : Type) (enc : TypeId × Value → H) :
    ReturnsInHanded {} Try.checked os 7 .any (Rows.shapeProjectionSpec.pre6 enc Try.prog Try.f7 Rows.shapeProjectionRow.domain false) (Rows.shapeProjectionSpec.post enc Try.prog Try.f7 false true false false) := by
  refine returnsInHanded_of_change (C := Try.checked) own started (by kernel_rfl) Try.func7
    (ChangeSpec.witness6 (enc := enc) (C := Try.checked) false ⟨#[], #[.int .i64 0, .int .i64 0, .int .i64 0, .int .i64 0, .int .i64 0, .int .i64 0, .int .i64 0], []⟩ 8 (by kernel_rfl) (by kernel_rfl) (by kernel_rfl) (by kernel_rfl)) ?_
  intro W base args ds gs before hval0 hW hcnd _
  have hval : ∀ (j : Nat) t v, Try.f7.params[j]? = some t → args[j]? = some v → Value.okWide Try.prog W .any base t v := hval0
  have hW' := hW
  obtain ⟨p, q, hA0, hV, rfl, hfz, hnd⟩ := hW
  have hA : DataW.TrodAll enc Try.prog W 0 (fun _ => true) true Try.f7.params.toList args.toList ds p := hA0
  rw [Try.params7] at hA hval
  obtain ⟨v0, vs0, d0, ds0, p0, q0, hargs, rfl, rfl, h0, r0⟩ := trodAll_cons hA
  obtain ⟨v1, vs1, d1, ds1, p1, q1, rfl, rfl, rfl, h1, r1⟩ := trodAll_cons r0
  obtain ⟨v2, vs2, d2, ds2, p2, q2, rfl, rfl, rfl, h2, r2⟩ := trodAll_cons r1
  obtain ⟨v3, vs3, d3, ds3, p3, q3, rfl, rfl, rfl, h3, r3⟩ := trodAll_cons r2
  obtain ⟨v4, vs4, d4, ds4, p4, q4, rfl, rfl, rfl, h4, r4⟩ := trodAll_cons r3
  obtain ⟨v5, vs5, d5, ds5, p5, q5, rfl, rfl, rfl, h5, r5⟩ := trodAll_cons r4
  obtain ⟨v6, vs6, d6, ds6, p6, q6, rfl, rfl, rfl, h6, r6⟩ := trodAll_cons r5
  obtain ⟨rfl, rfl, rfl⟩ := trodAll_nil r6
  obtain rfl : args = #[v0, v1, v2, v3, v4, v5, v6] := by cases args; simp_all
  obtain ⟨rfl, rfl⟩ := trodVars_none hV
  obtain ⟨a0, rfl, rfl, rfl, w0⟩ := open_int Try.underlying3 (hval 0 3 v0 rfl rfl) h0
  obtain ⟨a1, rfl, rfl, rfl, w1⟩ := open_int Try.underlying3 (hval 1 3 v1 rfl rfl) h1
  obtain ⟨a2, rfl, rfl, rfl, w2⟩ := open_int Try.underlying3 (hval 2 3 v2 rfl rfl) h2
  obtain ⟨a3, rfl, rfl, rfl, w3⟩ := open_int Try.underlying3 (hval 3 3 v3 rfl rfl) h3
  obtain ⟨a4, rfl, rfl, rfl, w4⟩ := open_int Try.underlying3 (hval 4 3 v4 rfl rfl) h4
  obtain ⟨a5, rfl, rfl, rfl, w5⟩ := open_int Try.underlying3 (hval 5 3 v5 rfl rfl) h5
  obtain ⟨a6, rfl, rfl, rfl, w6⟩ := open_int Try.underlying3 (hval 6 3 v6 rfl rfl) h6
  clear hA0 hval0
  simp only [List.append_nil] at hW'
  refine (walk a0 w0 a1 w1 a2 w2 a3 w3 a4 w4 a5 w5 a6 w6 W).mono fun e W' ⟨he, hb⟩ => ?_
  subst he
  exact ⟨_, rfl, kept_post (pa := []) hW' (fun _ _ _ => (trodAll_cons_mk (shut_bool Try.underlying4 _) trodAll_mk0)) (fun sp _ => (trodAll_cons_mk (shut_int Try.underlying3 w0) (trodAll_cons_mk (shut_int Try.underlying3 w1) (trodAll_cons_mk (shut_int Try.underlying3 w2) (trodAll_cons_mk (shut_int Try.underlying3 w3) (trodAll_cons_mk (shut_int Try.underlying3 w4) (trodAll_cons_mk (shut_int Try.underlying3 w5) (trodAll_cons_mk (shut_int Try.underlying3 w6) trodAll_mk0)))))))) (fun _ => rfl) hb (ok_one (by kernel_rfl) rfl (okWide_bool_mk Try.underlying4 _))⟩

theorem over : Rows.shapeProjectionRow.holds Try.pinned (OpenSpec.ofChange Rows.shapeProjectionSpec) :=
  OpenClaim.holds_of_wide 7 Try.f7 rfl rfl rfl rfl rfl rfl rfl ⟨rfl, rfl, rfl, rfl, rfl⟩ rfl rfl rfl rfl rfl (by kernel_rfl) Try.func7 (by kernel_rfl)
    (of_decide_eq_true (by kernel_rfl)) (by unfold Func.isWrapper; first | (rw [if_pos (by decide +kernel)]; kernel_rfl) | (rw [if_neg (by decide +kernel)]; exact ⟨rfl, rfl⟩))
    (fun os started H enc _ => lifted os started H enc)

theorem proved : Rows.ShapeProjectionSaid :=
  over
#print axioms proved
end Go.Proofs.Ytololgefpjjpjaa.shapeProjection
