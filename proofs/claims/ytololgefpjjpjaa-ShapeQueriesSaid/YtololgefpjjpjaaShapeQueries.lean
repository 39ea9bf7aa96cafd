/-
  Proved: arenanetlaw03.ShapeQueries returns true for all seven ints and leaves its arguments as they were. No further condition.
-/
import Derived.Test.YtololgefpjjpjaaRows
import Derived.WalkKit
import Derived.ProofKit
import Derived.OpenShut
import Derived.Test.YtololgefpjjpjaaLawKit
import Derived.Test.YtololgefpjjpjaaShapeJ
import Derived.Test.YtololgefpjjpjaaMadeAlloc
namespace Go.Proofs.Ytololgefpjjpjaa.shapeQueries
open Go.ChangeShapes Go.WideShapes Go.ChangeAt Go.RowKit
set_option linter.unusedVariables false
set_option linter.unusedSimpArgs false

open Fxm
theorem own : ownKnob Try.prog.godebug = none := by kernel_rfl

set_option maxHeartbeats 2000000 in
theorem walk (a0 : Int) (w0 : (Lit.int .i64 a0).wf = true) (a1 : Int) (w1 : (Lit.int .i64 a1).wf = true) (a2 : Int) (w2 : (Lit.int .i64 a2).wf = true) (a3 : Int) (w3 : (Lit.int .i64 a3).wf = true) (a4 : Int) (w4 : (Lit.int .i64 a4).wf = true) (a5 : Int) (w5 : (Lit.int .i64 a5).wf = true) (a6 : Int) (w6 : (Lit.int .i64 a6).wf = true) (w : World) :
    Calls Try.prog 4 #[.int .i64 a0, .int .i64 a1, .int .i64 a2, .int .i64 a3, .int .i64 a4, .int .i64 a5, .int .i64 a6] w fun e w' => e = .returned (.bool true) ∧ Below w.heap.size w w' := by
  go_enter Try.func4, Try.ntmps4
  go_wp2_with fail
  refine (shapes_any _ _ w0).mono ?_
  rintro e u1 ⟨s, rfl, hs, hb1⟩
  have hB := hb1
  clear hb1
  go_wp2_with fail
  refine (of_any _ _ _ w1 w2).mono ?_
  rintro e u2 ⟨⟨q0, q1, hq0, hq1, rfl⟩, hb2⟩
  have s0 := carry hb2 (a := ⟨u1.heap.size, 0, none⟩) (v := .int .i64 s.r) (by simp)
  have s1 := carry hb2 (a := ⟨u1.heap.size, 1, none⟩) (v := .slice s.a s.n s.cap) (by simp)
  replace hB := below_step (below_step hB (alloc_below _ _)) hb2
  replace hs := (hs.carry (alloc_below _ _)).carry hb2
  clear hb2
  go_wp2_with fail
  refine (of_any _ _ _ w3 w4).mono ?_
  rintro e u3 ⟨⟨x0, x1, hx0, hx1, rfl⟩, hb3⟩
  have vq0 := carry (hb3) (a := ⟨u2.heap.size, 0, none⟩) (v := .int .i64 q0) (by simp)
  have vq1 := carry (hb3) (a := ⟨u2.heap.size, 1, none⟩) (v := .int .i64 q1) (by simp)
  replace s0 := carry (below_step (alloc_below u2 (.cells #[.int .i64 (q0), .int .i64 (q1)] 34)) hb3) s0
  replace s1 := carry (below_step (alloc_below u2 (.cells #[.int .i64 (q0), .int .i64 (q1)] 34)) hb3) s1
  replace hB := below_step (below_step hB (alloc_below _ _)) hb3
  replace hs := (hs.carry (alloc_below _ _)).carry hb3
  clear hb3
  have vx0 := World.cell?_alloc_new (w := u3) #[.int .i64 x0, .int .i64 x1] 34 0
  have vx1 := World.cell?_alloc_new (w := u3) #[.int .i64 x0, .int .i64 x1] 34 1
  replace s0 := carry (alloc_below u3 (.cells #[.int .i64 x0, .int .i64 x1] 34)) s0
  replace s1 := carry (alloc_below u3 (.cells #[.int .i64 x0, .int .i64 x1] 34)) s1
  replace vq0 := carry (alloc_below u3 (.cells #[.int .i64 x0, .int .i64 x1] 34)) vq0
  replace vq1 := carry (alloc_below u3 (.cells #[.int .i64 x0, .int .i64 x1] 34)) vq1
  replace hB := below_step hB (alloc_below u3 (.cells #[.int .i64 x0, .int .i64 x1] 34))
  replace hs := hs.carry (alloc_below u3 (.cells #[.int .i64 x0, .int .i64 x1] 34))
  go_wp2_with fail
  have hn0 := hs.nx_bd a5
  have hn1 := hs.ny_bd a6
  have k2 := fun w => refAdd_any q0 q1 (s.nx a5) (s.ny a6) w hq0.bd hq1.bd (near_bd hn0) (near_bd hn1)
  have k1 := fun w (h : Sh w s) => h.near a5 a6 w5 w6
  have hp0 := hq0.near hn0
  have hp1 := hq1.near hn1
  generalize s.nx a5 = m0 at *
  generalize s.ny a6 = m1 at *
  have hk := Lib.hid (And.intro k1 k2)
  clear k1 k2
  have hsh := Lib.hid hs
  refine wp_region_alloc_last 6 (some 18) (.cells #[.int .i64 0, .int .i64 0] 34) (by kernel_rfl) (by kernel_rfl) ⟨_, rfl, rfl, fun _ => rfl, fun _ _ => by kernel_rfl⟩ ?_
  apply Exists.intro
  refine ⟨fun W hK E hE => ?_, ?_⟩
  · skip
    have g_s0 := fun x => carry ((hK.below x)) s0
    have g_s1 := fun x => carry ((hK.below x)) s1
    have g_vq0 := fun x => carry ((hK.below x)) vq0
    have g_vq1 := fun x => carry ((hK.below x)) vq1
    have g_vx0 := fun x => carry ((hK.below x)) vx0
    have g_vx1 := fun x => carry ((hK.below x)) vx1
    simp only [List.take_succ_cons, List.take_zero]
    repeat (go_big_quiet_step ((first | (go_at_call 18; with_reducible exact met_made (hk.out.1 _ (hsh.out.carry (hK.below _)))) | (go_at_call 17; with_reducible exact met_made (hk.out.2 _)))))
    refine wpQuiet_nil ?_
    exact hE
  intro B wq hBB hbq hheap
  simp only [List.drop_succ_cons, List.drop_zero, Act.put, List.setIfInBounds_toArray, List.set_cons_zero, List.set_cons_succ]
  have hstep := (hbq.setCell (p := ⟨B, 0, none⟩) hBB (.int .i64 (q0 + m0))).setCell (p := ⟨B, 1, none⟩) hBB (.int .i64 (q1 + m1))
  replace s0 := carry (hstep) s0
  replace s1 := carry (hstep) s1
  replace vq0 := carry (hstep) vq0
  replace vq1 := carry (hstep) vq1
  replace vx0 := carry (hstep) vx0
  replace vx1 := carry (hstep) vx1
  have hh := heap_setCell (heap_setCell hheap 0 (.int .i64 (q0 + m0))) 1 (.int .i64 (q1 + m1))
  have vn0 := heap_cell hh 0
  have vn1 := heap_cell hh 1
  simp at vn0 vn1
  have hcB := heap_cell hheap
  have hfB := heap_frozen hheap
  clear hh hheap
  replace hB := below_step hB hstep
  replace hs := hs.carry hstep
  go_wp2_with fail
  generalize (wq.setCell ⟨B, 0, none⟩ (.int .i64 (q0 + m0))).setCell ⟨B, 1, none⟩ (.int .i64 (q1 + m1)) = u4 at *
  clear hcB hfB hstep hbq hBB hsh hk
  refine (of_any _ _ _ w5 w6).mono ?_
  rintro e u5 ⟨⟨z0, z1, hz0, hz1, rfl⟩, hb5⟩
  replace s0 := carry (hb5) s0
  replace s1 := carry (hb5) s1
  replace vq0 := carry (hb5) vq0
  replace vq1 := carry (hb5) vq1
  replace vx0 := carry (hb5) vx0
  replace vx1 := carry (hb5) vx1
  replace vn0 := carry (hb5) vn0
  replace vn1 := carry (hb5) vn1
  replace hB := below_step hB hb5
  replace hs := hs.carry hb5
  clear hb5
  have vz0 := World.cell?_alloc_new (w := u5) #[.int .i64 z0, .int .i64 z1] 34 0
  have vz1 := World.cell?_alloc_new (w := u5) #[.int .i64 z0, .int .i64 z1] 34 1
  replace s0 := carry (alloc_below u5 (.cells #[.int .i64 z0, .int .i64 z1] 34)) s0
  replace s1 := carry (alloc_below u5 (.cells #[.int .i64 z0, .int .i64 z1] 34)) s1
  replace vq0 := carry (alloc_below u5 (.cells #[.int .i64 z0, .int .i64 z1] 34)) vq0
  replace vq1 := carry (alloc_below u5 (.cells #[.int .i64 z0, .int .i64 z1] 34)) vq1
  replace vx0 := carry (alloc_below u5 (.cells #[.int .i64 z0, .int .i64 z1] 34)) vx0
  replace vx1 := carry (alloc_below u5 (.cells #[.int .i64 z0, .int .i64 z1] 34)) vx1
  replace vn0 := carry (alloc_below u5 (.cells #[.int .i64 z0, .int .i64 z1] 34)) vn0
  replace vn1 := carry (alloc_below u5 (.cells #[.int .i64 z0, .int .i64 z1] 34)) vn1
  replace hB := below_step hB (alloc_below u5 (.cells #[.int .i64 z0, .int .i64 z1] 34))
  replace hs := hs.carry (alloc_below u5 (.cells #[.int .i64 z0, .int .i64 z1] 34))
  go_wp2_with fail
  generalize u5.alloc (.cells #[.int .i64 z0, .int .i64 z1] 34) = u6 at *
  refine (hs.project q0 q1 x0 x1 hq0.bp hq1.bp hx0.bd hx1.bd).mono ?_
  rintro e u7 ⟨rfl, hb7⟩
  replace s0 := carry (hb7) s0
  replace s1 := carry (hb7) s1
  replace vq0 := carry (hb7) vq0
  replace vq1 := carry (hb7) vq1
  replace vx0 := carry (hb7) vx0
  replace vx1 := carry (hb7) vx1
  replace vn0 := carry (hb7) vn0
  replace vn1 := carry (hb7) vn1
  replace vz0 := carry (hb7) vz0
  replace vz1 := carry (hb7) vz1
  replace hB := below_step hB hb7
  replace hs := hs.carry hb7
  clear hb7
  have K2 := hs.refProject q0 q1 x0 x1 hq0.bp hq1.bp hx0.bd hx1.bd
  generalize s.pl q0 q1 x0 x1 = lw at *
  generalize s.ph q0 q1 x0 x1 = hg at *
  go_wp2_with fail
  refine K2.mono ?_
  clear K2
  rintro e u8 ⟨rfl, hb8⟩
  replace s0 := carry (hb8) s0
  replace s1 := carry (hb8) s1
  replace vq0 := carry (hb8) vq0
  replace vq1 := carry (hb8) vq1
  replace vn0 := carry (hb8) vn0
  replace vn1 := carry (hb8) vn1
  replace vz0 := carry (hb8) vz0
  replace vz1 := carry (hb8) vz1
  replace hB := below_step hB hb8
  replace hs := hs.carry hb8
  clear hb8 vx0 vx1
  have hsh := Lib.hid hs
  have k1 := fun w (h : Sh w s) => h.bounds q0 q1 hq0.bp hq1.bp
  have k2 := fun w (h : Sh w s) => h.refBounds q0 q1 hq0.bp hq1.bp
  generalize q0 + s.xa = xa at *
  generalize q1 + s.ya = ya at *
  generalize q0 + s.xb = xb at *
  generalize q1 + s.yb = yb at *
  have hk := Lib.hid (And.intro k1 k2)
  clear k1 k2
  go_wp2_with fail
  refine wp_region_made (by kernel_rfl) (by kernel_rfl) ?_
  intro W hK
  have g_s0 := fun x => carry ((hK.below x)) s0
  have g_s1 := fun x => carry ((hK.below x)) s1
  have g_vq0 := fun x => carry ((hK.below x)) vq0
  have g_vq1 := fun x => carry ((hK.below x)) vq1
  have g_vn0 := fun x => carry ((hK.below x)) vn0
  have g_vn1 := fun x => carry ((hK.below x)) vn1
  have g_vz0 := fun x => carry ((hK.below x)) vz0
  have g_vz1 := fun x => carry ((hK.below x)) vz1
  repeat (go_big_quiet_step ((first | (go_at_call 21; with_reducible exact met_made (hk.out.1 _ (hsh.out.carry (hK.below _)))) | (go_at_call 22; with_reducible exact met_made (hk.out.2 _ (hsh.out.carry (hK.below _)))))))
  refine wpQuiet_nil ?_
  intro wq hw'
  have hbq := kept_in hK hw'
  clear g_s0 g_s1 g_vq0 g_vq1 g_vn0 g_vn1 g_vz0 g_vz1
  clear hw' hK W
  replace s0 := carry (hbq) s0
  replace s1 := carry (hbq) s1
  replace vq0 := carry (hbq) vq0
  replace vq1 := carry (hbq) vq1
  replace vn0 := carry (hbq) vn0
  replace vn1 := carry (hbq) vn1
  replace vz0 := carry (hbq) vz0
  replace vz1 := carry (hbq) vz1
  replace hB := below_step hB hbq
  replace hs := hs.carry hbq
  clear hbq hk hsh
  replace vz0 : wq.cell? ⟨u5.heap.size, 0, none⟩ = some (.int .i64 z0) := vz0
  replace vz1 : wq.cell? ⟨u5.heap.size, 1, none⟩ = some (.int .i64 z1) := vz1
  generalize q0 + m0 = P0 at *
  generalize q1 + m1 = P1 at *
  have k1 := fun w => refAbs_any P0 w (by unfold Bd at hp0; omega) (by unfold Bd at hp0; omega)
  have k2 := fun w => refAbs_any P1 w (by unfold Bd at hp1; omega) (by unfold Bd at hp1; omega)
  generalize absV P0 = A0 at *
  generalize absV P1 = A1 at *
  have k3 := fun w (h : Sh w s) => h.contains q0 q1 P0 P1 hq0.bd hq1.bd hp0 hp1
  have k4 := fun w (h : Sh w s) => h.refContains q0 q1 P0 P1 hq0.bd hq1.bd hp0 hp1
  have k5 := fun w (h : Sh w s) => h.contains q0 q1 z0 z1 hq0.bd hq1.bd hz0.bd hz1.bd
  have k6 := fun w (h : Sh w s) => h.refContains q0 q1 z0 z1 hq0.bd hq1.bd hz0.bd hz1.bd
  generalize s.ins (P0 - q0, P1 - q1) = c1 at *
  generalize s.ins (z0 - q0, z1 - q1) = c2 at *
  have hk := Lib.hid (And.intro k1 (And.intro k2 (And.intro k3 (And.intro k4 (And.intro k5 k6)))))
  clear k1 k2 k3 k4 k5 k6
  have hsh := Lib.hid hs
  have hcase : (A0 ≤ 8388608 ∧ A1 ≤ 8388608) ∨ (A0 ≤ 8388608 ∧ ¬ A1 ≤ 8388608) ∨ ¬ A0 ≤ 8388608 := by omega
  rcases hcase with ⟨h0, h1⟩ | ⟨h0, h1⟩ | h0
  all_goals
    first | have d0 := decide_eq_false h0 | have d0 := decide_eq_true h0
    try (first | have d1 := decide_eq_false h1 | have d1 := decide_eq_true h1)
    go_wp2_with fail
    refine wp_region_made (by kernel_rfl) (by kernel_rfl) ?_
    intro W hK
    have g_s0 := fun x => carry ((hK.below x)) s0
    have g_s1 := fun x => carry ((hK.below x)) s1
    have g_vq0 := fun x => carry ((hK.below x)) vq0
    have g_vq1 := fun x => carry ((hK.below x)) vq1
    have g_vn0 := fun x => carry ((hK.below x)) vn0
    have g_vn1 := fun x => carry ((hK.below x)) vn1
    have g_vz0 := fun x => carry ((hK.below x)) vz0
    have g_vz1 := fun x => carry ((hK.below x)) vz1
    repeat (go_big_quiet_step ((first | (go_at_call 23; with_reducible exact met_same (hk.out.1 _)) | (go_at_call 23; with_reducible exact met_same (hk.out.2.1 _)) | (go_at_call 24; with_reducible exact met_made (hk.out.2.2.1 _ (hsh.out.carry (hK.below _)))) | (go_at_call 25; with_reducible exact met_made (hk.out.2.2.2.1 _ (hsh.out.carry (hK.below _)))))))
    refine wpQuiet_nil ?_
    intro wq hw'
    have hbq := kept_in hK hw'
    clear g_s0 g_s1 g_vq0 g_vq1 g_vn0 g_vn1 g_vz0 g_vz1
    clear hw' hK W
    replace s0 := carry (hbq) s0
    replace s1 := carry (hbq) s1
    replace vq0 := carry (hbq) vq0
    replace vq1 := carry (hbq) vq1
    replace vn0 := carry (hbq) vn0
    replace vn1 := carry (hbq) vn1
    replace vz0 := carry (hbq) vz0
    replace vz1 := carry (hbq) vz1
    replace hB := below_step hB hbq
    have hsh2 := Lib.hid (hsh.out.carry hbq)
    clear hbq
    go_wp2_with fail
    refine wp_region_made (by kernel_rfl) (by kernel_rfl) ?_
    intro W hK
    have g_s0 := fun x => carry ((hK.below x)) s0
    have g_s1 := fun x => carry ((hK.below x)) s1
    have g_vq0 := fun x => carry ((hK.below x)) vq0
    have g_vq1 := fun x => carry ((hK.below x)) vq1
    have g_vz0 := fun x => carry ((hK.below x)) vz0
    have g_vz1 := fun x => carry ((hK.below x)) vz1
    repeat (go_big_quiet_step ((first | (go_at_call 24; with_reducible exact met_made (hk.out.2.2.2.2.1 _ (hsh2.out.carry (hK.below _)))) | (go_at_call 25; with_reducible exact met_made (hk.out.2.2.2.2.2 _ (hsh2.out.carry (hK.below _)))) | (go_at_call 15; with_reducible exact met_made (lives3_any _)))))
    refine wpQuiet_nil ?_
    intro wq hw'
    have hbq := kept_in hK hw'
    clear g_s0 g_s1 g_vq0 g_vq1 g_vz0 g_vz1
    clear hw' hK W
    replace s0 := carry (hbq) s0
    replace s1 := carry (hbq) s1
    replace vq0 := carry (hbq) vq0
    replace vq1 := carry (hbq) vq1
    replace vz0 := carry (hbq) vz0
    replace vz1 := carry (hbq) vz1
    go_wp2
    go_ret
    exact ⟨rfl, below_step hB hbq⟩

set_option maxRecDepth 100000 in
theorem lifted (os : Os) (started : os.Started) (H : Type) (enc : TypeId × Value → H) :
    ReturnsInHanded {} Try.checked os 4 .any (Rows.shapeQueriesSpec.pre6 enc Try.prog Try.f4 Rows.shapeQueriesRow.domain false) (Rows.shapeQueriesSpec.post enc Try.prog Try.f4 false true false false) := by
  refine returnsInHanded_of_change (C := Try.checked) own started (by kernel_rfl) Try.func4
    (ChangeSpec.witness6 (enc := enc) (C := Try.checked) false ⟨#[], #[.int .i64 0, .int .i64 0, .int .i64 0, .int .i64 0, .int .i64 0, .int .i64 0, .int .i64 0], []⟩ 8 (by kernel_rfl) (by kernel_rfl) (by kernel_rfl) (by kernel_rfl)) ?_
  intro W base args ds gs before hval0 hW hcnd _
  have hval : ∀ (j : Nat) t v, Try.f4.params[j]? = some t → args[j]? = some v → Value.okWide Try.prog W .any base t v := hval0
  have hW' := hW
  obtain ⟨p, q, hA0, hV, rfl, hfz, hnd⟩ := hW
  have hA : DataW.TrodAll enc Try.prog W 0 (fun _ => true) true Try.f4.params.toList args.toList ds p := hA0
  rw [Try.params4] at hA hval
  obtain ⟨v0, vs0, d0, ds0, p0, q0, hargs, rfl, rfl, h0, r0⟩ := trodAll_cons hA
  obtain ⟨v1, vs1, d1, ds1, p1, q1, rfl, rfl, rfl, h1, r1⟩ := trodAll_cons r0
  obtain ⟨v2, vs2, d2, ds2, p2, q2, rfl, rfl, rfl, h2, r2⟩ := trodAll_cons r1
  obtain ⟨v3, vs3, d3, ds3, p3, q3, rfl, rfl, rfl, h3, r3⟩ := trodAll_cons r2
  obtain ⟨v4, vs4, d4, ds4, p4, q4, rfl, rfl, rfl, h4, r4⟩ := trodAll_cons r3
  obtain ⟨v5, vs5, d5, ds5, p5, q5, rfl, rfl, rfl, h5, r5⟩ := trodAll_cons r4
  obtain ⟨v6, vs6, d6, ds6, p6, q6, rfl, rfl, rfl, h6, r6⟩ := trodAll_cons r5
  obtain ⟨rfl, rfl, rfl⟩ := trodAll_nil r6
  obtain rfl : args = #[v0, v1, v2, v3, v4, v5, v6] := by cases args; simp_all
  obtain ⟨rfl, rfl⟩ := trodVars_none hV
  obtain ⟨a0, rfl, rfl, rfl, w0⟩ := open_int Try.underlying3 (hval 0 3 v0 rfl rfl) h0
  obtain ⟨a1, rfl, rfl, rfl, w1⟩ := open_int Try.underlying3 (hval 1 3 v1 rfl rfl) h1
  obtain ⟨a2, rfl, rfl, rfl, w2⟩ := open_int Try.underlying3 (hval 2 3 v2 rfl rfl) h2
  obtain ⟨a3, rfl, rfl, rfl, w3⟩ := open_int Try.underlying3 (hval 3 3 v3 rfl rfl) h3
  obtain ⟨a4, rfl, rfl, rfl, w4⟩ := open_int Try.underlying3 (hval 4 3 v4 rfl rfl) h4
  obtain ⟨a5, rfl, rfl, rfl, w5⟩ := open_int Try.underlying3 (hval 5 3 v5 rfl rfl) h5
  obtain ⟨a6, rfl, rfl, rfl, w6⟩ := open_int Try.underlying3 (hval 6 3 v6 rfl rfl) h6
  clear hA0 hval0
  simp only [List.append_nil] at hW'
  refine (walk a0 w0 a1 w1 a2 w2 a3 w3 a4 w4 a5 w5 a6 w6 W).mono fun e W' ⟨he, hb⟩ => ?_
  subst he
  exact ⟨_, rfl, kept_post (pa := []) hW' (fun _ _ _ => (trodAll_cons_mk (shut_bool Try.underlying4 _) trodAll_mk0)) (fun sp _ => (trodAll_cons_mk (shut_int Try.underlying3 w0) (trodAll_cons_mk (shut_int Try.underlying3 w1) (trodAll_cons_mk (shut_int Try.underlying3 w2) (trodAll_cons_mk (shut_int Try.underlying3 w3) (trodAll_cons_mk (shut_int Try.underlying3 w4) (trodAll_cons_mk (shut_int Try.underlying3 w5) (trodAll_cons_mk (shut_int Try.underlying3 w6) trodAll_mk0)))))))) (fun _ => rfl) hb (ok_one (by kernel_rfl) rfl (okWide_bool_mk Try.underlying4 _))⟩

theorem over : Rows.shapeQueriesRow.holds Try.pinned (OpenSpec.ofChange Rows.shapeQueriesSpec) :=
  OpenClaim.holds_of_wide 4 Try.f4 rfl rfl rfl rfl rfl rfl rfl ⟨rfl, rfl, rfl, rfl, rfl⟩ rfl rfl rfl rfl rfl (by kernel_rfl) Try.func4 (by kernel_rfl)
    (of_decide_eq_true (by kernel_rfl)) (by unfold Func.isWrapper; first | (rw [if_pos (by decide +kernel)]; kernel_rfl) | (rw [if_neg (by decide +kernel)]; exact ⟨rfl, rfl⟩))
    (fun os started H enc _ => lifted os started H enc)

theorem proved : Rows.ShapeQueriesSaid :=
  over
#print axioms proved
end Go.Proofs.Ytololgefpjjpjaa.shapeQueries
