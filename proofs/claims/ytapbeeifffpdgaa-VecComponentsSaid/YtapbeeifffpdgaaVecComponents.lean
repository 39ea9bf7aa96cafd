/-
  Proved: arenanetlaw02.VecComponents returns true for every array of four ints and all ints f and d, and leaves its arguments as they were. No further condition.
-/
import Derived.Test.YtapbeeifffpdgaaRows
import Derived.WalkKit
import Derived.ProofKit
import Derived.OpenShut
import Derived.Test.YtapbeeifffpdgaaLawKit
import Derived.Test.YtapbeeifffpdgaaVecC
namespace Go.Proofs.Ytapbeeifffpdgaa.vecComponents
open Go.ChangeShapes Go.WideShapes Go.ChangeAt Go.RowKit
set_option linter.unusedVariables false
set_option linter.unusedSimpArgs false

open Fxm
theorem own : ownKnob Try.prog.godebug = none := by kernel_rfl

set_option maxHeartbeats 2000000 in
theorem walk (a0_0 : Int) (a0_1 : Int) (a0_2 : Int) (a0_3 : Int) (w0_0 : (Lit.int .i64 a0_0).wf = true) (w0_1 : (Lit.int .i64 a0_1).wf = true) (w0_2 : (Lit.int .i64 a0_2).wf = true) (w0_3 : (Lit.int .i64 a0_3).wf = true) (a1 : Int) (w1 : (Lit.int .i64 a1).wf = true) (a2 : Int) (w2 : (Lit.int .i64 a2).wf = true) (w : World) :
    Calls Try.prog 3 #[.agg #[.int .i64 a0_0, .int .i64 a0_1, .int .i64 a0_2, .int .i64 a0_3], .int .i64 a1, .int .i64 a2] w fun e w' => e = .returned (.bool true) ∧ Below w.heap.size w w' := by
  obtain ⟨f1, f2⟩ := bounds_i64 w1
  obtain ⟨d1, d2⟩ := bounds_i64 w2
  clear w1 w2
  go_enter Try.func3, Try.ntmps3
  go_wp2_with fail
  refine (of_any _ _ _ w0_0 w0_1).mono ?_
  rintro e w1 ⟨⟨a0, a1, ha0, ha1, rfl⟩, hb1⟩
  have x0 := carry (hb1) (a := ⟨w.heap.size, 0, none⟩) (v := .int .i64 a0_0) (by simp)
  have x1 := carry (hb1) (a := ⟨w.heap.size, 1, none⟩) (v := .int .i64 a0_1) (by simp)
  have x2 := carry (hb1) (a := ⟨w.heap.size, 2, none⟩) (v := .int .i64 a0_2) (by simp)
  have x3 := carry (hb1) (a := ⟨w.heap.size, 3, none⟩) (v := .int .i64 a0_3) (by simp)
  have hB := below_step (alloc_below _ _) hb1
  have n1 := block_lt_of_cell x0
  clear hb1 x0 x1
  go_wp2_with fail
  refine (of_any _ _ _ w0_2 w0_3).mono ?_
  rintro e w2 ⟨⟨b0, b1, hb0, hb1, rfl⟩, hb2⟩
  have va0 := carry (hb2) (a := ⟨w1.heap.size, 0, none⟩) (v := .int .i64 a0) (by simp)
  have va1 := carry (hb2) (a := ⟨w1.heap.size, 1, none⟩) (v := .int .i64 a1) (by simp)
  replace hB := below_step (below_step hB (below_step (alloc_below _ _) hb2)) (alloc_below w2 (.cells #[.int .i64 b0, .int .i64 b1] 24))
  clear hb2 x2 x3 n1
  have vb0 := World.cell?_alloc_new (w := w2) #[.int .i64 b0, .int .i64 b1] 24 0
  have vb1 := World.cell?_alloc_new (w := w2) #[.int .i64 b0, .int .i64 b1] 24 1
  replace va0 := carry (alloc_below w2 (.cells #[.int .i64 b0, .int .i64 b1] 24)) va0
  replace va1 := carry (alloc_below w2 (.cells #[.int .i64 b0, .int .i64 b1] 24)) va1
  go_wp2_with fail
  refine (aroundx_any _ _ _ f1 f2 (by omega)).mono ?_
  rintro e w' ⟨⟨r, r1, r2, rfl⟩, rfl⟩
  go_wp2_with fail
  refine (aroundx_any _ _ _ d1 d2 (by omega)).mono ?_
  rintro e w' ⟨⟨s, s1, s2, rfl⟩, rfl⟩
  have hn : Bd (r - 16777216) := ⟨by omega, by omega⟩
  have k1 := fun w => add_any a0 a1 b0 b1 w ha0.bd ha1.bd hb0.bd hb1.bd
  have j1 := fun w => refAdd_any a0 a1 b0 b1 w ha0.bd ha1.bd hb0.bd hb1.bd
  have k2 := fun w => sub_any a0 a1 b0 b1 w ha0.bd ha1.bd hb0.bd hb1.bd
  have j2 := fun w => refSub_any a0 a1 b0 b1 w ha0.bd ha1.bd hb0.bd hb1.bd
  have k3 := fun w => neg_any a0 a1 w ha0.bd ha1.bd
  have j3 := fun w => refNeg_any a0 a1 w ha0.bd ha1.bd
  have k4 := fun w => perp_any a0 a1 w ha0.bd ha1.bd
  have j4 := fun w => refPerp_any a0 a1 w ha0.bd ha1.bd
  have K := Lib.hid (And.intro k1 (And.intro j1 (And.intro k2 (And.intro j2 (And.intro k3 (And.intro j3 (And.intro k4 j4)))))))
  clear k1 k2 k3 k4 j1 j2 j3 j4
  go_wp2_with fail
  refine wp_region_made (by kernel_rfl) (by kernel_rfl) ?_
  intro W hK
  have g_va0 := fun x => carry ((hK.below x)) va0
  have g_va1 := fun x => carry ((hK.below x)) va1
  have g_vb0 := fun x => carry ((hK.below x)) vb0
  have g_vb1 := fun x => carry ((hK.below x)) vb1
  repeat (go_big_quiet_step ((first | (go_at_call 13; with_reducible exact met_made (K.out.1 _)) | (go_at_call 14; with_reducible exact met_made (K.out.2.1 _)) | (go_at_call 15; with_reducible exact met_made (K.out.2.2.1 _)) | (go_at_call 16; with_reducible exact met_made (K.out.2.2.2.1 _)) | (go_at_call 17; with_reducible exact met_made (K.out.2.2.2.2.1 _)) | (go_at_call 18; with_reducible exact met_made (K.out.2.2.2.2.2.1 _)) | (go_at_call 19; with_reducible exact met_made (K.out.2.2.2.2.2.2.1 _)) | (go_at_call 20; with_reducible exact met_made (K.out.2.2.2.2.2.2.2 _)))))
  refine wpQuiet_nil ?_
  intro wq hw'
  have hbq := kept_in hK hw'
  clear g_va0 g_va1 g_vb0 g_vb1
  clear hw' hK W
  replace va0 := carry (hbq) va0
  replace va1 := carry (hbq) va1
  replace vb0 := carry (hbq) vb0
  replace vb1 := carry (hbq) vb1
  replace hB := below_step hB hbq
  clear hbq K vb0 vb1
  have k1 := fun w => scale_any a0 a1 (r - 16777216) w ha0.bd ha1.bd hn
  have j1 := fun w => refScale_any a0 a1 (r - 16777216) w ha0.bd ha1.bd hn
  have k2 := fun w => vmulDiv_any a0 a1 (r - 16777216) (s - 2048) w ha0.bd ha1.bd hn
  have j2 := fun w => refVMulDiv_any a0 a1 (r - 16777216) (s - 2048) w ha0.bd ha1.bd hn
  have k3 := fun w => vmulDiv_any a0 a1 (r - 16777216) 0 w ha0.bd ha1.bd hn
  rw [flr_zero, flr_zero] at k3
  have K := Lib.hid (And.intro k1 (And.intro j1 (And.intro k2 (And.intro j2 k3))))
  clear k1 k2 k3 j1 j2
  go_wp2_with fail
  refine wp_region_made (by kernel_rfl) (by kernel_rfl) ?_
  intro W hK
  have g_va0 := fun x => carry ((hK.below x)) va0
  have g_va1 := fun x => carry ((hK.below x)) va1
  repeat (go_big_quiet_step ((first | (go_at_call 21; with_reducible exact met_made (K.out.1 _)) | (go_at_call 22; with_reducible exact met_made (K.out.2.1 _)) | (go_at_call 23; with_reducible exact met_made (K.out.2.2.1 _)) | (go_at_call 24; with_reducible exact met_made (K.out.2.2.2.1 _)) | (go_at_call 23; with_reducible exact met_made (K.out.2.2.2.2 _)) | (go_at_call 25; with_reducible exact met_made (lives2_any _)))))
  refine wpQuiet_nil ?_
  intro wq hw'
  have hbq := kept_in hK hw'
  clear g_va0 g_va1
  clear hw' hK W
  replace va0 := carry (hbq) va0
  replace va1 := carry (hbq) va1
  go_wp2
  go_ret
  exact ⟨rfl, below_step hB hbq⟩

set_option maxRecDepth 100000 in
theorem lifted (os : Os) (started : os.Started) (H : Type) (enc : TypeId × Value → H) :
    ReturnsInHanded {} Try.checked os 3 .any (Rows.vecComponentsSpec.pre6 enc Try.prog Try.f3 Rows.vecComponentsRow.domain false) (Rows.vecComponentsSpec.post enc Try.prog Try.f3 false true false false) := by
  refine returnsInHanded_of_change (C := Try.checked) own started (by kernel_rfl) Try.func3
    (ChangeSpec.witness6 (enc := enc) (C := Try.checked) false ⟨#[], #[.agg #[.int .i64 0, .int .i64 0, .int .i64 0, .int .i64 0], .int .i64 0, .int .i64 0], []⟩ 8 (by kernel_rfl) (by kernel_rfl) (by kernel_rfl) (by kernel_rfl)) ?_
  intro W base args ds gs before hval0 hW hcnd _
  have hval : ∀ (j : Nat) t v, Try.f3.params[j]? = some t → args[j]? = some v → Value.okWide Try.prog W .any base t v := hval0
  have hW' := hW
  obtain ⟨p, q, hA0, hV, rfl, hfz, hnd⟩ := hW
  have hA : DataW.TrodAll enc Try.prog W 0 (fun _ => true) true Try.f3.params.toList args.toList ds p := hA0
  rw [Try.params3] at hA hval
  obtain ⟨v0, vs0, d0, ds0, p0, q0, hargs, rfl, rfl, h0, r0⟩ := trodAll_cons hA
  obtain ⟨v1, vs1, d1, ds1, p1, q1, rfl, rfl, rfl, h1, r1⟩ := trodAll_cons r0
  obtain ⟨v2, vs2, d2, ds2, p2, q2, rfl, rfl, rfl, h2, r2⟩ := trodAll_cons r1
  obtain ⟨rfl, rfl, rfl⟩ := trodAll_nil r2
  obtain rfl : args = #[v0, v1, v2] := by cases args; simp_all
  obtain ⟨rfl, rfl⟩ := trodVars_none hV
  obtain ⟨z0, l0, e0, rfl, rfl, y0⟩ := open_arr Try.underlying22 Try.underlying3 (by kernel_rfl) (by kernel_rfl) (hval 0 22 v0 rfl rfl) h0
  obtain ⟨a0_0, a0_1, a0_2, a0_3, rfl⟩ := list4 l0
  simp only [List.map_cons, List.map_nil] at e0
  subst e0
  obtain ⟨a1, rfl, rfl, rfl, w1⟩ := open_int Try.underlying3 (hval 1 3 v1 rfl rfl) h1
  obtain ⟨a2, rfl, rfl, rfl, w2⟩ := open_int Try.underlying3 (hval 2 3 v2 rfl rfl) h2
  clear hA0 hval0
  simp only [List.append_nil] at hW'
  refine (walk a0_0 a0_1 a0_2 a0_3 (y0 _ (by simp)) (y0 _ (by simp)) (y0 _ (by simp)) (y0 _ (by simp)) a1 w1 a2 w2 W).mono fun e W' ⟨he, hb⟩ => ?_
  subst he
  exact ⟨_, rfl, kept_post (pa := []) hW' (fun _ _ _ => (trodAll_cons_mk (shut_bool Try.underlying4 _) trodAll_mk0)) (fun sp _ => (trodAll_cons_mk (shut_arr Try.underlying22 Try.underlying3 (by kernel_rfl) (by kernel_rfl) rfl y0) (trodAll_cons_mk (shut_int Try.underlying3 w1) (trodAll_cons_mk (shut_int Try.underlying3 w2) trodAll_mk0)))) (fun _ => rfl) hb (ok_one (by kernel_rfl) rfl (okWide_bool_mk Try.underlying4 _))⟩

theorem over : Rows.vecComponentsRow.holds Try.pinned (OpenSpec.ofChange Rows.vecComponentsSpec) :=
  OpenClaim.holds_of_wide 3 Try.f3 rfl rfl rfl rfl rfl rfl rfl ⟨rfl, rfl, rfl, rfl, rfl⟩ rfl rfl rfl rfl rfl (by kernel_rfl) Try.func3 (by kernel_rfl)
    (of_decide_eq_true (by kernel_rfl)) (by unfold Func.isWrapper; first | (rw [if_pos (by decide +kernel)]; kernel_rfl) | (rw [if_neg (by decide +kernel)]; exact ⟨rfl, rfl⟩))
    (fun os started H enc _ => lifted os started H enc)

theorem proved : Rows.VecComponentsSaid :=
  over
#print axioms proved
end Go.Proofs.Ytapbeeifffpdgaa.vecComponents
