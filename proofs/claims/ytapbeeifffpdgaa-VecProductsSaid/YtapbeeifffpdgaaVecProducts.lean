/-
  Proved: arenanetlaw02.VecProducts returns true for every array of four ints and leaves its argument as it was. No further condition.
-/
import Derived.Test.YtapbeeifffpdgaaRows
import Derived.WalkKit
import Derived.ProofKit
import Derived.OpenShut
import Derived.Test.YtapbeeifffpdgaaLawKit
import Derived.Test.YtapbeeifffpdgaaVecC
namespace Go.Proofs.Ytapbeeifffpdgaa.vecProducts
open Go.ChangeShapes Go.WideShapes Go.ChangeAt Go.RowKit
set_option linter.unusedVariables false
set_option linter.unusedSimpArgs false

open Fxm
theorem own : ownKnob Try.prog.godebug = none := by kernel_rfl

set_option maxHeartbeats 2000000 in
theorem walk (a0_0 : Int) (a0_1 : Int) (a0_2 : Int) (a0_3 : Int) (w0_0 : (Lit.int .i64 a0_0).wf = true) (w0_1 : (Lit.int .i64 a0_1).wf = true) (w0_2 : (Lit.int .i64 a0_2).wf = true) (w0_3 : (Lit.int .i64 a0_3).wf = true) (w : World) :
    Calls Try.prog 4 #[.agg #[.int .i64 a0_0, .int .i64 a0_1, .int .i64 a0_2, .int .i64 a0_3]] w fun e w' => e = .returned (.bool true) ∧ Below w.heap.size w w' := by
  go_enter Try.func4, Try.ntmps4
  go_wp2_with fail
  refine (of_any _ _ _ w0_0 w0_1).mono ?_
  rintro e w1 ⟨⟨a0, a1, ha0, ha1, rfl⟩, hb1⟩
  have x0 := carry (hb1) (a := ⟨w.heap.size, 0, none⟩) (v := .int .i64 a0_0) (by simp)
  have x1 := carry (hb1) (a := ⟨w.heap.size, 1, none⟩) (v := .int .i64 a0_1) (by simp)
  have x2 := carry (hb1) (a := ⟨w.heap.size, 2, none⟩) (v := .int .i64 a0_2) (by simp)
  have x3 := carry (hb1) (a := ⟨w.heap.size, 3, none⟩) (v := .int .i64 a0_3) (by simp)
  have hB := below_step (alloc_below _ _) hb1
  have n1 := block_lt_of_cell x0
  clear hb1 x0 x1
  go_wp2_with fail
  refine (of_any _ _ _ w0_2 w0_3).mono ?_
  rintro e w2 ⟨⟨b0, b1, hb0, hb1, rfl⟩, hb2⟩
  have va0 := carry (hb2) (a := ⟨w1.heap.size, 0, none⟩) (v := .int .i64 a0) (by simp)
  have va1 := carry (hb2) (a := ⟨w1.heap.size, 1, none⟩) (v := .int .i64 a1) (by simp)
  replace hB := below_step (below_step hB (below_step (alloc_below _ _) hb2)) (alloc_below w2 (.cells #[.int .i64 b0, .int .i64 b1] 24))
  clear hb2 x2 x3 n1
  have vb0 := World.cell?_alloc_new (w := w2) #[.int .i64 b0, .int .i64 b1] 24 0
  have vb1 := World.cell?_alloc_new (w := w2) #[.int .i64 b0, .int .i64 b1] 24 1
  replace va0 := carry (alloc_below w2 (.cells #[.int .i64 b0, .int .i64 b1] 24)) va0
  replace va1 := carry (alloc_below w2 (.cells #[.int .i64 b0, .int .i64 b1] 24)) va1
  go_wp2_with fail
  have k1 := fun w => dot_any a0 a1 b0 b1 w ha0.bd ha1.bd hb0.bd hb1.bd
  have j1 := fun w => refDot_any a0 a1 b0 b1 w ha0.bd ha1.bd hb0.bd hb1.bd
  have k2 := fun w => cross_any a0 a1 b0 b1 w ha0.bd ha1.bd hb0.bd hb1.bd
  have j2 := fun w => refCross_any a0 a1 b0 b1 w ha0.bd ha1.bd hb0.bd hb1.bd
  have k3 := fun w => len_any a0 a1 w ha0.bd ha1.bd
  have j3 := fun w => refLen_any a0 a1 w ha0.bd ha1.bd
  have k4 := fun w => normalize_any a0 a1 w ha0.bd ha1.bd
  have j4 := fun w => refNormalize_any a0 a1 w ha0.bd ha1.bd
  have k5 := fun w => normalize_any 0 0 w bd_zero bd_zero
  rw [Int.zero_mul, show flr 0 (isq (0 * 0 + 0 * 0)) = 0 from by decide] at k5
  obtain ⟨u1, hu1⟩ : ∃ u, u = flr (a0 * b0 + a1 * b1) 1024 := ⟨_, rfl⟩
  obtain ⟨u2, hu2⟩ : ∃ u, u = flr (a0 * b1 - a1 * b0) 1024 := ⟨_, rfl⟩
  obtain ⟨u4, hu4⟩ : ∃ u, u = flr (a0 * 1024) (isq (a0 * a0 + a1 * a1)) := ⟨_, rfl⟩
  obtain ⟨u5, hu5⟩ : ∃ u, u = flr (a1 * 1024) (isq (a0 * a0 + a1 * a1)) := ⟨_, rfl⟩
  obtain ⟨u3, hu3⟩ : ∃ u, u = isq (a0 * a0 + a1 * a1) := ⟨_, rfl⟩
  rw [← hu1] at k1 j1
  rw [← hu2] at k2 j2
  rw [← hu4, ← hu5] at k4 j4
  rw [← hu3] at k3 j3
  clear hu1 hu2 hu3 hu4 hu5
  have K := Lib.hid (And.intro k1 (And.intro j1 (And.intro k2 (And.intro j2 (And.intro k3 (And.intro j3 (And.intro k4 (And.intro j4 k5))))))))
  clear k1 k2 k3 k4 j1 j2 j3 j4 k5
  refine wp_region_made (by kernel_rfl) (by kernel_rfl) ?_
  intro W hK
  have g_va0 := fun x => carry ((hK.below x)) va0
  have g_va1 := fun x => carry ((hK.below x)) va1
  have g_vb0 := fun x => carry ((hK.below x)) vb0
  have g_vb1 := fun x => carry ((hK.below x)) vb1
  repeat (go_big_quiet_step ((first | (go_at_call 26; with_reducible exact met_made (K.out.1 _)) | (go_at_call 27; with_reducible exact met_made (K.out.2.1 _)) | (go_at_call 28; with_reducible exact met_made (K.out.2.2.1 _)) | (go_at_call 29; with_reducible exact met_made (K.out.2.2.2.1 _)) | (go_at_call 30; with_reducible exact met_made (K.out.2.2.2.2.1 _)) | (go_at_call 31; with_reducible exact met_made (K.out.2.2.2.2.2.1 _)) | (go_at_call 32; with_reducible exact met_made (K.out.2.2.2.2.2.2.1 _)) | (go_at_call 33; with_reducible exact met_made (K.out.2.2.2.2.2.2.2.1 _)) | (go_at_call 32; with_reducible exact met_made (K.out.2.2.2.2.2.2.2.2 _)) | (go_at_call 25; with_reducible exact met_made (lives2_any _)))))
  refine wpQuiet_nil ?_
  intro wq hw'
  have hbq := kept_in hK hw'
  clear g_va0 g_va1 g_vb0 g_vb1
  clear hw' hK W
  replace va0 := carry (hbq) va0
  replace va1 := carry (hbq) va1
  replace vb0 := carry (hbq) vb0
  replace vb1 := carry (hbq) vb1
  go_wp2
  go_ret
  exact ⟨rfl, below_step hB hbq⟩

set_option maxRecDepth 100000 in
theorem lifted (os : Os) (started : os.Started) (H : Type) (enc : TypeId × Value → H) :
    ReturnsInHanded {} Try.checked os 4 .any (Rows.vecProductsSpec.pre6 enc Try.prog Try.f4 Rows.vecProductsRow.domain false) (Rows.vecProductsSpec.post enc Try.prog Try.f4 false true false false) := by
  refine returnsInHanded_of_change (C := Try.checked) own started (by kernel_rfl) Try.func4
    (ChangeSpec.witness6 (enc := enc) (C := Try.checked) false ⟨#[], #[.agg #[.int .i64 0, .int .i64 0, .int .i64 0, .int .i64 0]], []⟩ 8 (by kernel_rfl) (by kernel_rfl) (by kernel_rfl) (by kernel_rfl)) ?_
  intro W base args ds gs before hval0 hW hcnd _
  have hval : ∀ (j : Nat) t v, Try.f4.params[j]? = some t → args[j]? = some v → Value.okWide Try.prog W .any base t v := hval0
  have hW' := hW
  obtain ⟨p, q, hA0, hV, rfl, hfz, hnd⟩ := hW
  have hA : DataW.TrodAll enc Try.prog W 0 (fun _ => true) true Try.f4.params.toList args.toList ds p := hA0
  rw [Try.params4] at hA hval
  obtain ⟨v0, vs0, d0, ds0, p0, q0, hargs, rfl, rfl, h0, r0⟩ := trodAll_cons hA
  obtain ⟨rfl, rfl, rfl⟩ := trodAll_nil r0
  obtain rfl : args = #[v0] := by cases args; simp_all
  obtain ⟨rfl, rfl⟩ := trodVars_none hV
  obtain ⟨z0, l0, e0, rfl, rfl, y0⟩ := open_arr Try.underlying22 Try.underlying3 (by kernel_rfl) (by kernel_rfl) (hval 0 22 v0 rfl rfl) h0
  obtain ⟨a0_0, a0_1, a0_2, a0_3, rfl⟩ := list4 l0
  simp only [List.map_cons, List.map_nil] at e0
  subst e0
  clear hA0 hval0
  simp only [List.append_nil] at hW'
  refine (walk a0_0 a0_1 a0_2 a0_3 (y0 _ (by simp)) (y0 _ (by simp)) (y0 _ (by simp)) (y0 _ (by simp)) W).mono fun e W' ⟨he, hb⟩ => ?_
  subst he
  exact ⟨_, rfl, kept_post (pa := []) hW' (fun _ _ _ => (trodAll_cons_mk (shut_bool Try.underlying4 _) trodAll_mk0)) (fun sp _ => (trodAll_cons_mk (shut_arr Try.underlying22 Try.underlying3 (by kernel_rfl) (by kernel_rfl) rfl y0) trodAll_mk0)) (fun _ => rfl) hb (ok_one (by kernel_rfl) rfl (okWide_bool_mk Try.underlying4 _))⟩

theorem over : Rows.vecProductsRow.holds Try.pinned (OpenSpec.ofChange Rows.vecProductsSpec) :=
  OpenClaim.holds_of_wide 4 Try.f4 rfl rfl rfl rfl rfl rfl rfl ⟨rfl, rfl, rfl, rfl, rfl⟩ rfl rfl rfl rfl rfl (by kernel_rfl) Try.func4 (by kernel_rfl)
    (of_decide_eq_true (by kernel_rfl)) (by unfold Func.isWrapper; first | (rw [if_pos (by decide +kernel)]; kernel_rfl) | (rw [if_neg (by decide +kernel)]; exact ⟨rfl, rfl⟩))
    (fun os started H enc _ => lifted os started H enc)

theorem proved : Rows.VecProductsSaid :=
  over
#print axioms proved
end Go.Proofs.Ytapbeeifffpdgaa.vecProducts
