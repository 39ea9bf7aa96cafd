/-
  Proved: arenanetlaw02.VecGroup returns true for every array of six ints and leaves its argument as it was. No further condition.
-/
import Derived.Test.YtapbeeifffpdgaaRows
import Derived.WalkKit
import Derived.ProofKit
import Derived.OpenShut
import Derived.Test.YtapbeeifffpdgaaLawKit
import Derived.Test.YtapbeeifffpdgaaVecC
namespace Go.Proofs.Ytapbeeifffpdgaa.vecGroup
open Go.ChangeShapes Go.WideShapes Go.ChangeAt Go.RowKit
set_option linter.unusedVariables false
set_option linter.unusedSimpArgs false

open Fxm
theorem own : ownKnob Try.prog.godebug = none := by kernel_rfl

set_option maxHeartbeats 2000000 in
theorem walk (a0_0 : Int) (a0_1 : Int) (a0_2 : Int) (a0_3 : Int) (a0_4 : Int) (a0_5 : Int) (w0_0 : (Lit.int .i64 a0_0).wf = true) (w0_1 : (Lit.int .i64 a0_1).wf = true) (w0_2 : (Lit.int .i64 a0_2).wf = true) (w0_3 : (Lit.int .i64 a0_3).wf = true) (w0_4 : (Lit.int .i64 a0_4).wf = true) (w0_5 : (Lit.int .i64 a0_5).wf = true) (w : World) :
    Calls Try.prog 5 #[.agg #[.int .i64 a0_0, .int .i64 a0_1, .int .i64 a0_2, .int .i64 a0_3, .int .i64 a0_4, .int .i64 a0_5]] w fun e w' => e = .returned (.bool true) ∧ Below w.heap.size w w' := by
  go_enter Try.func5, Try.ntmps5
  go_wp2_with fail
  refine (of_any _ _ _ w0_0 w0_1).mono ?_
  rintro e w1 ⟨⟨a0, a1, ha0, ha1, rfl⟩, hb1⟩
  have x0 := carry (hb1) (a := ⟨w.heap.size, 0, none⟩) (v := .int .i64 a0_0) (by simp)
  have x1 := carry (hb1) (a := ⟨w.heap.size, 1, none⟩) (v := .int .i64 a0_1) (by simp)
  have x2 := carry (hb1) (a := ⟨w.heap.size, 2, none⟩) (v := .int .i64 a0_2) (by simp)
  have x3 := carry (hb1) (a := ⟨w.heap.size, 3, none⟩) (v := .int .i64 a0_3) (by simp)
  have x4 := carry (hb1) (a := ⟨w.heap.size, 4, none⟩) (v := .int .i64 a0_4) (by simp)
  have x5 := carry (hb1) (a := ⟨w.heap.size, 5, none⟩) (v := .int .i64 a0_5) (by simp)
  have hB := below_step (alloc_below _ _) hb1
  have n1 := block_lt_of_cell x0
  clear hb1 x0 x1
  go_wp2_with fail
  refine (of_any _ _ _ w0_2 w0_3).mono ?_
  rintro e w2 ⟨⟨b0, b1, hb0, hb1, rfl⟩, hb2⟩
  have va0 := carry (hb2) (a := ⟨w1.heap.size, 0, none⟩) (v := .int .i64 a0) (by simp)
  have va1 := carry (hb2) (a := ⟨w1.heap.size, 1, none⟩) (v := .int .i64 a1) (by simp)
  replace x4 := carry (below_step (alloc_below _ _) hb2) x4
  replace x5 := carry (below_step (alloc_below _ _) hb2) x5
  replace hB := below_step hB (below_step (alloc_below _ _) hb2)
  replace n1 := block_lt_of_cell x4
  have n2 := block_lt_of_cell va0
  clear hb2 x2 x3
  go_wp2_with fail
  refine (of_any _ _ _ w0_4 w0_5).mono ?_
  rintro e w3 ⟨⟨c0, c1, hc0, hc1, rfl⟩, hb3⟩
  have vb0 := carry (hb3) (a := ⟨w2.heap.size, 0, none⟩) (v := .int .i64 b0) (by simp)
  have vb1 := carry (hb3) (a := ⟨w2.heap.size, 1, none⟩) (v := .int .i64 b1) (by simp)
  replace va0 := carry (below_step (alloc_below _ _) hb3) va0
  replace va1 := carry (below_step (alloc_below _ _) hb3) va1
  replace hB := below_step hB (below_step (alloc_below _ _) hb3)
  clear hb3 x4 x5
  go_wp2_with fail
  refine (part_any _ _ _ _ hc0 hc1 (by omega)).mono ?_
  rintro e w4 ⟨⟨p0, p1, hp0, hp1, rfl⟩, hb4⟩
  clear hc0 hc1
  replace va0 := carry (hb4) va0
  replace va1 := carry (hb4) va1
  replace vb0 := carry (hb4) vb0
  replace vb1 := carry (hb4) vb1
  replace hB := below_step hB hb4
  have n1 := block_lt_of_cell va0
  have n2 := block_lt_of_cell vb0
  clear hb4
  have k1 := fun w => add_any a0 a1 b0 b1 w ha0.bd ha1.bd hb0.bd hb1.bd
  have k2 := fun w => add_any b0 b1 a0 a1 w hb0.bd hb1.bd ha0.bd ha1.bd
  have k3 := fun w => sub_any (a0 + b0) (a1 + b1) b0 b1 w (ha0.add hb0) (ha1.add hb1) hb0.bd hb1.bd
  have k4 := fun w => neg_any a0 a1 w ha0.bd ha1.bd
  have k5 := fun w => add_any a0 a1 (-a0) (-a1) w ha0.bd ha1.bd ha0.neg.bd ha1.neg.bd
  rw [Int.add_comm b0 a0, Int.add_comm b1 a1] at k2
  rw [Int.add_sub_cancel, Int.add_sub_cancel] at k3
  rw [Int.add_right_neg, Int.add_right_neg] at k5
  have K := Lib.hid (And.intro k1 (And.intro k2 (And.intro k3 (And.intro k4 k5))))
  clear k1 k2 k3 k4 k5
  go_wp2_with fail
  refine wp_region_made (by kernel_rfl) (by kernel_rfl) ?_
  intro W hK
  have g_va0 := fun x => carry (below_step (alloc_below _ _) (hK.below x)) va0
  have g_va1 := fun x => carry (below_step (alloc_below _ _) (hK.below x)) va1
  have g_vb0 := fun x => carry (below_step (alloc_below _ _) (hK.below x)) vb0
  have g_vb1 := fun x => carry (below_step (alloc_below _ _) (hK.below x)) vb1
  repeat (go_big_quiet_step ((first | (go_at_call 13; with_reducible exact met_made (K.out.1 _)) | (go_at_call 13; with_reducible exact met_made (K.out.2.1 _)) | (go_at_call 15; with_reducible exact met_made (K.out.2.2.1 _)) | (go_at_call 17; with_reducible exact met_made (K.out.2.2.2.1 _)) | (go_at_call 13; with_reducible exact met_made (K.out.2.2.2.2 _)))))
  refine wpQuiet_nil ?_
  intro wq hw'
  have hbq := kept_in hK hw'
  clear g_va0 g_va1 g_vb0 g_vb1
  clear hw' hK W
  replace va0 := carry (below_step (alloc_below _ _) hbq) va0
  replace va1 := carry (below_step (alloc_below _ _) hbq) va1
  replace vb0 := carry (below_step (alloc_below _ _) hbq) vb0
  replace vb1 := carry (below_step (alloc_below _ _) hbq) vb1
  have vc0 := carry (hbq) (a := ⟨w4.heap.size, 0, none⟩) (v := .int .i64 p0) (by simp)
  have vc1 := carry (hbq) (a := ⟨w4.heap.size, 1, none⟩) (v := .int .i64 p1) (by simp)
  replace hB := below_step hB (below_step (alloc_below _ _) hbq)
  clear hbq K
  go_wp2_with fail
  refine (part_any _ _ _ _ ha0 ha1 (by omega)).mono ?_
  rintro e w5 ⟨⟨q0, q1, hq0, hq1, rfl⟩, hb5⟩
  replace va0 := carry (hb5) va0
  replace va1 := carry (hb5) va1
  replace vb0 := carry (hb5) vb0
  replace vb1 := carry (hb5) vb1
  replace vc0 := carry (hb5) vc0
  replace vc1 := carry (hb5) vc1
  replace hB := below_step hB hb5
  have n1 := block_lt_of_cell va0
  have n2 := block_lt_of_cell vb0
  have n3 := block_lt_of_cell vc0
  clear hb5
  go_wp2_with fail
  refine (part_any _ _ _ _ hb0 hb1 (by omega)).mono ?_
  rintro e w6 ⟨⟨r0, r1, hr0, hr1, rfl⟩, hb6⟩
  replace va0 := carry (below_step (alloc_below _ _) hb6) va0
  replace va1 := carry (below_step (alloc_below _ _) hb6) va1
  replace vb0 := carry (below_step (alloc_below _ _) hb6) vb0
  replace vb1 := carry (below_step (alloc_below _ _) hb6) vb1
  replace vc0 := carry (below_step (alloc_below _ _) hb6) vc0
  replace vc1 := carry (below_step (alloc_below _ _) hb6) vc1
  have vq0 := carry (hb6) (a := ⟨w5.heap.size, 0, none⟩) (v := .int .i64 q0) (by simp)
  have vq1 := carry (hb6) (a := ⟨w5.heap.size, 1, none⟩) (v := .int .i64 q1) (by simp)
  replace hB := below_step hB (below_step (alloc_below _ _) hb6)
  have n1 := block_lt_of_cell va0
  have n2 := block_lt_of_cell vb0
  have n3 := block_lt_of_cell vc0
  have n4 := block_lt_of_cell vq0
  clear hb6
  have k1 := fun w => add_any q0 q1 r0 r1 w hq0.bd hq1.bd hr0.bd hr1.bd
  have k2 := fun w => add_any (q0 + r0) (q1 + r1) p0 p1 w (hq0.add hr0) (hq1.add hr1) hp0.bd hp1.bd
  have k3 := fun w => add_any r0 r1 p0 p1 w hr0.bd hr1.bd hp0.bd hp1.bd
  have k4 := fun w => add_any q0 q1 (r0 + p0) (r1 + p1) w hq0.bd hq1.bd (hr0.add hp0) (hr1.add hp1)
  have k5 := fun w => add_any a0 a1 0 0 w ha0.bd ha1.bd bd_zero bd_zero
  have k6 := fun w => sub_any a0 a1 b0 b1 w ha0.bd ha1.bd hb0.bd hb1.bd
  have k7 := fun w => neg_any b0 b1 w hb0.bd hb1.bd
  have k8 := fun w => add_any a0 a1 (-b0) (-b1) w ha0.bd ha1.bd hb0.neg.bd hb1.neg.bd
  rw [← Int.add_assoc, ← Int.add_assoc] at k4
  rw [Int.add_zero, Int.add_zero] at k5
  rw [← Int.sub_eq_add_neg, ← Int.sub_eq_add_neg] at k8
  have K := Lib.hid (And.intro k1 (And.intro k2 (And.intro k3 (And.intro k4 (And.intro k5 (And.intro k6 (And.intro k7 k8)))))))
  clear k1 k2 k3 k4 k5 k6 k7 k8
  have hr := below_step hB (alloc_below w6 (.cells #[.int .i64 r0, .int .i64 r1] 24))
  go_wp2_with fail
  have vr0 := World.cell?_alloc_new (w := w6) #[.int .i64 r0, .int .i64 r1] 24 0
  have vr1 := World.cell?_alloc_new (w := w6) #[.int .i64 r0, .int .i64 r1] 24 1
  replace va0 := carry (alloc_below w6 (.cells #[.int .i64 r0, .int .i64 r1] 24)) va0
  replace va1 := carry (alloc_below w6 (.cells #[.int .i64 r0, .int .i64 r1] 24)) va1
  replace vb0 := carry (alloc_below w6 (.cells #[.int .i64 r0, .int .i64 r1] 24)) vb0
  replace vb1 := carry (alloc_below w6 (.cells #[.int .i64 r0, .int .i64 r1] 24)) vb1
  replace vc0 := carry (alloc_below w6 (.cells #[.int .i64 r0, .int .i64 r1] 24)) vc0
  replace vc1 := carry (alloc_below w6 (.cells #[.int .i64 r0, .int .i64 r1] 24)) vc1
  replace vq0 := carry (alloc_below w6 (.cells #[.int .i64 r0, .int .i64 r1] 24)) vq0
  replace vq1 := carry (alloc_below w6 (.cells #[.int .i64 r0, .int .i64 r1] 24)) vq1
  refine wp_region_made (by kernel_rfl) (by kernel_rfl) ?_
  intro W hK
  have g_va0 := fun x => carry ((hK.below x)) va0
  have g_va1 := fun x => carry ((hK.below x)) va1
  have g_vb0 := fun x => carry ((hK.below x)) vb0
  have g_vb1 := fun x => carry ((hK.below x)) vb1
  have g_vc0 := fun x => carry ((hK.below x)) vc0
  have g_vc1 := fun x => carry ((hK.below x)) vc1
  have g_vq0 := fun x => carry ((hK.below x)) vq0
  have g_vq1 := fun x => carry ((hK.below x)) vq1
  have g_vr0 := fun x => carry ((hK.below x)) vr0
  have g_vr1 := fun x => carry ((hK.below x)) vr1
  repeat (go_big_quiet_step ((first | (go_at_call 13; with_reducible exact met_made (K.out.1 _)) | (go_at_call 13; with_reducible exact met_made (K.out.2.1 _)) | (go_at_call 13; with_reducible exact met_made (K.out.2.2.1 _)) | (go_at_call 13; with_reducible exact met_made (K.out.2.2.2.1 _)) | (go_at_call 13; with_reducible exact met_made (K.out.2.2.2.2.1 _)) | (go_at_call 15; with_reducible exact met_made (K.out.2.2.2.2.2.1 _)) | (go_at_call 17; with_reducible exact met_made (K.out.2.2.2.2.2.2.1 _)) | (go_at_call 13; with_reducible exact met_made (K.out.2.2.2.2.2.2.2 _)) | (go_at_call 25; with_reducible exact met_made (lives2_any _)))))
  refine wpQuiet_nil ?_
  intro wq hw'
  have hbq := kept_in hK hw'
  clear g_va0 g_va1 g_vb0 g_vb1 g_vc0 g_vc1 g_vq0 g_vq1 g_vr0 g_vr1
  clear hw' hK W
  replace va0 := carry (hbq) va0
  replace va1 := carry (hbq) va1
  replace vb0 := carry (hbq) vb0
  replace vb1 := carry (hbq) vb1
  replace vc0 := carry (hbq) vc0
  replace vc1 := carry (hbq) vc1
  replace vq0 := carry (hbq) vq0
  replace vq1 := carry (hbq) vq1
  replace vr0 := carry (hbq) vr0
  replace vr1 := carry (hbq) vr1
  go_wp2
  go_ret
  exact ⟨rfl, below_step hr hbq⟩

set_option maxRecDepth 100000 in
theorem lifted (os : Os) (started : os.Started) (H : Type) (enc : TypeId × Value → H) :
    ReturnsInHanded {} Try.checked os 5 .any (Rows.vecGroupSpec.pre6 enc Try.prog Try.f5 Rows.vecGroupRow.domain false) (Rows.vecGroupSpec.post enc Try.prog Try.f5 false true false false) := by
  refine returnsInHanded_of_change (C := Try.checked) own started (by kernel_rfl) Try.func5
    (ChangeSpec.witness6 (enc := enc) (C := Try.checked) false ⟨#[], #[.agg #[.int .i64 0, .int .i64 0, .int .i64 0, .int .i64 0, .int .i64 0, .int .i64 0]], []⟩ 8 (by kernel_rfl) (by kernel_rfl) (by kernel_rfl) (by kernel_rfl)) ?_
  intro W base args ds gs before hval0 hW hcnd _
  have hval : ∀ (j : Nat) t v, Try.f5.params[j]? = some t → args[j]? = some v → Value.okWide Try.prog W .any base t v := hval0
  have hW' := hW
  obtain ⟨p, q, hA0, hV, rfl, hfz, hnd⟩ := hW
  have hA : DataW.TrodAll enc Try.prog W 0 (fun _ => true) true Try.f5.params.toList args.toList ds p := hA0
  rw [Try.params5] at hA hval
  obtain ⟨v0, vs0, d0, ds0, p0, q0, hargs, rfl, rfl, h0, r0⟩ := trodAll_cons hA
  obtain ⟨rfl, rfl, rfl⟩ := trodAll_nil r0
  obtain rfl : args = #[v0] := by cases args; simp_all
  obtain ⟨rfl, rfl⟩ := trodVars_none hV
  obtain ⟨z0, l0, e0, rfl, rfl, y0⟩ := open_arr Try.underlying36 Try.underlying3 (by kernel_rfl) (by kernel_rfl) (hval 0 36 v0 rfl rfl) h0
  obtain ⟨a0_0, a0_1, a0_2, a0_3, a0_4, a0_5, rfl⟩ := list6 l0
  simp only [List.map_cons, List.map_nil] at e0
  subst e0
  clear hA0 hval0
  simp only [List.append_nil] at hW'
  refine (walk a0_0 a0_1 a0_2 a0_3 a0_4 a0_5 (y0 _ (by simp)) (y0 _ (by simp)) (y0 _ (by simp)) (y0 _ (by simp)) (y0 _ (by simp)) (y0 _ (by simp)) W).mono fun e W' ⟨he, hb⟩ => ?_
  subst he
  exact ⟨_, rfl, kept_post (pa := []) hW' (fun _ _ _ => (trodAll_cons_mk (shut_bool Try.underlying4 _) trodAll_mk0)) (fun sp _ => (trodAll_cons_mk (shut_arr Try.underlying36 Try.underlying3 (by kernel_rfl) (by kernel_rfl) rfl y0) trodAll_mk0)) (fun _ => rfl) hb (ok_one (by kernel_rfl) rfl (okWide_bool_mk Try.underlying4 _))⟩

theorem over : Rows.vecGroupRow.holds Try.pinned (OpenSpec.ofChange Rows.vecGroupSpec) :=
  OpenClaim.holds_of_wide 5 Try.f5 rfl rfl rfl rfl rfl rfl rfl ⟨rfl, rfl, rfl, rfl, rfl⟩ rfl rfl rfl rfl rfl (by kernel_rfl) Try.func5 (by kernel_rfl)
    (of_decide_eq_true (by kernel_rfl)) (by unfold Func.isWrapper; first | (rw [if_pos (by decide +kernel)]; kernel_rfl) | (rw [if_neg (by decide +kernel)]; exact ⟨rfl, rfl⟩))
    (fun os started H enc _ => lifted os started H enc)

theorem proved : Rows.VecGroupSaid :=
  over
#print axioms proved
end Go.Proofs.Ytapbeeifffpdgaa.vecGroup
