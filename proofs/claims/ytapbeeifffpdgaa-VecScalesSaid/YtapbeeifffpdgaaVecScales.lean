/-
  Proved: arenanetlaw02.VecScales returns true for every array of four ints and all ints f and n, and leaves its arguments as they were. No further condition.
-/
import Derived.Test.YtapbeeifffpdgaaRows
import Derived.WalkKit
import Derived.ProofKit
import Derived.OpenShut
import Derived.Test.YtapbeeifffpdgaaLawKit
import Derived.Test.YtapbeeifffpdgaaVecC
import Derived.Test.YtapbeeifffpdgaaMadeAlloc
namespace Go.Proofs.Ytapbeeifffpdgaa.vecScales
open Go.ChangeShapes Go.WideShapes Go.ChangeAt Go.RowKit
set_option linter.unusedVariables false
set_option linter.unusedSimpArgs false

open Fxm
theorem own : ownKnob Try.prog.godebug = none := by kernel_rfl

set_option maxHeartbeats 2000000 in
theorem walk (a0_0 : Int) (a0_1 : Int) (a0_2 : Int) (a0_3 : Int) (w0_0 : (Lit.int .i64 a0_0).wf = true) (w0_1 : (Lit.int .i64 a0_1).wf = true) (w0_2 : (Lit.int .i64 a0_2).wf = true) (w0_3 : (Lit.int .i64 a0_3).wf = true) (a1 : Int) (w1 : (Lit.int .i64 a1).wf = true) (a2 : Int) (w2 : (Lit.int .i64 a2).wf = true) (w : World) :
    Calls Try.prog 10 #[.agg #[.int .i64 a0_0, .int .i64 a0_1, .int .i64 a0_2, .int .i64 a0_3], .int .i64 a1, .int .i64 a2] w fun e w' => e = .returned (.bool true) ∧ Below w.heap.size w w' := by
  obtain ⟨f1, f2⟩ := bounds_i64 w1
  obtain ⟨d1, d2⟩ := bounds_i64 w2
  clear w1 w2
  go_enter Try.func10, Try.ntmps10
  go_wp2_with fail
  refine (of_any _ _ _ w0_0 w0_1).mono ?_
  rintro e w1 ⟨⟨a0, a1, ha0, ha1, rfl⟩, hb1⟩
  have x0 := carry (hb1) (a := ⟨w.heap.size, 0, none⟩) (v := .int .i64 a0_0) (by simp)
  have x1 := carry (hb1) (a := ⟨w.heap.size, 1, none⟩) (v := .int .i64 a0_1) (by simp)
  have x2 := carry (hb1) (a := ⟨w.heap.size, 2, none⟩) (v := .int .i64 a0_2) (by simp)
  have x3 := carry (hb1) (a := ⟨w.heap.size, 3, none⟩) (v := .int .i64 a0_3) (by simp)
  have hB := below_step (alloc_below _ _) hb1
  have n1 := block_lt_of_cell x0
  clear hb1 x0 x1
  go_wp2_with fail
  refine (of_any _ _ _ w0_2 w0_3).mono ?_
  rintro e w2 ⟨⟨b0, b1, hb0, hb1, rfl⟩, hb2⟩
  have va0 := carry (hb2) (a := ⟨w1.heap.size, 0, none⟩) (v := .int .i64 a0) (by simp)
  have va1 := carry (hb2) (a := ⟨w1.heap.size, 1, none⟩) (v := .int .i64 a1) (by simp)
  replace hB := below_step (below_step hB (below_step (alloc_below _ _) hb2)) (alloc_below w2 (.cells #[.int .i64 b0, .int .i64 b1] 24))
  clear hb2 x2 x3 n1
  have vb0 := World.cell?_alloc_new (w := w2) #[.int .i64 b0, .int .i64 b1] 24 0
  have vb1 := World.cell?_alloc_new (w := w2) #[.int .i64 b0, .int .i64 b1] 24 1
  replace va0 := carry (alloc_below w2 (.cells #[.int .i64 b0, .int .i64 b1] 24)) va0
  replace va1 := carry (alloc_below w2 (.cells #[.int .i64 b0, .int .i64 b1] 24)) va1
  go_wp2_with fail
  refine (boundx_any _ _ _ f1 f2 (by omega) (by omega)).mono ?_
  rintro e w' ⟨⟨k, kl, ku, rfl⟩, rfl⟩
  go_wp2_with fail
  refine (aroundx_any _ _ _ d1 d2 (by omega)).mono ?_
  rintro e w' ⟨⟨s, s1, s2, rfl⟩, rfl⟩
  go_wp2_with fail
  refine (add_any _ _ _ _ _ ha0.bd ha1.bd hb0.bd hb1.bd).mono ?_
  rintro e w3 ⟨rfl, hb3⟩
  replace va0 := carry (hb3) va0
  replace va1 := carry (hb3) va1
  replace vb0 := carry (hb3) vb0
  replace vb1 := carry (hb3) vb1
  replace hB := below_step hB hb3
  clear hb3
  have hk : Bd k := ⟨by omega, by omega⟩
  have hs : Bd (1 + s) := ⟨by omega, by omega⟩
  obtain ⟨x1, x2⟩ := scale_sum a0 b0 k
  obtain ⟨y1, y2⟩ := scale_sum a1 b1 k
  have ba0 := ha0.scaled kl ku
  have ba1 := ha1.scaled kl ku
  have bb0 := hb0.scaled kl ku
  have bb1 := hb1.scaled kl ku
  have k1 := fun w => scale_any (a0 + b0) (a1 + b1) k w (ha0.add hb0) (ha1.add hb1) hk
  have k2 := fun w => scale_any a0 a1 k w ha0.bd ha1.bd hk
  have k3 := fun w => scale_any b0 b1 k w hb0.bd hb1.bd hk
  have k4 := fun w => add_any (flr (a0 * k) 1024) (flr (a1 * k) 1024) (flr (b0 * k) 1024) (flr (b1 * k) 1024) w ba0.bd ba1.bd bb0.bd bb1.bd
  have k5 := fun w => scale_any a0 a1 1024 w ha0.bd ha1.bd bd_one
  have k6 := fun w => vmulDiv_any a0 a1 (1 + s) (1 + s) w ha0.bd ha1.bd hs
  have k7 := fun w => vmulDiv_any a0 a1 k 1024 w ha0.bd ha1.bd hk
  have k8 := fun w => scale_any a0 a1 0 w ha0.bd ha1.bd bd_zero
  have p0 := prod25 ha0.bd hk
  have k9 := fun w => mul_any a0 k w (by omega) (by omega)
  rw [flr_mul_self a0 (by omega), flr_mul_self a1 (by omega)] at k5 k6
  rw [Int.mul_zero, Int.mul_zero, show flr 0 1024 = 0 from by decide] at k8
  generalize flr ((a0 + b0) * k) 1024 = p at *
  generalize flr ((a1 + b1) * k) 1024 = q at *
  generalize flr (a0 * k) 1024 = u0 at *
  generalize flr (a1 * k) 1024 = u1 at *
  generalize flr (b0 * k) 1024 = t0 at *
  generalize flr (b1 * k) 1024 = t1 at *
  have K := Lib.hid (And.intro k1 (And.intro k2 (And.intro k3 (And.intro k4 (And.intro k5 (And.intro k6 (And.intro k7 (And.intro k8 k9))))))))
  clear k1 k2 k3 k4 k5 k6 k7 k8 k9 p0
  unfold Be at ba0 ba1 bb0 bb1
  have n1 := block_lt_of_cell va0
  have n2 := block_lt_of_cell vb0
  go_wp2_with fail
  refine (K.out.1 _).mono ?_
  rintro e w4 ⟨rfl, hb4⟩
  replace va0 := carry (below_step hb4 (alloc_below w4 (.cells #[.int .i64 p, .int .i64 q] 24))) va0
  replace va1 := carry (below_step hb4 (alloc_below w4 (.cells #[.int .i64 p, .int .i64 q] 24))) va1
  replace vb0 := carry (below_step hb4 (alloc_below w4 (.cells #[.int .i64 p, .int .i64 q] 24))) vb0
  replace vb1 := carry (below_step hb4 (alloc_below w4 (.cells #[.int .i64 p, .int .i64 q] 24))) vb1
  replace hB := below_step (below_step hB hb4) (alloc_below w4 (.cells #[.int .i64 p, .int .i64 q] 24))
  clear hb4
  have vp0 := World.cell?_alloc_new (w := w4) #[.int .i64 p, .int .i64 q] 24 0
  have vp1 := World.cell?_alloc_new (w := w4) #[.int .i64 p, .int .i64 q] 24 1
  go_wp2_with fail
  refine wp_region_alloc_last 7 (some 12) (.cells #[.int .i64 0, .int .i64 0] 24) (by kernel_rfl) (by kernel_rfl) ⟨_, rfl, rfl, fun _ => rfl, fun _ _ => by kernel_rfl⟩ ?_
  apply Exists.intro
  refine ⟨fun W hK E hE => ?_, ?_⟩
  · skip
    have g_va0 := fun x => carry ((hK.below x)) va0
    have g_va1 := fun x => carry ((hK.below x)) va1
    have g_vb0 := fun x => carry ((hK.below x)) vb0
    have g_vb1 := fun x => carry ((hK.below x)) vb1
    have g_vp0 := fun x => carry ((hK.below x)) vp0
    have g_vp1 := fun x => carry ((hK.below x)) vp1
    simp only [List.take_succ_cons, List.take_zero]
    repeat (go_big_quiet_step ((first | (go_at_call 21; with_reducible exact met_made (K.out.2.1 _)) | (go_at_call 21; with_reducible exact met_made (K.out.2.2.1 _)) | (go_at_call 13; with_reducible exact met_made (K.out.2.2.2.1 _)))))
    refine wpQuiet_nil ?_
    exact hE
  intro B wq hBB hbq hheap
  simp only [List.drop_succ_cons, List.drop_zero, Act.put, List.setIfInBounds_toArray, List.set_cons_zero, List.set_cons_succ]
  have hstep := (hbq.setCell (p := ⟨B, 0, none⟩) hBB (.int .i64 (u0 + t0))).setCell (p := ⟨B, 1, none⟩) hBB (.int .i64 (u1 + t1))
  replace va0 := carry (hstep) va0
  replace va1 := carry (hstep) va1
  replace vb0 := carry (hstep) vb0
  replace vb1 := carry (hstep) vb1
  replace vp0 := carry (hstep) vp0
  replace vp1 := carry (hstep) vp1
  have hh := heap_setCell (heap_setCell hheap 0 (.int .i64 (u0 + t0))) 1 (.int .i64 (u1 + t1))
  have vn0 := heap_cell hh 0
  have vn1 := heap_cell hh 1
  simp at vn0 vn1
  have hcB := heap_cell hheap
  have hfB := heap_frozen hheap
  clear hh hheap
  replace hB := below_step hB hstep
  clear hstep hbq
  have hfield : ∀ w, (Instr.field 24 (.agg #[.int .i64 u0, .int .i64 u1]) 0).run Try.prog w = .ok (.int .i64 u0) w := fun _ => by kernel_rfl
  have e1 : decide (p - (u0 + t0) < 0) = false := by simp only [decide_eq_false_iff_not]; omega
  have e2 : decide (1 < p - (u0 + t0)) = false := by simp only [decide_eq_false_iff_not]; omega
  have e3 : decide (q - (u1 + t1) < 0) = false := by simp only [decide_eq_false_iff_not]; omega
  have e4 : decide (1 < q - (u1 + t1)) = false := by simp only [decide_eq_false_iff_not]; omega
  go_wp2
  refine wp_region_made (by kernel_rfl) (by kernel_rfl) ?_
  intro W hK
  have g_va0 := fun x => carry ((hK.below x)) va0
  have g_va1 := fun x => carry ((hK.below x)) va1
  repeat (go_big_quiet_step ((first | (go_at_call 21; with_reducible exact met_made (K.out.2.2.2.2.1 _)) | (go_at_call 23; with_reducible exact met_made (K.out.2.2.2.2.2.1 _)) | (go_at_call 21; with_reducible exact met_made (K.out.2.1 _)) | (go_at_call 23; with_reducible exact met_made (K.out.2.2.2.2.2.2.1 _)) | (go_at_call 21; with_reducible exact met_made (K.out.2.2.2.2.2.2.2.1 _)) | (go_at_call 36; with_reducible exact met_drawn (K.out.2.2.2.2.2.2.2.2 _)) | (go_at_call 25; with_reducible exact met_made (lives2_any _)))))
  refine wpQuiet_nil ?_
  intro wq hw'
  have hbq := kept_in hK hw'
  clear g_va0 g_va1
  clear hw' hK W
  replace va0 := carry (hbq) va0
  replace va1 := carry (hbq) va1
  go_wp2
  go_ret
  exact ⟨rfl, below_step hB hbq⟩

set_option maxRecDepth 100000 in
theorem lifted (os : Os) (started : os.Started) (H : Type) (enc : TypeId × Value → H) :
    ReturnsInHanded {} Try.checked os 10 .any (Rows.vecScalesSpec.pre6 enc Try.prog Try.f10 Rows.vecScalesRow.domain false) (Rows.vecScalesSpec.post enc Try.prog Try.f10 false true false false) := by
  refine returnsInHanded_of_change (C := Try.checked) own started (by kernel_rfl) Try.func10
    (ChangeSpec.witness6 (enc := enc) (C := Try.checked) false ⟨#[], #[.agg #[.int .i64 0, .int .i64 0, .int .i64 0, .int .i64 0], .int .i64 0, .int .i64 0], []⟩ 8 (by kernel_rfl) (by kernel_rfl) (by kernel_rfl) (by kernel_rfl)) ?_
  intro W base args ds gs before hval0 hW hcnd _
  have hval : ∀ (j : Nat) t v, Try.f10.params[j]? = some t → args[j]? = some v → Value.okWide Try.prog W .any base t v := hval0
  have hW' := hW
  obtain ⟨p, q, hA0, hV, rfl, hfz, hnd⟩ := hW
  have hA : DataW.TrodAll enc Try.prog W 0 (fun _ => true) true Try.f10.params.toList args.toList ds p := hA0
  rw [Try.params10] at hA hval
  obtain ⟨v0, vs0, d0, ds0, p0, q0, hargs, rfl, rfl, h0, r0⟩ := trodAll_cons hA
  obtain ⟨v1, vs1, d1, ds1, p1, q1, rfl, rfl, rfl, h1, r1⟩ := trodAll_cons r0
  obtain ⟨v2, vs2, d2, ds2, p2, q2, rfl, rfl, rfl, h2, r2⟩ := trodAll_cons r1
  obtain ⟨rfl, rfl, rfl⟩ := trodAll_nil r2
  obtain rfl : args = #[v0, v1, v2] := by cases args; simp_all
  obtain ⟨rfl, rfl⟩ := trodVars_none hV
  obtain ⟨z0, l0, e0, rfl, rfl, y0⟩ := open_arr Try.underlying22 Try.underlying3 (by kernel_rfl) (by kernel_rfl) (hval 0 22 v0 rfl rfl) h0
  obtain ⟨a0_0, a0_1, a0_2, a0_3, rfl⟩ := list4 l0
  simp only [List.map_cons, List.map_nil] at e0
  subst e0
  obtain ⟨a1, rfl, rfl, rfl, w1⟩ := open_int Try.underlying3 (hval 1 3 v1 rfl rfl) h1
  obtain ⟨a2, rfl, rfl, rfl, w2⟩ := open_int Try.underlying3 (hval 2 3 v2 rfl rfl) h2
  clear hA0 hval0
  simp only [List.append_nil] at hW'
  refine (walk a0_0 a0_1 a0_2 a0_3 (y0 _ (by simp)) (y0 _ (by simp)) (y0 _ (by simp)) (y0 _ (by simp)) a1 w1 a2 w2 W).mono fun e W' ⟨he, hb⟩ => ?_
  subst he
  exact ⟨_, rfl, kept_post (pa := []) hW' (fun _ _ _ => (trodAll_cons_mk (shut_bool Try.underlying4 _) trodAll_mk0)) (fun sp _ => (trodAll_cons_mk (shut_arr Try.underlying22 Try.underlying3 (by kernel_rfl) (by kernel_rfl) rfl y0) (trodAll_cons_mk (shut_int Try.underlying3 w1) (trodAll_cons_mk (shut_int Try.underlying3 w2) trodAll_mk0)))) (fun _ => rfl) hb (ok_one (by kernel_rfl) rfl (okWide_bool_mk Try.underlying4 _))⟩

theorem over : Rows.vecScalesRow.holds Try.pinned (OpenSpec.ofChange Rows.vecScalesSpec) :=
  OpenClaim.holds_of_wide 10 Try.f10 rfl rfl rfl rfl rfl rfl rfl ⟨rfl, rfl, rfl, rfl, rfl⟩ rfl rfl rfl rfl rfl (by kernel_rfl) Try.func10 (by kernel_rfl)
    (of_decide_eq_true (by kernel_rfl)) (by unfold Func.isWrapper; first | (rw [if_pos (by decide +kernel)]; kernel_rfl) | (rw [if_neg (by decide +kernel)]; exact ⟨rfl, rfl⟩))
    (fun os started H enc _ => lifted os started H enc)

theorem proved : Rows.VecScalesSaid :=
  over
#print axioms proved
end Go.Proofs.Ytapbeeifffpdgaa.vecScales
