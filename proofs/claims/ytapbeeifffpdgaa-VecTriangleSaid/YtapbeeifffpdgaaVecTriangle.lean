/-
  Proved: arenanetlaw02.VecTriangle returns true for every array of four ints and leaves its argument as it was. No further condition.
-/
import Derived.Test.YtapbeeifffpdgaaRows
import Derived.WalkKit
import Derived.ProofKit
import Derived.OpenShut
import Derived.Test.YtapbeeifffpdgaaLawKit
import Derived.Test.YtapbeeifffpdgaaVecC
namespace Go.Proofs.Ytapbeeifffpdgaa.vecTriangle
open Go.ChangeShapes Go.WideShapes Go.ChangeAt Go.RowKit
set_option linter.unusedVariables false
set_option linter.unusedSimpArgs false

open Fxm
theorem own : ownKnob Try.prog.godebug = none := by kernel_rfl

set_option maxHeartbeats 2000000 in
theorem walk (a0_0 : Int) (a0_1 : Int) (a0_2 : Int) (a0_3 : Int) (w0_0 : (Lit.int .i64 a0_0).wf = true) (w0_1 : (Lit.int .i64 a0_1).wf = true) (w0_2 : (Lit.int .i64 a0_2).wf = true) (w0_3 : (Lit.int .i64 a0_3).wf = true) (w : World) :
    Calls Try.prog 8 #[.agg #[.int .i64 a0_0, .int .i64 a0_1, .int .i64 a0_2, .int .i64 a0_3]] w fun e w' => e = .returned (.bool true) ∧ Below w.heap.size w w' := by
  go_enter Try.func8, Try.ntmps8
  go_wp2_with fail
  refine (of_any _ _ _ w0_0 w0_1).mono ?_
  rintro e w1 ⟨⟨a0, a1, ha0, ha1, rfl⟩, hb1⟩
  have x0 := carry (hb1) (a := ⟨w.heap.size, 0, none⟩) (v := .int .i64 a0_0) (by simp)
  have x1 := carry (hb1) (a := ⟨w.heap.size, 1, none⟩) (v := .int .i64 a0_1) (by simp)
  have x2 := carry (hb1) (a := ⟨w.heap.size, 2, none⟩) (v := .int .i64 a0_2) (by simp)
  have x3 := carry (hb1) (a := ⟨w.heap.size, 3, none⟩) (v := .int .i64 a0_3) (by simp)
  have hB := below_step (alloc_below _ _) hb1
  have n1 := block_lt_of_cell x0
  clear hb1 x0 x1
  go_wp2_with fail
  refine (of_any _ _ _ w0_2 w0_3).mono ?_
  rintro e w2 ⟨⟨b0, b1, hb0, hb1, rfl⟩, hb2⟩
  have va0 := carry (hb2) (a := ⟨w1.heap.size, 0, none⟩) (v := .int .i64 a0) (by simp)
  have va1 := carry (hb2) (a := ⟨w1.heap.size, 1, none⟩) (v := .int .i64 a1) (by simp)
  replace hB := below_step (below_step hB (below_step (alloc_below _ _) hb2)) (alloc_below w2 (.cells #[.int .i64 b0, .int .i64 b1] 24))
  clear hb2 x2 x3 n1
  have vb0 := World.cell?_alloc_new (w := w2) #[.int .i64 b0, .int .i64 b1] 24 0
  have vb1 := World.cell?_alloc_new (w := w2) #[.int .i64 b0, .int .i64 b1] 24 1
  replace va0 := carry (alloc_below w2 (.cells #[.int .i64 b0, .int .i64 b1] 24)) va0
  replace va1 := carry (alloc_below w2 (.cells #[.int .i64 b0, .int .i64 b1] 24)) va1
  go_wp2_with fail
  refine (add_any _ _ _ _ _ ha0.bd ha1.bd hb0.bd hb1.bd).mono ?_
  rintro e w3 ⟨rfl, hb3⟩
  replace va0 := carry (hb3) va0
  replace va1 := carry (hb3) va1
  replace vb0 := carry (hb3) vb0
  replace vb1 := carry (hb3) vb1
  replace hB := below_step hB hb3
  clear hb3
  go_wp2_with fail
  have k0 := fun w => len_any (a0 + b0) (a1 + b1) w (ha0.add hb0) (ha1.add hb1)
  have k1 := fun w => len_any a0 a1 w ha0.bd ha1.bd
  have k2 := fun w => len_any b0 b1 w hb0.bd hb1.bd
  have c1 := Vcm.triangle a0 a1 b0 b1
  have c2 := Vcm.triangle_low a0 a1 b0 b1
  have c3 := Vcm.triangle_low b0 b1 a0 a1
  rw [Int.add_comm b0 a0, Int.add_comm b1 a1] at c3
  have l0 := (ha0.add hb0).len (ha1.add hb1)
  have la := ha0.len ha1
  have lb := hb0.len hb1
  have z := @Vcm.len_zero a0 a1
  have zz : a0 = 0 ∧ a1 = 0 → isq (a0 * a0 + a1 * a1) = 0 := by rintro ⟨rfl, rfl⟩; decide
  generalize isq ((a0 + b0) * (a0 + b0) + (a1 + b1) * (a1 + b1)) = n at *
  generalize isq (a0 * a0 + a1 * a1) = l at *
  generalize isq (b0 * b0 + b1 * b1) = m at *
  have t1 := absV_spec (l - m)
  have k3 := fun w => abs_any (l - m) w (by omega) (by omega)
  generalize absV (l - m) = x at *
  have q1 : n ≤ l + m + 1 := by omega
  have q2 : x ≤ n + 1 := by omega
  have q3 : 0 ≤ x ∧ x ≤ 67108863 := by omega
  clear t1 c1 c2 c3
  by_cases h : a0 = 0 ∧ a1 = 0
  · have hl := zz h
    obtain ⟨rfl, rfl⟩ := h
    subst hl
    clear z zz
    simp only [Int.zero_add, Int.zero_sub] at q1 k3
    have K := Lib.hid (And.intro k0 (And.intro k1 (And.intro k2 k3)))
    clear k0 k1 k2 k3
    refine (K.out.1 _).mono ?_
    rintro e w4 ⟨rfl, hb4⟩
    replace va0 := carry (hb4) va0
    replace va1 := carry (hb4) va1
    replace vb0 := carry (hb4) vb0
    replace vb1 := carry (hb4) vb1
    replace hB := below_step hB hb4
    clear hb4
    go_wp2_with fail
    refine wp_region_made (by kernel_rfl) (by kernel_rfl) ?_
    intro W hK
    have g_va0 := fun x => carry ((hK.below x)) va0
    have g_va1 := fun x => carry ((hK.below x)) va1
    have g_vb0 := fun x => carry ((hK.below x)) vb0
    have g_vb1 := fun x => carry ((hK.below x)) vb1
    repeat (go_big_quiet_step ((first | (go_at_call 30; with_reducible exact met_made (K.out.2.1 _)) | (go_at_call 30; with_reducible exact met_made (K.out.2.2.1 _)) | (go_at_call 34; with_reducible exact met_same (K.out.2.2.2 _)) | (go_at_call 25; with_reducible exact met_made (lives2_any _)))))
    refine wpQuiet_nil ?_
    intro wq hw'
    have hbq := kept_in hK hw'
    clear g_va0 g_va1 g_vb0 g_vb1
    clear hw' hK W
    replace va0 := carry (hbq) va0
    replace va1 := carry (hbq) va1
    replace vb0 := carry (hbq) vb0
    replace vb1 := carry (hbq) vb1
    go_wp2
    go_ret
    exact ⟨rfl, below_step hB hbq⟩
  · have hl : (l == 0) = false := by
      simp only [beq_eq_false_iff_ne, ne_eq]
      exact fun e => h (z e)
    have hcase : (a0 = 0 ∧ ¬ a1 = 0) ∨ ¬ a0 = 0 := by omega
    clear z zz h
    rcases hcase with ⟨rfl, h1⟩ | h1
    all_goals
      have h2 := decide_eq_false h1
      have K := Lib.hid (And.intro k0 (And.intro k1 (And.intro k2 k3)))
      clear k0 k1 k2 k3
      refine (K.out.1 _).mono ?_
      rintro e w4 ⟨rfl, hb4⟩
      replace va0 := carry (hb4) va0
      replace va1 := carry (hb4) va1
      replace vb0 := carry (hb4) vb0
      replace vb1 := carry (hb4) vb1
      replace hB := below_step hB hb4
      clear hb4
      go_wp2_with fail
      refine wp_region_made (by kernel_rfl) (by kernel_rfl) ?_
      intro W hK
      have g_va0 := fun x => carry ((hK.below x)) va0
      have g_va1 := fun x => carry ((hK.below x)) va1
      have g_vb0 := fun x => carry ((hK.below x)) vb0
      have g_vb1 := fun x => carry ((hK.below x)) vb1
      repeat (go_big_quiet_step ((first | (go_at_call 30; with_reducible exact met_made (K.out.2.1 _)) | (go_at_call 30; with_reducible exact met_made (K.out.2.2.1 _)) | (go_at_call 34; with_reducible exact met_same (K.out.2.2.2 _)) | (go_at_call 25; with_reducible exact met_made (lives2_any _)))))
      refine wpQuiet_nil ?_
      intro wq hw'
      have hbq := kept_in hK hw'
      clear g_va0 g_va1 g_vb0 g_vb1
      clear hw' hK W
      replace va0 := carry (hbq) va0
      replace va1 := carry (hbq) va1
      replace vb0 := carry (hbq) vb0
      replace vb1 := carry (hbq) vb1
      go_wp2
      go_ret
      exact ⟨rfl, below_step hB hbq⟩

set_option maxRecDepth 100000 in
theorem lifted (os : Os) (started : os.Started) (H : Type) (enc : TypeId × Value → H) :
    ReturnsInHanded {} Try.checked os 8 .any (Rows.vecTriangleSpec.pre6 enc Try.prog Try.f8 Rows.vecTriangleRow.domain false) (Rows.vecTriangleSpec.post enc Try.prog Try.f8 false true false false) := by
  refine returnsInHanded_of_change (C := Try.checked) own started (by kernel_rfl) Try.func8
    (ChangeSpec.witness6 (enc := enc) (C := Try.checked) false ⟨#[], #[.agg #[.int .i64 0, .int .i64 0, .int .i64 0, .int .i64 0]], []⟩ 8 (by kernel_rfl) (by kernel_rfl) (by kernel_rfl) (by kernel_rfl)) ?_
  intro W base args ds gs before hval0 hW hcnd _
  have hval : ∀ (j : Nat) t v, Try.f8.params[j]? = some t → args[j]? = some v → Value.okWide Try.prog W .any base t v := hval0
  have hW' := hW
  obtain ⟨p, q, hA0, hV, rfl, hfz, hnd⟩ := hW
  have hA : DataW.TrodAll enc Try.prog W 0 (fun _ => true) true Try.f8.params.toList args.toList ds p := hA0
  rw [Try.params8] at hA hval
  obtain ⟨v0, vs0, d0, ds0, p0, q0, hargs, rfl, rfl, h0, r0⟩ := trodAll_cons hA
  obtain ⟨rfl, rfl, rfl⟩ := trodAll_nil r0
  obtain rfl : args = #[v0] := by cases args; simp_all
  obtain ⟨rfl, rfl⟩ := trodVars_none hV
  obtain ⟨z0, l0, e0, rfl, rfl, y0⟩ := open_arr Try.underlying22 Try.underlying3 (by kernel_rfl) (by kernel_rfl) (hval 0 22 v0 rfl rfl) h0
  obtain ⟨a0_0, a0_1, a0_2, a0_3, rfl⟩ := list4 l0
  simp only [List.map_cons, List.map_nil] at e0
  subst e0
  clear hA0 hval0
  simp only [List.append_nil] at hW'
  refine (walk a0_0 a0_1 a0_2 a0_3 (y0 _ (by simp)) (y0 _ (by simp)) (y0 _ (by simp)) (y0 _ (by simp)) W).mono fun e W' ⟨he, hb⟩ => ?_
  subst he
  exact ⟨_, rfl, kept_post (pa := []) hW' (fun _ _ _ => (trodAll_cons_mk (shut_bool Try.underlying4 _) trodAll_mk0)) (fun sp _ => (trodAll_cons_mk (shut_arr Try.underlying22 Try.underlying3 (by kernel_rfl) (by kernel_rfl) rfl y0) trodAll_mk0)) (fun _ => rfl) hb (ok_one (by kernel_rfl) rfl (okWide_bool_mk Try.underlying4 _))⟩

theorem over : Rows.vecTriangleRow.holds Try.pinned (OpenSpec.ofChange Rows.vecTriangleSpec) :=
  OpenClaim.holds_of_wide 8 Try.f8 rfl rfl rfl rfl rfl rfl rfl ⟨rfl, rfl, rfl, rfl, rfl⟩ rfl rfl rfl rfl rfl (by kernel_rfl) Try.func8 (by kernel_rfl)
    (of_decide_eq_true (by kernel_rfl)) (by unfold Func.isWrapper; first | (rw [if_pos (by decide +kernel)]; kernel_rfl) | (rw [if_neg (by decide +kernel)]; exact ⟨rfl, rfl⟩))
    (fun os started H enc _ => lifted os started H enc)

theorem proved : Rows.VecTriangleSaid :=
  over
#print axioms proved
end Go.Proofs.Ytapbeeifffpdgaa.vecTriangle
