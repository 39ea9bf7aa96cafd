/-
  package broadphase, P4.3: for every two boxes made of any eight numbers and every translation, Overlap is reflexive and symmetric, and invariant under translation of both boxes and under exchange of the axes, and the section's examples hold; whatever the arguments are.
-/
import Derived.Test.YtbgafimiodfkaaaRows
import Derived.WalkKit
import Derived.ProofKit
import Derived.OpenShut
import Derived.Test.YtbgafimiodfkaaaOpen
import Derived.Test.YtbgafimiodfkaaaBroadI
import Derived.Test.YtbgafimiodfkaaaBroadJ
namespace Go.Proofs.Ytbgafimiodfkaaa.broadphaseSymmetric
open Go.ChangeShapes Go.WideShapes Go.ChangeAt Go.RowKit
set_option linter.unusedVariables false
set_option linter.unusedSimpArgs false

open Bo
theorem ov_refl {X : Bx} (h : Proper X) : ov X X = true := ov_true ⟨h.1, h.1, h.2, h.2⟩
theorem ov_moved (X Y : Bx) (x y : Int) : ov ⟨X.x0 + x, X.y0 + y, X.x1 + x, X.y1 + y⟩ ⟨Y.x0 + x, Y.y0 + y, Y.x1 + x, Y.y1 + y⟩ = ov X Y := by
  by_cases h : Ov X Y
  · have := h.1; have := h.2.1; have := h.2.2.1; have := h.2.2.2
    rw [ov_true h, ov_true (show Ov _ _ from ⟨by simp only; omega, by simp only; omega, by simp only; omega, by simp only; omega⟩)]
  · rw [ov_false h, ov_false fun k => h ?_]
    have := k.1; have := k.2.1; have := k.2.2.1; have := k.2.2.2
    simp only at *
    exact ⟨by omega, by omega, by omega, by omega⟩
theorem ov_turned (X Y : Bx) : ov ⟨X.y0, X.x0, X.y1, X.x1⟩ ⟨Y.y0, Y.x0, Y.y1, Y.x1⟩ = ov X Y := by
  by_cases h : Ov X Y
  · rw [ov_true h, ov_true (show Ov _ _ from ⟨h.2.2.1, h.2.2.2, h.1, h.2.1⟩)]
  · rw [ov_false h, ov_false fun k => h ⟨k.2.2.1, k.2.2.2, k.1, k.2.1⟩]
theorem own : ownKnob Try.prog.godebug = none := by kernel_rfl
theorem laid : laidOutB Try.prog = true := by kernel_rfl

set_option maxRecDepth 100000 in
set_option maxHeartbeats 8000000 in
theorem walk (w : World) (a0_0 : Int) (a0_1 : Int) (a0_2 : Int) (a0_3 : Int) (w0_0 : (Lit.int .i64 a0_0).wf = true) (w0_1 : (Lit.int .i64 a0_1).wf = true) (w0_2 : (Lit.int .i64 a0_2).wf = true) (w0_3 : (Lit.int .i64 a0_3).wf = true) (a1_0 : Int) (a1_1 : Int) (a1_2 : Int) (a1_3 : Int) (w1_0 : (Lit.int .i64 a1_0).wf = true) (w1_1 : (Lit.int .i64 a1_1).wf = true) (w1_2 : (Lit.int .i64 a1_2).wf = true) (w1_3 : (Lit.int .i64 a1_3).wf = true) (a2 : Int) (w2 : (Lit.int .i64 a2).wf = true) (a3 : Int) (w3 : (Lit.int .i64 a3).wf = true) :
    Calls Try.prog 5 #[.agg #[.int .i64 a0_0, .int .i64 a0_1, .int .i64 a0_2, .int .i64 a0_3], .agg #[.int .i64 a1_0, .int .i64 a1_1, .int .i64 a1_2, .int .i64 a1_3], .int .i64 a2, .int .i64 a3] w fun e w' => e = .returned (.bool true) ∧ Below w.heap.size w w' := by
  obtain ⟨l2, r2⟩ := i64_bd w2
  obtain ⟨l3, r3⟩ := i64_bd w3
  clear w2 w3
  go_enter Try.func5, Try.ntmps5
  go_wp2_with fail
  refine (box_any _ _ _ _ _ w0_0 w0_1 w0_2 w0_3).mono ?_
  rintro e u1 ⟨⟨X, rfl, hX, hX2⟩, hb1⟩
  have f0 := carry hb1 (a := ⟨w.heap.size + 1, 0, none⟩) (v := .int .i64 a1_0) (by simp [go_sem])
  have f1 := carry hb1 (a := ⟨w.heap.size + 1, 1, none⟩) (v := .int .i64 a1_1) (by simp [go_sem])
  have f2 := carry hb1 (a := ⟨w.heap.size + 1, 2, none⟩) (v := .int .i64 a1_2) (by simp [go_sem])
  have f3 := carry hb1 (a := ⟨w.heap.size + 1, 3, none⟩) (v := .int .i64 a1_3) (by simp [go_sem])
  have hB1 := below_step (below_two w _ _) hb1
  have nf := block_lt_of_cell f0
  simp only at nf
  clear hb1
  go_wp2_with fail
  refine (box_any _ _ _ _ _ w1_0 w1_1 w1_2 w1_3).mono ?_
  rintro e u2 ⟨⟨Y, rfl, hY, hY2⟩, hb2⟩
  have x0 := carry (hb2) (a := ⟨u1.heap.size, 0, none⟩) (v := .int .i64 X.x0) (by simp [go_sem])
  have x1 := carry (hb2) (a := ⟨u1.heap.size, 1, none⟩) (v := .int .i64 X.y0) (by simp [go_sem])
  have x2 := carry (hb2) (a := ⟨u1.heap.size, 2, none⟩) (v := .int .i64 X.x1) (by simp [go_sem])
  have x3 := carry (hb2) (a := ⟨u1.heap.size, 3, none⟩) (v := .int .i64 X.y1) (by simp [go_sem])
  have nx := block_lt_of_cell x0
  simp only at nx
  have hB2 := below_step (below_step hB1 (alloc_below u1 _)) hb2
  clear hb2 f0 f1 f2 f3 nf hB1
  go_wp2_with fail
  refine (boundx_any _ _ _ l2 r2 (by omega) (by omega)).mono ?_
  rintro e w' ⟨⟨dx, p1, p2, rfl⟩, rfl⟩
  go_wp2_with fail
  refine (boundx_any _ _ _ l3 r3 (by omega) (by omega)).mono ?_
  rintro e w' ⟨⟨dy, p3, p4, rfl⟩, rfl⟩
  clear l2 r2 l3 r3
  obtain ⟨U, hU⟩ : ∃ U, U = u2.alloc (.cells #[.int .i64 Y.x0, .int .i64 Y.y0, .int .i64 Y.x1, .int .i64 Y.y1] 23) := ⟨_, rfl⟩
  rw [← hU]
  have hUb : Below u2.heap.size u2 U := by rw [hU]; exact alloc_below _ _
  replace x0 := carry hUb x0
  replace x1 := carry hUb x1
  replace x2 := carry hUb x2
  replace x3 := carry hUb x3
  have y0 : U.cell? ⟨u2.heap.size, 0, none⟩ = some (.int .i64 Y.x0) := by rw [hU]; simp [go_sem]
  have y1 : U.cell? ⟨u2.heap.size, 1, none⟩ = some (.int .i64 Y.y0) := by rw [hU]; simp [go_sem]
  have y2 : U.cell? ⟨u2.heap.size, 2, none⟩ = some (.int .i64 Y.x1) := by rw [hU]; simp [go_sem]
  have y3 : U.cell? ⟨u2.heap.size, 3, none⟩ = some (.int .i64 Y.y1) := by rw [hU]; simp [go_sem]
  have hBU := Lib.hid (below_step hB2 hUb)
  have k1 := fun W => overlap_any X Y W
  have k2 := fun W => overlap_any X X W
  have k3 := fun W => overlap_any Y X W
  have k4 := fun W => moved_any X dx dy W hX2 ⟨by omega, by omega⟩ ⟨by omega, by omega⟩
  have k5 := fun W => moved_any Y dx dy W hY2 ⟨by omega, by omega⟩ ⟨by omega, by omega⟩
  have k6 := fun W => overlap_any ⟨X.x0 + dx, X.y0 + dy, X.x1 + dx, X.y1 + dy⟩ ⟨Y.x0 + dx, Y.y0 + dy, Y.x1 + dx, Y.y1 + dy⟩ W
  have k7 := fun W => turned_any X W
  have k8 := fun W => turned_any Y W
  have k9 := fun W => overlap_any ⟨X.y0, X.x0, X.y1, X.x1⟩ ⟨Y.y0, Y.x0, Y.y1, Y.x1⟩ W
  simp only [Bx.val, ov_refl hX, ov_comm Y X, ov_moved, ov_turned] at k1 k2 k3 k6 k9
  generalize ov X Y = p at *
  have hk := Lib.hid (And.intro k1 (And.intro k2 (And.intro k3 (And.intro k4 (And.intro k5 (And.intro k6 (And.intro k7 (And.intro k8 k9))))))))
  clear k1 k2 k3 k4 k5 k6 k7 k8 k9 hU hUb hB2 hX hX2 hY hY2
  cases p
  all_goals
    go_wp2_with fail
    refine (hk.out.1 _).mono ?_
    rintro e u4 ⟨rfl, hb4⟩
    replace x0 := carry (hb4) x0
    replace x1 := carry (hb4) x1
    replace x2 := carry (hb4) x2
    replace x3 := carry (hb4) x3
    replace y0 := carry (hb4) y0
    replace y1 := carry (hb4) y1
    replace y2 := carry (hb4) y2
    replace y3 := carry (hb4) y3
    go_wp2_with fail
    refine wp_region_made (by kernel_rfl) (by kernel_rfl) ?_
    intro W hK
    have g_x0 := fun x => carry ((hK.below x)) x0
    have g_x1 := fun x => carry ((hK.below x)) x1
    have g_x2 := fun x => carry ((hK.below x)) x2
    have g_x3 := fun x => carry ((hK.below x)) x3
    have g_y0 := fun x => carry ((hK.below x)) y0
    have g_y1 := fun x => carry ((hK.below x)) y1
    have g_y2 := fun x => carry ((hK.below x)) y2
    have g_y3 := fun x => carry ((hK.below x)) y3
    repeat (go_big_quiet_step ((first | (go_at_call 11; with_reducible exact met_made (hk.out.2.1 _)) | (go_at_call 11; with_reducible exact met_made (hk.out.2.2.1 _)) | (go_at_call 19; with_reducible exact met_made (hk.out.2.2.2.1 _)) | (go_at_call 19; with_reducible exact met_made (hk.out.2.2.2.2.1 _)) | (go_at_call 11; with_reducible exact met_made (hk.out.2.2.2.2.2.1 _)))))
    refine wpQuiet_nil ?_
    intro wq hw'
    have hbq := kept_in hK hw'
    clear g_x0 g_x1 g_x2 g_x3 g_y0 g_y1 g_y2 g_y3
    clear hw' hK W
    replace x0 := carry (hbq) x0
    replace x1 := carry (hbq) x1
    replace x2 := carry (hbq) x2
    replace x3 := carry (hbq) x3
    replace y0 := carry (hbq) y0
    replace y1 := carry (hbq) y1
    replace y2 := carry (hbq) y2
    replace y3 := carry (hbq) y3
    have hBq := Lib.hid (below_step (below_step hBU.out hb4) hbq)
    clear hb4 hbq
    go_wp2_with fail
    refine wp_region_made (by kernel_rfl) (by kernel_rfl) ?_
    intro W hK
    have g_x0 := fun x => carry ((hK.below x)) x0
    have g_x1 := fun x => carry ((hK.below x)) x1
    have g_x2 := fun x => carry ((hK.below x)) x2
    have g_x3 := fun x => carry ((hK.below x)) x3
    have g_y0 := fun x => carry ((hK.below x)) y0
    have g_y1 := fun x => carry ((hK.below x)) y1
    have g_y2 := fun x => carry ((hK.below x)) y2
    have g_y3 := fun x => carry ((hK.below x)) y3
    repeat (go_big_quiet_step ((first | (go_at_call 20; with_reducible exact met_made (hk.out.2.2.2.2.2.2.1 _)) | (go_at_call 20; with_reducible exact met_made (hk.out.2.2.2.2.2.2.2.1 _)) | (go_at_call 11; with_reducible exact met_made (hk.out.2.2.2.2.2.2.2.2 _)) | (go_at_call 13; with_reducible exact met_made (lives4_any _)))))
    refine wpQuiet_nil ?_
    intro wq hw'
    have hbq := kept_in hK hw'
    clear g_x0 g_x1 g_x2 g_x3 g_y0 g_y1 g_y2 g_y3
    clear hw' hK W
    replace x0 := carry (hbq) x0
    replace x1 := carry (hbq) x1
    replace x2 := carry (hbq) x2
    replace x3 := carry (hbq) x3
    replace y0 := carry (hbq) y0
    replace y1 := carry (hbq) y1
    replace y2 := carry (hbq) y2
    replace y3 := carry (hbq) y3
    go_wp2
    go_ret
    exact ⟨rfl, below_step hBq.out hbq⟩

set_option maxRecDepth 100000 in
theorem lifted (os : Os) (started : os.Started) (H : Type) (enc : TypeId × Value → H) :
    ReturnsInHanded {} Try.checked os 5 .any (Rows.broadphaseSymmetricSpec.pre6 enc Try.prog Try.f5 Rows.broadphaseSymmetricRow.domain false) (Rows.broadphaseSymmetricSpec.post enc Try.prog Try.f5 false true false false) := by
  refine returnsInHanded_of_change (C := Try.checked) own started (by kernel_rfl) Try.func5
    (ChangeSpec.witness6 (enc := enc) (C := Try.checked) false ⟨#[], #[.agg #[.int .i64 0, .int .i64 0, .int .i64 0, .int .i64 0], .agg #[.int .i64 0, .int .i64 0, .int .i64 0, .int .i64 0], .int .i64 0, .int .i64 0], []⟩ 8 (by kernel_rfl) (by kernel_rfl) (by kernel_rfl) (by kernel_rfl)) ?_
  intro W base args ds gs before hval0 hW hcnd _
  have hval : ∀ (j : Nat) t v, Try.f5.params[j]? = some t → args[j]? = some v → Value.okWide Try.prog W .any base t v := hval0
  have hW' := hW
  obtain ⟨p, q, hA0, hV, rfl, hfz, hnd⟩ := hW
  have hA : DataW.TrodAll enc Try.prog W 0 (fun _ => true) true Try.f5.params.toList args.toList ds p := hA0
  rw [Try.params5] at hA hval
  have hAk := hA
  obtain ⟨v0, vs0, d0, ds0, p0, q0, hargs, rfl, hp0, h0, r0⟩ := trodAll_cons hA
  obtain ⟨v1, vs1, d1, ds1, p1, q1, rfl, rfl, hp1, h1, r1⟩ := trodAll_cons r0
  obtain ⟨v2, vs2, d2, ds2, p2, q2, rfl, rfl, hp2, h2, r2⟩ := trodAll_cons r1
  obtain ⟨v3, vs3, d3, ds3, p3, q3, rfl, rfl, hp3, h3, r3⟩ := trodAll_cons r2
  obtain ⟨rfl, rfl, -⟩ := trodAll_nil r3
  obtain rfl : args = #[v0, v1, v2, v3] := by cases args; simp_all
  obtain ⟨rfl, rfl⟩ := trodVars_none hV
  obtain ⟨u0_0, u0_1, u0_2, u0_3, y0_0, y0_1, y0_2, y0_3, nf0, rfl, -, -, g0_0, g0_1, g0_2, g0_3⟩ := Go.Joins.open_agg4 Try.underlying23 (by kernel_rfl) (by kernel_rfl) (hval 0 23 v0 rfl rfl) h0
  obtain ⟨a0_0, e0_0, -, w0_0⟩ := DataW.trod_int Try.underlying3 g0_0
  simp only [List.cons.injEq, and_true] at e0_0
  subst e0_0
  obtain ⟨a0_1, e0_1, -, w0_1⟩ := DataW.trod_int Try.underlying3 g0_1
  simp only [List.cons.injEq, and_true] at e0_1
  subst e0_1
  obtain ⟨a0_2, e0_2, -, w0_2⟩ := DataW.trod_int Try.underlying3 g0_2
  simp only [List.cons.injEq, and_true] at e0_2
  subst e0_2
  obtain ⟨a0_3, e0_3, -, w0_3⟩ := DataW.trod_int Try.underlying3 g0_3
  simp only [List.cons.injEq, and_true] at e0_3
  subst e0_3
  obtain ⟨u1_0, u1_1, u1_2, u1_3, y1_0, y1_1, y1_2, y1_3, nf1, rfl, -, -, g1_0, g1_1, g1_2, g1_3⟩ := Go.Joins.open_agg4 Try.underlying23 (by kernel_rfl) (by kernel_rfl) (hval 1 23 v1 rfl rfl) h1
  obtain ⟨a1_0, e1_0, -, w1_0⟩ := DataW.trod_int Try.underlying3 g1_0
  simp only [List.cons.injEq, and_true] at e1_0
  subst e1_0
  obtain ⟨a1_1, e1_1, -, w1_1⟩ := DataW.trod_int Try.underlying3 g1_1
  simp only [List.cons.injEq, and_true] at e1_1
  subst e1_1
  obtain ⟨a1_2, e1_2, -, w1_2⟩ := DataW.trod_int Try.underlying3 g1_2
  simp only [List.cons.injEq, and_true] at e1_2
  subst e1_2
  obtain ⟨a1_3, e1_3, -, w1_3⟩ := DataW.trod_int Try.underlying3 g1_3
  simp only [List.cons.injEq, and_true] at e1_3
  subst e1_3
  obtain ⟨a2, rfl, -, -, w2⟩ := open_int Try.underlying3 (hval 2 3 v2 rfl rfl) h2
  obtain ⟨a3, rfl, -, -, w3⟩ := open_int Try.underlying3 (hval 3 3 v3 rfl rfl) h3
  clear hA0 hval0
  simp only [List.append_nil] at hW'
  refine (walk W a0_0 a0_1 a0_2 a0_3 w0_0 w0_1 w0_2 w0_3 a1_0 a1_1 a1_2 a1_3 w1_0 w1_1 w1_2 w1_3 a2 w2 a3 w3).mono fun e W' ⟨he, hb⟩ => ?_
  subst he
  exact ⟨_, rfl, kept_post (pa := p) hW' (fun _ _ _ => (trodAll_cons_mk (shut_bool Try.underlying4 _) trodAll_mk0)) (fun sp hsp => trodAll_stays laid hb (by rw [Try.params5]; decide +kernel) hAk (fun x hx => hW'.lt x hx) hsp) (fun _ => rfl) hb (ok_one (by kernel_rfl) rfl (okWide_bool_mk Try.underlying4 _))⟩

theorem over : Rows.broadphaseSymmetricRow.holds Try.pinned (OpenSpec.ofChange Rows.broadphaseSymmetricSpec) :=
  OpenClaim.holds_of_wide 5 Try.f5 rfl rfl rfl rfl rfl rfl rfl ⟨rfl, rfl, rfl, rfl, rfl⟩ rfl rfl rfl rfl rfl (by kernel_rfl) Try.func5 (by kernel_rfl)
    (of_decide_eq_true (by kernel_rfl)) (by unfold Func.isWrapper; first | (rw [if_pos (by decide +kernel)]; kernel_rfl) | (rw [if_neg (by decide +kernel)]; exact ⟨rfl, rfl⟩))
    (fun os started H enc _ => lifted os started H enc)

theorem proved : Rows.BroadphaseSymmetricSaid :=
  over
#print axioms proved
end Go.Proofs.Ytbgafimiodfkaaa.broadphaseSymmetric
