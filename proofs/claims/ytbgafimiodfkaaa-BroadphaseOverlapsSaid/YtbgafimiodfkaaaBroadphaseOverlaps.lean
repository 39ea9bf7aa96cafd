/-
  package broadphase, P4.1: for every two boxes made of any eight numbers (bounded and sorted), and a third one that touches the first, Overlap answers as the reference does, and the section's examples hold; whatever the arguments are.
-/
import Derived.Test.YtbgafimiodfkaaaRows
import Derived.WalkKit
import Derived.ProofKit
import Derived.OpenShut
import Derived.Test.YtbgafimiodfkaaaOpen
import Derived.Test.YtbgafimiodfkaaaBroadI
import Derived.Test.YtbgafimiodfkaaaBroadJ
namespace Go.Proofs.Ytbgafimiodfkaaa.broadphaseOverlaps
open Go.ChangeShapes Go.WideShapes Go.ChangeAt Go.RowKit
set_option linter.unusedVariables false
set_option linter.unusedSimpArgs false

open Bo
theorem touch {X Y : Bx} (hY : Proper Y) : Proper ⟨min X.x1 Y.x1, Y.y0, Y.x1, Y.y1⟩ := ⟨by have := hY.1; simp only; omega, hY.2⟩
theorem own : ownKnob Try.prog.godebug = none := by kernel_rfl
theorem laid : laidOutB Try.prog = true := by kernel_rfl

set_option maxRecDepth 100000 in
set_option maxHeartbeats 8000000 in
theorem walk (w : World) (a0_0 : Int) (a0_1 : Int) (a0_2 : Int) (a0_3 : Int) (w0_0 : (Lit.int .i64 a0_0).wf = true) (w0_1 : (Lit.int .i64 a0_1).wf = true) (w0_2 : (Lit.int .i64 a0_2).wf = true) (w0_3 : (Lit.int .i64 a0_3).wf = true) (a1_0 : Int) (a1_1 : Int) (a1_2 : Int) (a1_3 : Int) (w1_0 : (Lit.int .i64 a1_0).wf = true) (w1_1 : (Lit.int .i64 a1_1).wf = true) (w1_2 : (Lit.int .i64 a1_2).wf = true) (w1_3 : (Lit.int .i64 a1_3).wf = true) :
    Calls Try.prog 3 #[.agg #[.int .i64 a0_0, .int .i64 a0_1, .int .i64 a0_2, .int .i64 a0_3], .agg #[.int .i64 a1_0, .int .i64 a1_1, .int .i64 a1_2, .int .i64 a1_3]] w fun e w' => e = .returned (.bool true) ∧ Below w.heap.size w w' := by
  go_enter Try.func3, Try.ntmps3
  go_wp2_with fail
  refine (box_any _ _ _ _ _ w0_0 w0_1 w0_2 w0_3).mono ?_
  rintro e u1 ⟨⟨X, rfl, hX, hX2⟩, hb1⟩
  have f0 := carry hb1 (a := ⟨w.heap.size + 1, 0, none⟩) (v := .int .i64 a1_0) (by simp [go_sem])
  have f1 := carry hb1 (a := ⟨w.heap.size + 1, 1, none⟩) (v := .int .i64 a1_1) (by simp [go_sem])
  have f2 := carry hb1 (a := ⟨w.heap.size + 1, 2, none⟩) (v := .int .i64 a1_2) (by simp [go_sem])
  have f3 := carry hb1 (a := ⟨w.heap.size + 1, 3, none⟩) (v := .int .i64 a1_3) (by simp [go_sem])
  have hB1 := below_step (below_two w _ _) hb1
  have nf := block_lt_of_cell f0
  simp only at nf
  clear hb1
  go_wp2_with fail
  refine (box_any _ _ _ _ _ w1_0 w1_1 w1_2 w1_3).mono ?_
  rintro e u2 ⟨⟨Y, rfl, hY, hY2⟩, hb2⟩
  have x0 := carry (hb2) (a := ⟨u1.heap.size, 0, none⟩) (v := .int .i64 X.x0) (by simp [go_sem])
  have x1 := carry (hb2) (a := ⟨u1.heap.size, 1, none⟩) (v := .int .i64 X.y0) (by simp [go_sem])
  have x2 := carry (hb2) (a := ⟨u1.heap.size, 2, none⟩) (v := .int .i64 X.x1) (by simp [go_sem])
  have x3 := carry (hb2) (a := ⟨u1.heap.size, 3, none⟩) (v := .int .i64 X.y1) (by simp [go_sem])
  have nx := block_lt_of_cell x0
  simp only at nx
  have hB2 := below_step (below_step hB1 (alloc_below u1 _)) hb2
  clear hb2 f0 f1 f2 f3 nf hB1
  go_wp2_with fail
  obtain ⟨U, hU⟩ : ∃ U, U = (u2.alloc (.cells #[.int .i64 Y.x0, .int .i64 Y.y0, .int .i64 Y.x1, .int .i64 Y.y1] 23)).alloc (.cells #[.int .i64 (min X.x1 Y.x1), .int .i64 Y.y0, .int .i64 Y.x1, .int .i64 Y.y1] 23) := ⟨_, rfl⟩
  rw [← hU]
  have hUb : Below u2.heap.size u2 U := by rw [hU]; exact below_two _ _ _
  replace x0 := carry hUb x0
  replace x1 := carry hUb x1
  replace x2 := carry hUb x2
  replace x3 := carry hUb x3
  have y0 : U.cell? ⟨u2.heap.size, 0, none⟩ = some (.int .i64 Y.x0) := by rw [hU]; simp [go_sem]
  have y1 : U.cell? ⟨u2.heap.size, 1, none⟩ = some (.int .i64 Y.y0) := by rw [hU]; simp [go_sem]
  have y2 : U.cell? ⟨u2.heap.size, 2, none⟩ = some (.int .i64 Y.x1) := by rw [hU]; simp [go_sem]
  have y3 : U.cell? ⟨u2.heap.size, 3, none⟩ = some (.int .i64 Y.y1) := by rw [hU]; simp [go_sem]
  have z0 : U.cell? ⟨u2.heap.size + 1, 0, none⟩ = some (.int .i64 (min X.x1 Y.x1)) := by rw [hU]; simp [go_sem]
  have z1 : U.cell? ⟨u2.heap.size + 1, 1, none⟩ = some (.int .i64 Y.y0) := by rw [hU]; simp [go_sem]
  have z2 : U.cell? ⟨u2.heap.size + 1, 2, none⟩ = some (.int .i64 Y.x1) := by rw [hU]; simp [go_sem]
  have z3 : U.cell? ⟨u2.heap.size + 1, 3, none⟩ = some (.int .i64 Y.y1) := by rw [hU]; simp [go_sem]
  have hBU := Lib.hid (below_step hB2 hUb)
  have k1 := fun W => overlap_any X Y W
  have k2 := fun W => refOverlap4 X Y hX hY W
  have k3 := fun W => overlap_any X ⟨min X.x1 Y.x1, Y.y0, Y.x1, Y.y1⟩ W
  have k4 := fun W => refOverlap4 X ⟨min X.x1 Y.x1, Y.y0, Y.x1, Y.y1⟩ hX (touch hY) W
  simp only [Bx.val] at k1 k2 k3 k4
  generalize ov X Y = p at *
  generalize ov X ⟨min X.x1 Y.x1, Y.y0, Y.x1, Y.y1⟩ = q at *
  have hk := Lib.hid (And.intro k1 (And.intro k2 (And.intro k3 k4)))
  clear k1 k2 k3 k4 hU hUb hB2 hX hX2 hY hY2 nx
  generalize min X.x1 Y.x1 = M at *
  cases p <;> cases q
  all_goals
    go_wp2_with fail
    refine wp_region_made (by kernel_rfl) (by kernel_rfl) ?_
    intro W hK
    have g_x0 := fun x => carry ((hK.below x)) x0
    have g_x1 := fun x => carry ((hK.below x)) x1
    have g_x2 := fun x => carry ((hK.below x)) x2
    have g_x3 := fun x => carry ((hK.below x)) x3
    have g_y0 := fun x => carry ((hK.below x)) y0
    have g_y1 := fun x => carry ((hK.below x)) y1
    have g_y2 := fun x => carry ((hK.below x)) y2
    have g_y3 := fun x => carry ((hK.below x)) y3
    have g_z0 := fun x => carry ((hK.below x)) z0
    have g_z1 := fun x => carry ((hK.below x)) z1
    have g_z2 := fun x => carry ((hK.below x)) z2
    have g_z3 := fun x => carry ((hK.below x)) z3
    repeat (go_big_quiet_step ((first | (go_at_call 11; with_reducible exact met_made (hk.out.1 _)) | (go_at_call 12; with_reducible exact met_made (hk.out.2.1 _)) | (go_at_call 11; with_reducible exact met_made (hk.out.2.2.1 _)) | (go_at_call 12; with_reducible exact met_made (hk.out.2.2.2 _)) | (go_at_call 13; with_reducible exact met_made (lives4_any _)))))
    refine wpQuiet_nil ?_
    intro wq hw'
    have hbq := kept_in hK hw'
    clear g_x0 g_x1 g_x2 g_x3 g_y0 g_y1 g_y2 g_y3 g_z0 g_z1 g_z2 g_z3
    clear hw' hK W
    replace x0 := carry (hbq) x0
    replace x1 := carry (hbq) x1
    replace x2 := carry (hbq) x2
    replace x3 := carry (hbq) x3
    replace y0 := carry (hbq) y0
    replace y1 := carry (hbq) y1
    replace y2 := carry (hbq) y2
    replace y3 := carry (hbq) y3
    replace z0 := carry (hbq) z0
    replace z1 := carry (hbq) z1
    replace z2 := carry (hbq) z2
    replace z3 := carry (hbq) z3
    go_wp2
    go_ret
    exact ⟨rfl, below_step hBU.out hbq⟩

set_option maxRecDepth 100000 in
theorem lifted (os : Os) (started : os.Started) (H : Type) (enc : TypeId × Value → H) :
    ReturnsInHanded {} Try.checked os 3 .any (Rows.broadphaseOverlapsSpec.pre6 enc Try.prog Try.f3 Rows.broadphaseOverlapsRow.domain false) (Rows.broadphaseOverlapsSpec.post enc Try.prog Try.f3 false true false false) := by
  refine returnsInHanded_of_change (C := Try.checked) own started (by kernel_rfl) Try.func3
    (ChangeSpec.witness6 (enc := enc) (C := Try.checked) false ⟨#[], #[.agg #[.int .i64 0, .int .i64 0, .int .i64 0, .int .i64 0], .agg #[.int .i64 0, .int .i64 0, .int .i64 0, .int .i64 0]], []⟩ 8 (by kernel_rfl) (by kernel_rfl) (by kernel_rfl) (by kernel_rfl)) ?_
  intro W base args ds gs before hval0 hW hcnd _
  have hval : ∀ (j : Nat) t v, Try.f3.params[j]? = some t → args[j]? = some v → Value.okWide Try.prog W .any base t v := hval0
  have hW' := hW
  obtain ⟨p, q, hA0, hV, rfl, hfz, hnd⟩ := hW
  have hA : DataW.TrodAll enc Try.prog W 0 (fun _ => true) true Try.f3.params.toList args.toList ds p := hA0
  rw [Try.params3] at hA hval
  have hAk := hA
  obtain ⟨v0, vs0, d0, ds0, p0, q0, hargs, rfl, hp0, h0, r0⟩ := trodAll_cons hA
  obtain ⟨v1, vs1, d1, ds1, p1, q1, rfl, rfl, hp1, h1, r1⟩ := trodAll_cons r0
  obtain ⟨rfl, rfl, -⟩ := trodAll_nil r1
  obtain rfl : args = #[v0, v1] := by cases args; simp_all
  obtain ⟨rfl, rfl⟩ := trodVars_none hV
  obtain ⟨u0_0, u0_1, u0_2, u0_3, y0_0, y0_1, y0_2, y0_3, nf0, rfl, -, -, g0_0, g0_1, g0_2, g0_3⟩ := Go.Joins.open_agg4 Try.underlying23 (by kernel_rfl) (by kernel_rfl) (hval 0 23 v0 rfl rfl) h0
  obtain ⟨a0_0, e0_0, -, w0_0⟩ := DataW.trod_int Try.underlying3 g0_0
  simp only [List.cons.injEq, and_true] at e0_0
  subst e0_0
  obtain ⟨a0_1, e0_1, -, w0_1⟩ := DataW.trod_int Try.underlying3 g0_1
  simp only [List.cons.injEq, and_true] at e0_1
  subst e0_1
  obtain ⟨a0_2, e0_2, -, w0_2⟩ := DataW.trod_int Try.underlying3 g0_2
  simp only [List.cons.injEq, and_true] at e0_2
  subst e0_2
  obtain ⟨a0_3, e0_3, -, w0_3⟩ := DataW.trod_int Try.underlying3 g0_3
  simp only [List.cons.injEq, and_true] at e0_3
  subst e0_3
  obtain ⟨u1_0, u1_1, u1_2, u1_3, y1_0, y1_1, y1_2, y1_3, nf1, rfl, -, -, g1_0, g1_1, g1_2, g1_3⟩ := Go.Joins.open_agg4 Try.underlying23 (by kernel_rfl) (by kernel_rfl) (hval 1 23 v1 rfl rfl) h1
  obtain ⟨a1_0, e1_0, -, w1_0⟩ := DataW.trod_int Try.underlying3 g1_0
  simp only [List.cons.injEq, and_true] at e1_0
  subst e1_0
  obtain ⟨a1_1, e1_1, -, w1_1⟩ := DataW.trod_int Try.underlying3 g1_1
  simp only [List.cons.injEq, and_true] at e1_1
  subst e1_1
  obtain ⟨a1_2, e1_2, -, w1_2⟩ := DataW.trod_int Try.underlying3 g1_2
  simp only [List.cons.injEq, and_true] at e1_2
  subst e1_2
  obtain ⟨a1_3, e1_3, -, w1_3⟩ := DataW.trod_int Try.underlying3 g1_3
  simp only [List.cons.injEq, and_true] at e1_3
  subst e1_3
  clear hA0 hval0
  simp only [List.append_nil] at hW'
  refine (walk W a0_0 a0_1 a0_2 a0_3 w0_0 w0_1 w0_2 w0_3 a1_0 a1_1 a1_2 a1_3 w1_0 w1_1 w1_2 w1_3).mono fun e W' ⟨he, hb⟩ => ?_
  subst he
  exact ⟨_, rfl, kept_post (pa := p) hW' (fun _ _ _ => (trodAll_cons_mk (shut_bool Try.underlying4 _) trodAll_mk0)) (fun sp hsp => trodAll_stays laid hb (by rw [Try.params3]; decide +kernel) hAk (fun x hx => hW'.lt x hx) hsp) (fun _ => rfl) hb (ok_one (by kernel_rfl) rfl (okWide_bool_mk Try.underlying4 _))⟩

theorem over : Rows.broadphaseOverlapsRow.holds Try.pinned (OpenSpec.ofChange Rows.broadphaseOverlapsSpec) :=
  OpenClaim.holds_of_wide 3 Try.f3 rfl rfl rfl rfl rfl rfl rfl ⟨rfl, rfl, rfl, rfl, rfl⟩ rfl rfl rfl rfl rfl (by kernel_rfl) Try.func3 (by kernel_rfl)
    (of_decide_eq_true (by kernel_rfl)) (by unfold Func.isWrapper; first | (rw [if_pos (by decide +kernel)]; kernel_rfl) | (rw [if_neg (by decide +kernel)]; exact ⟨rfl, rfl⟩))
    (fun os started H enc _ => lifted os started H enc)

theorem proved : Rows.BroadphaseOverlapsSaid :=
  over
#print axioms proved
end Go.Proofs.Ytbgafimiodfkaaa.broadphaseOverlaps
