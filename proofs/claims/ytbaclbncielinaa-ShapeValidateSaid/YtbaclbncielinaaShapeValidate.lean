/-
  package shape, P3.1: for every shape (its first eight vertices), every generated shape and every generated shape with one part replaced, Validate agrees with the reference's definition, and every generated shape is valid; whatever the arguments are.
-/
import Derived.Test.YtbaclbncielinaaRows
import Derived.WalkKit
import Derived.ProofKit
import Derived.OpenShut
import Derived.Test.YtbaclbncielinaaOpen
import Derived.Test.YtbaclbncielinaaShapeP
namespace Go.Proofs.Ytbaclbncielinaa.shapeValidate
open Go.ChangeShapes Go.WideShapes Go.ChangeAt Go.RowKit
set_option linter.unusedVariables false
set_option linter.unusedSimpArgs false

theorem rowOf {w : World} {g off cap l : Nat} {Z : Nat → Int} (hl : l ≤ cap) (hm : cap ≤ maxLen) (h : ∀ i, i < l * 2 → w.cell? ⟨g, off + i, none⟩ = some (.int .i64 (Z i))) :
    ∃ vs : List (Int × Int), vs.length = l ∧ RowO w g off cap vs := by
  induction l with
  | zero => exact ⟨[], rfl, ⟨by simp, hm, fun i u hu => by simp [flatV] at hu⟩⟩
  | succ l ih =>
    obtain ⟨vs, hv, hR⟩ := ih (by omega) (fun i hi => h i (by omega))
    refine ⟨vs ++ [(Z (l * 2), Z (l * 2 + 1))], by simp [hv], ⟨by simp [hv]; omega, hm, fun i u hu => ?_⟩⟩
    have hlen : (flatV vs).length = l * 2 := by rw [flatV_length, hv]
    rw [flatV_append] at hu
    rcases Nat.lt_or_ge i (l * 2) with hi | hi
    · rw [List.getElem?_append_left (by omega)] at hu
      exact hR.cells i u hu
    · rw [List.getElem?_append_right (by omega), hlen] at hu
      have hi2 : i = l * 2 ∨ i = l * 2 + 1 := by
        have := (List.getElem?_eq_some_iff.1 hu).1
        simp [flatV] at this
        omega
      rcases hi2 with rfl | rfl
      · simp [flatV] at hu; rw [← hu]; exact h _ (by omega)
      · rw [show l * 2 + 1 - l * 2 = 1 by omega] at hu
        simp [flatV] at hu; rw [← hu]; exact h _ (by omega)
theorem own : ownKnob Try.prog.godebug = none := by kernel_rfl
theorem laid : laidOutB Try.prog = true := by kernel_rfl

set_option maxRecDepth 100000 in
set_option maxHeartbeats 8000000 in
theorem walk (w : World) (a0 : Int) (w0 : (Lit.int .i64 a0).wf = true) (s0 : Value) (Z0 : Nat → Int) (l0 : Nat) (H0 : IntsAt w s0 2 Z0 l0) (a1 : Int) (w1 : (Lit.int .i64 a1).wf = true) (a2 : Int) (w2 : (Lit.int .i64 a2).wf = true) (a3 : Int) (w3 : (Lit.int .i64 a3).wf = true) :
    Calls Try.prog 3 #[.agg #[.int .i64 a0, s0], .int .i64 a1, .int .i64 a2, .int .i64 a3] w fun e w' => e = .returned (.bool true) ∧ Below w.heap.size w w' := by
  obtain ⟨a, cap, rfl, h1, h2, h3, h4⟩ := H0
  rcases h4 with rfl | ⟨g, off, rfl, h5⟩
  · exact sval_any a0 a1 a2 a3 a 0 cap [] w (by omega) (Or.inl ⟨rfl, a, cap, rfl⟩) w1 w2 w3
  · obtain ⟨vs, rfl, hR⟩ := rowOf h1 h2 h5
    by_cases hl : vs.length ≤ 8
    · exact sval_any a0 a1 a2 a3 _ _ cap vs w hl (Or.inr ⟨g, off, cap, rfl, hR⟩) w1 w2 w3
    · exact sval8_any a0 a1 a2 a3 g off cap vs w (by omega) hR w1 w2 w3

set_option maxRecDepth 100000 in
theorem lifted (os : Os) (started : os.Started) (H : Type) (enc : TypeId × Value → H) :
    ReturnsInHanded {} Try.checked os 3 .any (Rows.shapeValidateSpec.pre6 enc Try.prog Try.f3 Rows.shapeValidateRow.domain false) (Rows.shapeValidateSpec.post enc Try.prog Try.f3 false true false false) := by
  refine returnsInHanded_of_change (C := Try.checked) own started (by kernel_rfl) Try.func3
    (ChangeSpec.witness6 (enc := enc) (C := Try.checked) false ⟨#[], #[.agg #[.int .i64 0, .slice none 0 0], .int .i64 0, .int .i64 0, .int .i64 0], []⟩ 8 (by kernel_rfl) (by kernel_rfl) (by kernel_rfl) (by kernel_rfl)) ?_
  intro W base args ds gs before hval0 hW hcnd _
  have hval : ∀ (j : Nat) t v, Try.f3.params[j]? = some t → args[j]? = some v → Value.okWide Try.prog W .any base t v := hval0
  have hW' := hW
  obtain ⟨p, q, hA0, hV, rfl, hfz, hnd⟩ := hW
  have hA : DataW.TrodAll enc Try.prog W 0 (fun _ => true) true Try.f3.params.toList args.toList ds p := hA0
  rw [Try.params3] at hA hval
  have hAk := hA
  obtain ⟨v0, vs0, d0, ds0, p0, q0, hargs, rfl, hp0, h0, r0⟩ := trodAll_cons hA
  obtain ⟨v1, vs1, d1, ds1, p1, q1, rfl, rfl, hp1, h1, r1⟩ := trodAll_cons r0
  obtain ⟨v2, vs2, d2, ds2, p2, q2, rfl, rfl, hp2, h2, r2⟩ := trodAll_cons r1
  obtain ⟨v3, vs3, d3, ds3, p3, q3, rfl, rfl, hp3, h3, r3⟩ := trodAll_cons r2
  obtain ⟨rfl, rfl, -⟩ := trodAll_nil r3
  obtain rfl : args = #[v0, v1, v2, v3] := by cases args; simp_all
  obtain ⟨rfl, rfl⟩ := trodVars_none hV
  obtain ⟨u0_0, u0_1, y0_0, y0_1, nf0, rfl, -, -, g0_0, g0_1⟩ := Go.Joins.open_agg2 Try.underlying24 (by kernel_rfl) (by kernel_rfl) (hval 0 24 v0 rfl rfl) h0
  obtain ⟨a0, e0_0, -, w0⟩ := DataW.trod_int Try.underlying3 g0_0
  simp only [List.cons.injEq, and_true] at e0_0
  subst e0_0
  obtain ⟨s0, Z0, l0, e0, H0⟩ := open_slice_cells Try.underlying22 Try.underlying37 (by kernel_rfl) (by decide) (by kernel_rfl) (by intro j f hj; rcases j with _ | _ | _ | _ | j <;> simp at hj <;> (try subst hj) <;> kernel_rfl) g0_1
  simp only [List.cons.injEq, and_true] at e0
  obtain rfl := e0.symm
  obtain ⟨a1, rfl, -, -, w1⟩ := open_int Try.underlying3 (hval 1 3 v1 rfl rfl) h1
  obtain ⟨a2, rfl, -, -, w2⟩ := open_int Try.underlying3 (hval 2 3 v2 rfl rfl) h2
  obtain ⟨a3, rfl, -, -, w3⟩ := open_int Try.underlying3 (hval 3 3 v3 rfl rfl) h3
  clear hA0 hval0
  simp only [List.append_nil] at hW'
  refine (walk W a0 w0 s0 Z0 l0 H0 a1 w1 a2 w2 a3 w3).mono fun e W' ⟨he, hb⟩ => ?_
  subst he
  exact ⟨_, rfl, kept_post (pa := p) hW' (fun _ _ _ => (trodAll_cons_mk (shut_bool Try.underlying4 _) trodAll_mk0)) (fun sp hsp => trodAll_stays laid hb (by rw [Try.params3]; decide +kernel) hAk (fun x hx => hW'.lt x hx) hsp) (fun _ => rfl) hb (ok_one (by kernel_rfl) rfl (okWide_bool_mk Try.underlying4 _))⟩

theorem over : Rows.shapeValidateRow.holds Try.pinned (OpenSpec.ofChange Rows.shapeValidateSpec) :=
  OpenClaim.holds_of_wide 3 Try.f3 rfl rfl rfl rfl rfl rfl rfl ⟨rfl, rfl, rfl, rfl, rfl⟩ rfl rfl rfl rfl rfl (by kernel_rfl) Try.func3 (by kernel_rfl)
    (of_decide_eq_true (by kernel_rfl)) (by unfold Func.isWrapper; first | (rw [if_pos (by decide +kernel)]; kernel_rfl) | (rw [if_neg (by decide +kernel)]; exact ⟨rfl, rfl⟩))
    (fun os started H enc _ => lifted os started H enc)

theorem proved : Rows.ShapeValidateSaid :=
  over
#print axioms proved
end Go.Proofs.Ytbaclbncielinaa.shapeValidate
