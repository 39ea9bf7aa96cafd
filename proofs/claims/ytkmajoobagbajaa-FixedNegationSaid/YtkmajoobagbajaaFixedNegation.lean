/-
  Proved: arenanetlaw01.FixedNegation returns true for all ints a and b and leaves its arguments as they were. No further condition.
-/
import Derived.Test.YtkmajoobagbajaaRows
import Derived.WalkKit
import Derived.ProofKit
import Derived.OpenShut
import Derived.Test.YtkmajoobagbajaaFixSmall
namespace Go.Proofs.Ytkmajoobagbajaa.fixedNegation
open Go.ChangeShapes Go.WideShapes Go.ChangeAt Go.RowKit
set_option linter.unusedVariables false      -- a walk need not use every 'w<i>' (that an integer argument fits its kind)

open Fxm
theorem own : ownKnob Try.prog.godebug = none := by kernel_rfl

theorem walk (a0 : Int) (a1 : Int) (w0 : (Lit.int .i64 a0).wf = true) (w1 : (Lit.int .i64 a1).wf = true) (w : World) :
    Calls Try.prog 8 #[.int .i64 a0, .int .i64 a1] w fun e w' => e = .returned (.bool true) ∧ Grown w w' := by
  obtain ⟨b0, c0⟩ := bounds_i64 w0
  obtain ⟨b1, c1⟩ := bounds_i64 w1
  go_enter Try.func8, Try.ntmps8
  go_wp2_with fail
  refine (small_any _ _ b0 c0).mono ?_
  rintro e w' ⟨⟨x, hx1, hx2, rfl⟩, rfl⟩
  go_wp2_with fail
  refine (small_any _ _ b1 c1).mono ?_
  rintro e w' ⟨⟨y, hy1, hy2, rfl⟩, rfl⟩
  obtain ⟨p1, p2⟩ := prod31 hx1 hx2 hy1 hy2
  have k1 := fun w => mul_any x y w p1 p2
  have k2 := fun w => mul_any (-x) y w (by rw [Int.neg_mul]; omega) (by rw [Int.neg_mul]; omega)
  have k3 := fun w => mul_any (-x) (-y) w (by rw [Int.neg_mul_neg]; omega) (by rw [Int.neg_mul_neg]; omega)
  rw [Int.neg_mul, flr_neg1024] at k2
  rw [Int.neg_mul_neg] at k3
  obtain ⟨f1, f2⟩ := flr_bd1024 (a := x * y) (M := 4611686018427387904) (by omega) (by omega)
  obtain ⟨q, hq⟩ : ∃ q, q = flr (x * y) 1024 := ⟨_, rfl⟩
  rw [← hq] at k1 k2 k3 f1 f2
  clear hq
  by_cases hr : (x * y).tmod 1024 = 0
  all_goals
    first | rw [if_pos hr] at k2 | rw [if_neg hr] at k2
    have K := Lib.hid (And.intro k1 (And.intro k2 k3))
    clear k1 k2 k3
    go_wp2_with (first | (go_at_call 11; (with_reducible refine (K.out.1 _).mono ?_); rintro e w' ⟨rfl, k, rfl⟩) | (go_at_call 11; (with_reducible refine (K.out.2.1 _).mono ?_); rintro e w' ⟨rfl, k, rfl⟩) | (go_at_call 11; (with_reducible refine (K.out.2.2 _).mono ?_); rintro e w' ⟨rfl, k, rfl⟩) | (go_at_call 17; refine (lives_any _).mono ?_; rintro e w' ⟨rfl, k, rfl⟩))
    go_ret
    exact ⟨rfl, by repeat (first | exact Grown.refl _ | refine grown_drewN ?_ _)⟩

/-! ### THE ROW's STEP: WRITTEN OUT: LEAVE IT -/
set_option maxRecDepth 100000 in
theorem lifted (os : Os) (started : os.Started) (H : Type) (enc : TypeId × Value → H) :
    ReturnsInHanded {} Try.checked os 8 .any (Rows.fixedNegationSpec.pre6 enc Try.prog Try.f8 Rows.fixedNegationRow.domain false) (Rows.fixedNegationSpec.post enc Try.prog Try.f8 false true false false) := by
  refine returnsInHanded_of_change (C := Try.checked) own started (by kernel_rfl) Try.func8
    (ChangeSpec.witness6 (enc := enc) (C := Try.checked) false ⟨#[], #[.int .i64 0, .int .i64 0], []⟩ 8 (by kernel_rfl) (by kernel_rfl) (by kernel_rfl) (by kernel_rfl)) ?_
  intro W base args ds gs before hval0 hW hcnd _
  have hval : ∀ (j : Nat) t v, Try.f8.params[j]? = some t → args[j]? = some v → Value.okWide Try.prog W .any base t v := hval0
  have hW' := hW
  obtain ⟨p, q, hA0, hV, rfl, hfz, hnd⟩ := hW
  have hA : DataW.TrodAll enc Try.prog W 0 (fun _ => true) true Try.f8.params.toList args.toList ds p := hA0
  rw [Try.params8] at hA hval
  obtain ⟨v0, vs0, d0, ds0, p0, q0, hargs, rfl, rfl, h0, r0⟩ := trodAll_cons hA
  obtain ⟨v1, vs1, d1, ds1, p1, q1, rfl, rfl, rfl, h1, r1⟩ := trodAll_cons r0
  obtain ⟨rfl, rfl, rfl⟩ := trodAll_nil r1
  obtain rfl : args = #[v0, v1] := by cases args; simp_all
  obtain ⟨rfl, rfl⟩ := trodVars_none hV
  obtain ⟨a0, rfl, rfl, rfl, w0⟩ := open_int Try.underlying3 (hval 0 3 v0 rfl rfl) h0
  obtain ⟨a1, rfl, rfl, rfl, w1⟩ := open_int Try.underlying3 (hval 1 3 v1 rfl rfl) h1
  clear hA0 hval0
  simp only [List.append_nil] at hW'
  refine (walk a0 a1 w0 w1 W).mono fun e W' ⟨he, hg⟩ => ?_
  subst he
  exact ⟨_, rfl, post_of_same (pa := []) (pv := []) hW' (fun _ _ _ => (trodAll_cons_mk (shut_bool Try.underlying4 _) trodAll_mk0)) (fun sp _ => (trodAll_cons_mk (shut_int Try.underlying3 w0) (trodAll_cons_mk (shut_int Try.underlying3 w1) trodAll_mk0))) (fun _ _ => rfl) rfl
    (hg.frame _) hg.2.1 (ok_one (by kernel_rfl) rfl (okWide_bool_mk Try.underlying4 _))⟩

theorem over : Rows.fixedNegationRow.holds Try.pinned (OpenSpec.ofChange Rows.fixedNegationSpec) :=
  OpenClaim.holds_of_wide 8 Try.f8 rfl rfl rfl rfl rfl rfl rfl ⟨rfl, rfl, rfl, rfl, rfl⟩ rfl rfl rfl rfl rfl (by kernel_rfl) Try.func8 (by kernel_rfl)
    (of_decide_eq_true (by kernel_rfl)) (by unfold Func.isWrapper; first | (rw [if_pos (by decide +kernel)]; kernel_rfl) | (rw [if_neg (by decide +kernel)]; exact ⟨rfl, rfl⟩))
    (fun os started H enc _ => lifted os started H enc)

/-- ████ THE STATEMENT ████ -/
theorem proved : Rows.FixedNegationSaid :=
  over
#print axioms proved
end Go.Proofs.Ytkmajoobagbajaa.fixedNegation
