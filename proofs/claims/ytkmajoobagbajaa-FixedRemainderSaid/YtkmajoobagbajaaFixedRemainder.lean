/-
  Proved: arenanetlaw01.FixedRemainder returns true for all ints a, b and c and leaves its arguments as they were. No further condition.
-/
import Derived.Test.YtkmajoobagbajaaRows
import Derived.WalkKit
import Derived.ProofKit
import Derived.OpenShut
import Derived.Test.YtkmajoobagbajaaFixSmall
namespace Go.Proofs.Ytkmajoobagbajaa.fixedRemainder
open Go.ChangeShapes Go.WideShapes Go.ChangeAt Go.RowKit
set_option linter.unusedVariables false      -- a walk need not use every 'w<i>' (that an integer argument fits its kind)

open Fxm
/-- The remainder against the floor: of the divisor's sign, and smaller. -/
theorem rem_parts (p z : Int) (hz : z ≠ 0) : (0 < z ∧ 0 ≤ p - z * flr p z ∧ p - z * flr p z < z) ∨ (z < 0 ∧ p - z * flr p z ≤ 0 ∧ z < p - z * flr p z) := by
  by_cases h : 0 < z
  · have := flr_spec_pos (a := p) h; omega
  · have := flr_spec_neg (a := p) (b := z) (by omega); omega
theorem absV_spec (n : Int) : (n < 0 ∧ absV n = -n) ∨ (0 ≤ n ∧ absV n = n) := by
  unfold absV; split <;> omega
theorem own : ownKnob Try.prog.godebug = none := by kernel_rfl

theorem walk (a0 : Int) (a1 : Int) (a2 : Int) (w0 : (Lit.int .i64 a0).wf = true) (w1 : (Lit.int .i64 a1).wf = true) (w2 : (Lit.int .i64 a2).wf = true) (w : World) :
    Calls Try.prog 6 #[.int .i64 a0, .int .i64 a1, .int .i64 a2] w fun e w' => e = .returned (.bool true) ∧ Grown w w' := by
  obtain ⟨b0, c0⟩ := bounds_i64 w0
  obtain ⟨b1, c1⟩ := bounds_i64 w1
  obtain ⟨b2, c2⟩ := bounds_i64 w2
  go_enter Try.func6, Try.ntmps6
  go_wp2_with fail
  refine (small_any _ _ b0 c0).mono ?_
  rintro e w' ⟨⟨x, hx1, hx2, rfl⟩, rfl⟩
  go_wp2_with fail
  refine (small_any _ _ b1 c1).mono ?_
  rintro e w' ⟨⟨y, hy1, hy2, rfl⟩, rfl⟩
  go_wp2_with fail
  refine (small_any _ _ b2 c2).mono ?_
  rintro e w' ⟨⟨z, hz1, hz2, rfl⟩, rfl⟩
  obtain ⟨p1, p2⟩ := prod31 hx1 hx2 hy1 hy2
  obtain ⟨q1, q2⟩ := prod31 hx1 hx2 hz1 hz2
  have k1 := fun w => mul_any x 1024 w (by omega) (by omega)
  rw [flr_mul_self x (by omega)] at k1
  have k2 := fun w => mulDiv_any x y 0 w (by omega) (by omega)
  rw [flr_zero] at k2
  have k3 := fun w => div_any x 0 w hx1 hx2
  rw [flr_zero] at k3
  have K := Lib.hid (And.intro k1 (And.intro k2 k3))
  clear k1 k2 k3
  by_cases hz : z = 0
  · subst hz
    go_wp2_with (first | (go_at_call 11; (with_reducible refine (K.out.1 _).mono ?_); rintro e w' ⟨rfl, k, rfl⟩) | (go_at_call 15; (with_reducible refine (K.out.2.1 _).mono ?_); rintro e w' ⟨rfl, k, rfl⟩) | (go_at_call 13; (with_reducible refine (K.out.2.2 _).mono ?_); rintro e w' ⟨rfl, k, rfl⟩) | (go_at_call 17; refine (lives_any _).mono ?_; rintro e w' ⟨rfl, k, rfl⟩))
    go_ret
    exact ⟨rfl, by repeat (first | exact Grown.refl _ | refine grown_drewN ?_ _)⟩
  · have k4 := fun w => mulDiv_any x z z w (by omega) (by omega)
    rw [flr_mul_self x hz] at k4
    have K4 := Lib.hid k4
    have hr := rem_parts (x * y) z hz
    have hzb : (z == 0) = false := by simpa using hz
    have k5 := fun w => mulDiv_any x y z w p1 p2
    obtain ⟨q, hq⟩ : ∃ q, q = flr (x * y) z := ⟨_, rfl⟩
    rw [← hq] at k5 hr
    have K5 := Lib.hid k5
    clear k4 k5 hq
    have hb1 : -4611686020574871552 ≤ z * q := by omega
    have hb2 : z * q ≤ 4611686020574871552 := by omega
    rcases hr with ⟨z1, r1, r2⟩ | ⟨z1, r1, r2⟩
    all_goals
      have ab1 := Lib.hid (abs_any (x * y - z * q) · (by omega) (by omega))
      have ab2 := Lib.hid (abs_any z · (by omega) (by omega))
      have ea : absV (x * y - z * q) < absV z := by
        have s1 := absV_spec (x * y - z * q)
        have s2 := absV_spec z
        omega
      by_cases hr0 : x * y - z * q = 0
      · have e0 : absV 0 = 0 := by decide
        rw [hr0, e0] at ea
        have ab1 := Lib.hid (abs_any 0 · (by omega) (by omega))
        rw [e0] at ab1
        clear e0
        go_wp2_with (first | (go_at_call 11; (with_reducible refine (K.out.1 _).mono ?_); rintro e w' ⟨rfl, k, rfl⟩) | (go_at_call 15; (with_reducible refine (K.out.2.1 _).mono ?_); rintro e w' ⟨rfl, k, rfl⟩) | (go_at_call 15; (with_reducible refine (K5.out _).mono ?_); rintro e w' ⟨rfl, k, rfl⟩) | (go_at_call 15; (with_reducible refine (K4.out _).mono ?_); rintro e w' ⟨rfl, k, rfl⟩) | (go_at_call 13; (with_reducible refine (K.out.2.2 _).mono ?_); rintro e w' ⟨rfl, k, rfl⟩) | (go_at_call 26; (with_reducible refine (ab1.out _).mono ?_); rintro e w' ⟨rfl, rfl⟩) | (go_at_call 26; (with_reducible refine (ab2.out _).mono ?_); rintro e w' ⟨rfl, rfl⟩) | (go_at_call 17; refine (lives_any _).mono ?_; rintro e w' ⟨rfl, k, rfl⟩))
        go_ret
        exact ⟨rfl, by repeat (first | exact Grown.refl _ | refine grown_drewN ?_ _)⟩
      · have hb : (x * y - z * q == 0) = false := by simpa using hr0
        first
          | have hd : decide (x * y - z * q < 0) = true := by simp; omega
          | have hd : decide (x * y - z * q < 0) = false := by simp; omega
        first
          | have hd2 : decide (z < 0) = true := by simp; omega
          | have hd2 : decide (z < 0) = false := by simp; omega
        go_wp2_with (first | (go_at_call 11; (with_reducible refine (K.out.1 _).mono ?_); rintro e w' ⟨rfl, k, rfl⟩) | (go_at_call 15; (with_reducible refine (K.out.2.1 _).mono ?_); rintro e w' ⟨rfl, k, rfl⟩) | (go_at_call 15; (with_reducible refine (K5.out _).mono ?_); rintro e w' ⟨rfl, k, rfl⟩) | (go_at_call 15; (with_reducible refine (K4.out _).mono ?_); rintro e w' ⟨rfl, k, rfl⟩) | (go_at_call 13; (with_reducible refine (K.out.2.2 _).mono ?_); rintro e w' ⟨rfl, k, rfl⟩) | (go_at_call 26; (with_reducible refine (ab1.out _).mono ?_); rintro e w' ⟨rfl, rfl⟩) | (go_at_call 26; (with_reducible refine (ab2.out _).mono ?_); rintro e w' ⟨rfl, rfl⟩) | (go_at_call 17; refine (lives_any _).mono ?_; rintro e w' ⟨rfl, k, rfl⟩))
        go_ret
        exact ⟨rfl, by repeat (first | exact Grown.refl _ | refine grown_drewN ?_ _)⟩

/-! ### THE ROW's STEP: WRITTEN OUT: LEAVE IT -/
set_option maxRecDepth 100000 in
theorem lifted (os : Os) (started : os.Started) (H : Type) (enc : TypeId × Value → H) :
    ReturnsInHanded {} Try.checked os 6 .any (Rows.fixedRemainderSpec.pre6 enc Try.prog Try.f6 Rows.fixedRemainderRow.domain false) (Rows.fixedRemainderSpec.post enc Try.prog Try.f6 false true false false) := by
  refine returnsInHanded_of_change (C := Try.checked) own started (by kernel_rfl) Try.func6
    (ChangeSpec.witness6 (enc := enc) (C := Try.checked) false ⟨#[], #[.int .i64 0, .int .i64 0, .int .i64 0], []⟩ 8 (by kernel_rfl) (by kernel_rfl) (by kernel_rfl) (by kernel_rfl)) ?_
  intro W base args ds gs before hval0 hW hcnd _
  have hval : ∀ (j : Nat) t v, Try.f6.params[j]? = some t → args[j]? = some v → Value.okWide Try.prog W .any base t v := hval0
  have hW' := hW
  obtain ⟨p, q, hA0, hV, rfl, hfz, hnd⟩ := hW
  have hA : DataW.TrodAll enc Try.prog W 0 (fun _ => true) true Try.f6.params.toList args.toList ds p := hA0
  rw [Try.params6] at hA hval
  obtain ⟨v0, vs0, d0, ds0, p0, q0, hargs, rfl, rfl, h0, r0⟩ := trodAll_cons hA
  obtain ⟨v1, vs1, d1, ds1, p1, q1, rfl, rfl, rfl, h1, r1⟩ := trodAll_cons r0
  obtain ⟨v2, vs2, d2, ds2, p2, q2, rfl, rfl, rfl, h2, r2⟩ := trodAll_cons r1
  obtain ⟨rfl, rfl, rfl⟩ := trodAll_nil r2
  obtain rfl : args = #[v0, v1, v2] := by cases args; simp_all
  obtain ⟨rfl, rfl⟩ := trodVars_none hV
  obtain ⟨a0, rfl, rfl, rfl, w0⟩ := open_int Try.underlying3 (hval 0 3 v0 rfl rfl) h0
  obtain ⟨a1, rfl, rfl, rfl, w1⟩ := open_int Try.underlying3 (hval 1 3 v1 rfl rfl) h1
  obtain ⟨a2, rfl, rfl, rfl, w2⟩ := open_int Try.underlying3 (hval 2 3 v2 rfl rfl) h2
  clear hA0 hval0
  simp only [List.append_nil] at hW'
  refine (walk a0 a1 a2 w0 w1 w2 W).mono fun e W' ⟨he, hg⟩ => ?_
  subst he
  exact ⟨_, rfl, post_of_same (pa := []) (pv := []) hW' (fun _ _ _ => (trodAll_cons_mk (shut_bool Try.underlying4 _) trodAll_mk0)) (fun sp _ => (trodAll_cons_mk (shut_int Try.underlying3 w0) (trodAll_cons_mk (shut_int Try.underlying3 w1) (trodAll_cons_mk (shut_int Try.underlying3 w2) trodAll_mk0)))) (fun _ _ => rfl) rfl
    (hg.frame _) hg.2.1 (ok_one (by kernel_rfl) rfl (okWide_bool_mk Try.underlying4 _))⟩

theorem over : Rows.fixedRemainderRow.holds Try.pinned (OpenSpec.ofChange Rows.fixedRemainderSpec) :=
  OpenClaim.holds_of_wide 6 Try.f6 rfl rfl rfl rfl rfl rfl rfl ⟨rfl, rfl, rfl, rfl, rfl⟩ rfl rfl rfl rfl rfl (by kernel_rfl) Try.func6 (by kernel_rfl)
    (of_decide_eq_true (by kernel_rfl)) (by unfold Func.isWrapper; first | (rw [if_pos (by decide +kernel)]; kernel_rfl) | (rw [if_neg (by decide +kernel)]; exact ⟨rfl, rfl⟩))
    (fun os started H enc _ => lifted os started H enc)

/-- ████ THE STATEMENT ████ -/
theorem proved : Rows.FixedRemainderSaid :=
  over
#print axioms proved
end Go.Proofs.Ytkmajoobagbajaa.fixedRemainder
