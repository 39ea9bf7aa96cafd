/-
  Proved: arenanetlaw02.VecUnit returns true for every array of two ints and leaves its argument as it was. No further condition.
-/
import Derived.Test.YtapbeeifffpdgaaRows
import Derived.WalkKit
import Derived.ProofKit
import Derived.OpenShut
import Derived.Test.YtapbeeifffpdgaaLawKit
import Derived.Test.YtapbeeifffpdgaaVecC
namespace Go.Proofs.Ytapbeeifffpdgaa.vecUnit
open Go.ChangeShapes Go.WideShapes Go.ChangeAt Go.RowKit
set_option linter.unusedVariables false
set_option linter.unusedSimpArgs false

open Fxm
theorem own : ownKnob Try.prog.godebug = none := by kernel_rfl

set_option maxHeartbeats 2000000 in
theorem walk (a0_0 : Int) (a0_1 : Int) (w0_0 : (Lit.int .i64 a0_0).wf = true) (w0_1 : (Lit.int .i64 a0_1).wf = true) (w : World) :
    Calls Try.prog 9 #[.agg #[.int .i64 a0_0, .int .i64 a0_1]] w fun e w' => e = .returned (.bool true) ∧ Below w.heap.size w w' := by
  go_enter Try.func9, Try.ntmps9
  go_wp2_with fail
  refine (of_any _ _ _ w0_0 w0_1).mono ?_
  rintro e w1 ⟨⟨a0, a1, ha0, ha1, rfl⟩, hb1⟩
  have hB := below_step (below_step (alloc_below _ _) hb1) (alloc_below w1 (.cells #[.int .i64 a0, .int .i64 a1] 24))
  clear hb1
  have va0 := World.cell?_alloc_new (w := w1) #[.int .i64 a0, .int .i64 a1] 24 0
  have va1 := World.cell?_alloc_new (w := w1) #[.int .i64 a0, .int .i64 a1] 24 1
  go_wp2_with fail
  refine (len_any a0 a1 _ ha0.bd ha1.bd).mono ?_
  rintro e w2 ⟨rfl, hb2⟩
  replace va0 := carry (hb2) va0
  replace va1 := carry (hb2) va1
  replace hB := below_step hB hb2
  clear hb2
  by_cases hl : isq (a0 * a0 + a1 * a1) < 1024
  · go_wp2_with fail
    refine (lives2_any _).mono ?_
    rintro e w7 ⟨rfl, hb7⟩
    go_wp2
    go_ret
    exact ⟨rfl, below_step hB hb7⟩
  · have k1 := fun w => normalize_any a0 a1 w ha0.bd ha1.bd
    obtain ⟨bx, by'⟩ := Vcm.unit_bd (a := a0) (b := a1) (by omega)
    obtain ⟨sx, px⟩ := Vcm.unit_sign (a := a0) (l := isq (a0 * a0 + a1 * a1)) (by omega)
    obtain ⟨sy, py⟩ := Vcm.unit_sign (a := a1) (l := isq (a0 * a0 + a1 * a1)) (by omega)
    obtain ⟨u1, u2⟩ := Vcm.unit_len (a := a0) (b := a1) (by omega)
    generalize isq (a0 * a0 + a1 * a1) = l at *
    generalize flr (a0 * 1024) l = x at *
    generalize flr (a1 * 1024) l = y at *
    have k2 := fun w => len_any x y w (bd_of (by omega) (by omega)) (bd_of (by omega) (by omega))
    generalize isq (x * x + y * y) = m at *
    have qx := prod_bd (a := x) (b := a0) (A := 1026) (B := 8388608) (by omega) (by omega) bx.1 bx.2 ha0.1 ha0.2
    have qy := prod_bd (a := y) (b := a1) (A := 1026) (B := 8388608) (by omega) (by omega) by'.1 by'.2 ha1.1 ha1.2
    have t1 := absV_spec (m - 1024)
    have k3 := fun w => abs_any (m - 1024) w (by omega) (by omega)
    generalize absV (m - 1024) = z at *
    have z1 : 0 ≤ z ∧ z ≤ 2 := by omega
    have K := Lib.hid (And.intro k1 (And.intro k2 k3))
    clear k1 k2 k3 t1
    rcases sx with ⟨sx1, sx2⟩ | ⟨sx1, sx2⟩ <;> rcases sy with ⟨sy1, sy2⟩ | ⟨sy1, sy2⟩
    all_goals
      go_wp2_with fail
      refine (K.out.1 _).mono ?_
      rintro e w3 ⟨rfl, hb3⟩
      replace va0 := carry (below_step hb3 (alloc_below w3 (.cells #[.int .i64 x, .int .i64 y] 24))) va0
      replace va1 := carry (below_step hb3 (alloc_below w3 (.cells #[.int .i64 x, .int .i64 y] 24))) va1
      replace hB := below_step (below_step hB hb3) (alloc_below w3 (.cells #[.int .i64 x, .int .i64 y] 24))
      clear hb3
      have vn0 := World.cell?_alloc_new (w := w3) #[.int .i64 x, .int .i64 y] 24 0
      have vn1 := World.cell?_alloc_new (w := w3) #[.int .i64 x, .int .i64 y] 24 1
      go_wp2_with fail
      refine (K.out.2.1 _).mono ?_
      rintro e w4 ⟨rfl, hb4⟩
      replace hB := below_step hB hb4
      clear hb4
      go_wp2_with fail
      refine (K.out.2.2 _).mono ?_
      rintro e w' ⟨rfl, rfl⟩
      go_wp2_with fail
      refine (lives2_any _).mono ?_
      rintro e w7 ⟨rfl, hb7⟩
      go_wp2
      go_ret
      exact ⟨rfl, below_step hB hb7⟩

set_option maxRecDepth 100000 in
theorem lifted (os : Os) (started : os.Started) (H : Type) (enc : TypeId × Value → H) :
    ReturnsInHanded {} Try.checked os 9 .any (Rows.vecUnitSpec.pre6 enc Try.prog Try.f9 Rows.vecUnitRow.domain false) (Rows.vecUnitSpec.post enc Try.prog Try.f9 false true false false) := by
  refine returnsInHanded_of_change (C := Try.checked) own started (by kernel_rfl) Try.func9
    (ChangeSpec.witness6 (enc := enc) (C := Try.checked) false ⟨#[], #[.agg #[.int .i64 0, .int .i64 0]], []⟩ 8 (by kernel_rfl) (by kernel_rfl) (by kernel_rfl) (by kernel_rfl)) ?_
  intro W base args ds gs before hval0 hW hcnd _
  have hval : ∀ (j : Nat) t v, Try.f9.params[j]? = some t → args[j]? = some v → Value.okWide Try.prog W .any base t v := hval0
  have hW' := hW
  obtain ⟨p, q, hA0, hV, rfl, hfz, hnd⟩ := hW
  have hA : DataW.TrodAll enc Try.prog W 0 (fun _ => true) true Try.f9.params.toList args.toList ds p := hA0
  rw [Try.params9] at hA hval
  obtain ⟨v0, vs0, d0, ds0, p0, q0, hargs, rfl, rfl, h0, r0⟩ := trodAll_cons hA
  obtain ⟨rfl, rfl, rfl⟩ := trodAll_nil r0
  obtain rfl : args = #[v0] := by cases args; simp_all
  obtain ⟨rfl, rfl⟩ := trodVars_none hV
  obtain ⟨z0, l0, e0, rfl, rfl, y0⟩ := open_arr Try.underlying39 Try.underlying3 (by kernel_rfl) (by kernel_rfl) (hval 0 39 v0 rfl rfl) h0
  obtain ⟨a0_0, a0_1, rfl⟩ := list2 l0
  simp only [List.map_cons, List.map_nil] at e0
  subst e0
  clear hA0 hval0
  simp only [List.append_nil] at hW'
  refine (walk a0_0 a0_1 (y0 _ (by simp)) (y0 _ (by simp)) W).mono fun e W' ⟨he, hb⟩ => ?_
  subst he
  exact ⟨_, rfl, kept_post (pa := []) hW' (fun _ _ _ => (trodAll_cons_mk (shut_bool Try.underlying4 _) trodAll_mk0)) (fun sp _ => (trodAll_cons_mk (shut_arr Try.underlying39 Try.underlying3 (by kernel_rfl) (by kernel_rfl) rfl y0) trodAll_mk0)) (fun _ => rfl) hb (ok_one (by kernel_rfl) rfl (okWide_bool_mk Try.underlying4 _))⟩

theorem over : Rows.vecUnitRow.holds Try.pinned (OpenSpec.ofChange Rows.vecUnitSpec) :=
  OpenClaim.holds_of_wide 9 Try.f9 rfl rfl rfl rfl rfl rfl rfl ⟨rfl, rfl, rfl, rfl, rfl⟩ rfl rfl rfl rfl rfl (by kernel_rfl) Try.func9 (by kernel_rfl)
    (of_decide_eq_true (by kernel_rfl)) (by unfold Func.isWrapper; first | (rw [if_pos (by decide +kernel)]; kernel_rfl) | (rw [if_neg (by decide +kernel)]; exact ⟨rfl, rfl⟩))
    (fun os started H enc _ => lifted os started H enc)

theorem proved : Rows.VecUnitSaid :=
  over
#print axioms proved
end Go.Proofs.Ytapbeeifffpdgaa.vecUnit
