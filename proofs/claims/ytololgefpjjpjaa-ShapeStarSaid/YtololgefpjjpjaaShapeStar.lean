/-
  Proved: arenanetlaw03.ShapeStar returns true for every int and leaves its argument as it was. No further condition.
-/
import Derived.Test.YtololgefpjjpjaaRows
import Derived.WalkKit
import Derived.ProofKit
import Derived.OpenShut
import Derived.Test.YtololgefpjjpjaaLawKit
import Derived.Test.YtololgefpjjpjaaShapeL
namespace Go.Proofs.Ytololgefpjjpjaa.shapeStar
open Go.ChangeShapes Go.WideShapes Go.ChangeAt Go.RowKit
set_option linter.unusedVariables false
set_option linter.unusedSimpArgs false

open Fxm
def five (k : Int) : List (Int × Int) := [(0, 3 * k), (-2 * k, -2 * k), (3 * k, k), (-3 * k, k), (2 * k, -2 * k)]
def conv (k : Int) : List (Int × Int) := [(0, 3 * k), (-3 * k, k), (-2 * k, -2 * k), (2 * k, -2 * k), (3 * k, k)]
theorem five_no {k : Int} (hk : 1 ≤ k) (r : Int) : ¬ Valid r (five k) := by
  rintro (⟨h, _⟩ | h)
  · simp [five] at h
  · have h1 := (h.2.2.2.2 0 (by simp [five])).2 3 (by simp [five]) (by omega) (by simp [five])
    have e : leftV (at' (five k) 0) (at' (five k) ((0 + 1) % (five k).length)) (at' (five k) 3) = -11 * (k * k) := by
      show leftV (0, 3 * k) (-2 * k, -2 * k) (-3 * k, k) = _
      unfold leftV; grind
    rw [e] at h1
    have := Int.mul_pos (show 0 < k by omega) (show 0 < k by omega)
    omega
theorem conv_ok {k : Int} (h1 : 1 ≤ k) (h2 : k ≤ 10000) : Valid 0 (conv k) := by
  have hm : Made (conv k) := ⟨3, 3, k, by omega, h1, h2, by decide, by
    simp only [conv, scaleV, outl, List.map_cons, List.map_nil, List.drop_succ_cons, List.drop_zero, List.take_succ_cons, List.take_zero, List.cons_append, List.nil_append]
    simp [Int.mul_comm]⟩
  exact hm.gen.valid
theorem own : ownKnob Try.prog.godebug = none := by kernel_rfl

set_option maxHeartbeats 2000000 in
theorem walk (a0 : Int) (w0 : (Lit.int .i64 a0).wf = true) (w : World) :
    Calls Try.prog 10 #[.int .i64 a0] w fun e w' => e = .returned (.bool true) ∧ Below w.heap.size w w' := by
  obtain ⟨n1, n2⟩ := bounds_i64 w0
  go_enter Try.func10, Try.ntmps10
  go_wp2_with fail
  refine (aroundx_any _ _ _ n1 n2 (by omega)).mono ?_
  rintro e w' ⟨⟨x, x1, x2, rfl⟩, rfl⟩
  obtain ⟨k, hk⟩ : ∃ k, k = 1 + x := ⟨_, rfl⟩
  have k1 : 1 ≤ k := by omega
  have k2 : k ≤ 10000 := by omega
  go_wp2_with fail
  rw [← hk]
  clear hk n1 n2
  have hB := alloc_below w (.cells #[.int .i64 0, .int .i64 (3 * k), .int .i64 (-2 * k), .int .i64 (-2 * k), .int .i64 (3 * k), .int .i64 k, .int .i64 (-3 * k), .int .i64 k, .int .i64 (2 * k), .int .i64 (-2 * k)] 34)
  have hF : RowO (w.alloc (.cells #[.int .i64 0, .int .i64 (3 * k), .int .i64 (-2 * k), .int .i64 (-2 * k), .int .i64 (3 * k), .int .i64 k, .int .i64 (-3 * k), .int .i64 k, .int .i64 (2 * k), .int .i64 (-2 * k)] 34)) w.heap.size 0 5 (five k) := ⟨by simp [five], by unfold maxLen; decide, fun i u hu => by
    have hi : i < 10 := (List.getElem?_eq_some_iff.1 hu).1
    match i, hi, hu with
    | 0, _, hu => cases hu; simp
    | 1, _, hu => cases hu; simp
    | 2, _, hu => cases hu; simp
    | 3, _, hu => cases hu; simp
    | 4, _, hu => cases hu; simp
    | 5, _, hu => cases hu; simp
    | 6, _, hu => cases hu; simp
    | 7, _, hu => cases hu; simp
    | 8, _, hu => cases hu; simp
    | 9, _, hu => cases hu; simp⟩
  have hFh := Lib.hid hF
  clear hF
  refine wp_region_tail 15 (by kernel_rfl) (by kernel_rfl) ?_
  intro W hK
  obtain ⟨hc, hf, hz, hb⟩ := hK
  simp only [List.take_succ_cons, List.take_zero, List.drop_succ_cons, List.drop_zero]
  repeat (go_big_quiet_step (fail))
  refine wpQuiet_nil ?_
  intro _ hw'
  obtain ⟨xq, hw''⟩ := hw'
  subst hw''
  have hbq := hb xq
  clear hc hf hz hb
  generalize over W xq = wq at *
  replace hB := below_step hB hbq
  have hF2 := Lib.hid (hFh.out.carry hbq)
  clear hbq hFh
  go_wp2_with fail
  have hC : RowO (wq.alloc (.cells #[.int .i64 0, .int .i64 (3 * k), .int .i64 (-3 * k), .int .i64 k, .int .i64 (-2 * k), .int .i64 (-2 * k), .int .i64 (2 * k), .int .i64 (-2 * k), .int .i64 (3 * k), .int .i64 k] 34)) wq.heap.size 0 5 (conv k) := ⟨by simp [conv], by unfold maxLen; decide, fun i u hu => by
    have hi : i < 10 := (List.getElem?_eq_some_iff.1 hu).1
    match i, hi, hu with
    | 0, _, hu => cases hu; simp
    | 1, _, hu => cases hu; simp
    | 2, _, hu => cases hu; simp
    | 3, _, hu => cases hu; simp
    | 4, _, hu => cases hu; simp
    | 5, _, hu => cases hu; simp
    | 6, _, hu => cases hu; simp
    | 7, _, hu => cases hu; simp
    | 8, _, hu => cases hu; simp
    | 9, _, hu => cases hu; simp⟩
  replace hB := below_step hB (alloc_below wq (.cells #[.int .i64 0, .int .i64 (3 * k), .int .i64 (-3 * k), .int .i64 k, .int .i64 (-2 * k), .int .i64 (-2 * k), .int .i64 (2 * k), .int .i64 (-2 * k), .int .i64 (3 * k), .int .i64 k] 34))
  have hF3 := Lib.hid (hF2.out.carry (alloc_below wq (.cells #[.int .i64 0, .int .i64 (3 * k), .int .i64 (-3 * k), .int .i64 k, .int .i64 (-2 * k), .int .i64 (-2 * k), .int .i64 (2 * k), .int .i64 (-2 * k), .int .i64 (3 * k), .int .i64 k] 34)))
  have hC' := Lib.hid hC
  clear hC hF2
  generalize wq.alloc (.cells #[.int .i64 0, .int .i64 (3 * k), .int .i64 (-3 * k), .int .i64 k, .int .i64 (-2 * k), .int .i64 (-2 * k), .int .i64 (2 * k), .int .i64 (-2 * k), .int .i64 (3 * k), .int .i64 k] 34) = u2 at *
  refine (validate_no (vs := five k) (Or.inr ⟨_, _, _, rfl, hF3.out⟩) (five_no k1 0)).mono ?_
  rintro e u3 ⟨rfl, hb3⟩
  go_wp2_with fail
  refine (validate_ok (vs := conv k) (Or.inr ⟨_, _, _, rfl, hC'.out.carry hb3⟩) (conv_ok k1 k2)).mono ?_
  rintro e u4 ⟨rfl, hb4⟩
  go_wp2_with fail
  refine (lives3_any _).mono ?_
  rintro e u5 ⟨rfl, hb5⟩
  go_wp2
  go_ret
  exact ⟨rfl, below_step (below_step (below_step hB hb3) hb4) hb5⟩

set_option maxRecDepth 100000 in
theorem lifted (os : Os) (started : os.Started) (H : Type) (enc : TypeId × Value → H) :
    ReturnsInHanded {} Try.checked os 10 .any (Rows.shapeStarSpec.pre6 enc Try.prog Try.f10 Rows.shapeStarRow.domain false) (Rows.shapeStarSpec.post enc Try.prog Try.f10 false true false false) := by
  refine returnsInHanded_of_change (C := Try.checked) own started (by kernel_rfl) Try.func10
    (ChangeSpec.witness6 (enc := enc) (C := Try.checked) false ⟨#[], #[.int .i64 0], []⟩ 8 (by kernel_rfl) (by kernel_rfl) (by kernel_rfl) (by kernel_rfl)) ?_
  intro W base args ds gs before hval0 hW hcnd _
  have hval : ∀ (j : Nat) t v, Try.f10.params[j]? = some t → args[j]? = some v → Value.okWide Try.prog W .any base t v := hval0
  have hW' := hW
  obtain ⟨p, q, hA0, hV, rfl, hfz, hnd⟩ := hW
  have hA : DataW.TrodAll enc Try.prog W 0 (fun _ => true) true Try.f10.params.toList args.toList ds p := hA0
  rw [Try.params10] at hA hval
  obtain ⟨v0, vs0, d0, ds0, p0, q0, hargs, rfl, rfl, h0, r0⟩ := trodAll_cons hA
  obtain ⟨rfl, rfl, rfl⟩ := trodAll_nil r0
  obtain rfl : args = #[v0] := by cases args; simp_all
  obtain ⟨rfl, rfl⟩ := trodVars_none hV
  obtain ⟨a0, rfl, rfl, rfl, w0⟩ := open_int Try.underlying3 (hval 0 3 v0 rfl rfl) h0
  clear hA0 hval0
  simp only [List.append_nil] at hW'
  refine (walk a0 w0 W).mono fun e W' ⟨he, hb⟩ => ?_
  subst he
  exact ⟨_, rfl, kept_post (pa := []) hW' (fun _ _ _ => (trodAll_cons_mk (shut_bool Try.underlying4 _) trodAll_mk0)) (fun sp _ => (trodAll_cons_mk (shut_int Try.underlying3 w0) trodAll_mk0)) (fun _ => rfl) hb (ok_one (by kernel_rfl) rfl (okWide_bool_mk Try.underlying4 _))⟩

theorem over : Rows.shapeStarRow.holds Try.pinned (OpenSpec.ofChange Rows.shapeStarSpec) :=
  OpenClaim.holds_of_wide 10 Try.f10 rfl rfl rfl rfl rfl rfl rfl ⟨rfl, rfl, rfl, rfl, rfl⟩ rfl rfl rfl rfl rfl (by kernel_rfl) Try.func10 (by kernel_rfl)
    (of_decide_eq_true (by kernel_rfl)) (by unfold Func.isWrapper; first | (rw [if_pos (by decide +kernel)]; kernel_rfl) | (rw [if_neg (by decide +kernel)]; exact ⟨rfl, rfl⟩))
    (fun os started H enc _ => lifted os started H enc)

theorem proved : Rows.ShapeStarSaid :=
  over
#print axioms proved
end Go.Proofs.Ytololgefpjjpjaa.shapeStar
