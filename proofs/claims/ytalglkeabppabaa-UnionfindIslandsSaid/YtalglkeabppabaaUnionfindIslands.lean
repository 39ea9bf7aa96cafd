/-
  package unionfind, P8.3: for a number of elements from 0 to 14 and up to 30 edges, made of any numbers, Islands returns what the reference's Islands does, and the section's example holds; whatever the arguments are.
-/
import Derived.Test.YtalglkeabppabaaRows
import Derived.WalkKit
import Derived.ProofKit
import Derived.OpenShut
import Derived.Test.YtalglkeabppabaaOpen
import Derived.Test.YtalglkeabppabaaUfX
namespace Go.Proofs.Ytalglkeabppabaa.unionfindIslands
open Go.ChangeShapes Go.WideShapes Go.ChangeAt Go.RowKit
set_option linter.unusedVariables false
set_option linter.unusedSimpArgs false

open Uf
theorem own : ownKnob Try.prog.godebug = none := by kernel_rfl
theorem laid : laidOutB Try.prog = true := by kernel_rfl

set_option maxRecDepth 100000 in
set_option maxHeartbeats 8000000 in
theorem walk (w : World) (a0 : Int) (w0 : (Lit.int .i64 a0).wf = true) (s1 : Value) (Z1 : Nat → Int) (l1 : Nat) (H1 : IntsAt w s1 1 Z1 l1) :
    Calls Try.prog 4 #[.int .i64 a0, s1] w fun e w' => e = .returned (.bool true) ∧ Below w.heap.size w w' := by
  have H1' := Lib.hid H1
  clear H1
  have hk := sz_le a0
  obtain ⟨k, hkk⟩ : ∃ k, k = sz a0 := ⟨_, rfl⟩
  have kz := Lib.hid (fun W => size8_any a0 W w0)
  rw [← hkk] at hk kz
  clear hkk
  have hE := Lib.hid (show (edgesL Z1 l1).length ≤ 10000 from by rw [edgesL_len]; omega)
  go_enter Try.func4, Try.ntmps4
  go_wp2_with (first
    | (go_at_call 11; with_reducible refine (kz.out _).mono ?_; rintro e u1 ⟨rfl, rfl⟩)
    | (go_at_call 14; with_reducible refine (edges_any s1 Z1 l1 w H1'.out).mono ?_; rintro e u1 ⟨v1, rfl, hP, _, hb1⟩; have hP' := Lib.hid hP; have hb1' := Lib.hid hb1; clear hP hb1)
    | (go_at_call 23; with_reducible refine (islands_any k v1 _ u1 hP'.out (by omega) hE.out).mono ?_; rintro e u2 ⟨v2, rfl, hG, hb2⟩; have hG' := Lib.hid hG; have hP2 := Lib.hid (hP'.out.carry hb2); have hb2' := Lib.hid (below_step hb1'.out hb2); clear hG hb2)
    | (go_at_call 24; with_reducible refine (refIslands_any k v1 _ u2 hP2.out (by omega) hE.out).mono ?_; rintro e u3 ⟨v3, rfl, hR, _, hb3⟩; have hR' := Lib.hid hR; have hG3 := Lib.hid (hG'.out.gl.carry hb3); have hb3' := Lib.hid (below_step hb2'.out hb3); clear hR hb3)
    | (go_at_call 19; with_reducible refine (equalG_any v2 v3 _ _ u3 hG3.out hR'.out).mono ?_; rintro e u4 ⟨rfl, hb4⟩; rw [decide_eq_true rfl]; have hb4' := Lib.hid (below_step hb3'.out hb4); clear hb4)
    | (go_at_call 22; with_reducible refine (lives8_any u4).mono ?_; rintro e u5 ⟨rfl, hb5⟩; have hb5' := Lib.hid (below_step hb4'.out hb5); clear hb5))
  go_ret
  exact ⟨rfl, hb5'.out⟩

set_option maxRecDepth 100000 in
theorem lifted (os : Os) (started : os.Started) (H : Type) (enc : TypeId × Value → H) :
    ReturnsInHanded {} Try.checked os 4 .any (Rows.unionfindIslandsSpec.pre6 enc Try.prog Try.f4 Rows.unionfindIslandsRow.domain false) (Rows.unionfindIslandsSpec.post enc Try.prog Try.f4 false true false false) := by
  refine returnsInHanded_of_change (C := Try.checked) own started (by kernel_rfl) Try.func4
    (ChangeSpec.witness6 (enc := enc) (C := Try.checked) false ⟨#[], #[.int .i64 0, .slice none 0 0], []⟩ 8 (by kernel_rfl) (by kernel_rfl) (by kernel_rfl) (by kernel_rfl)) ?_
  intro W base args ds gs before hval0 hW hcnd _
  have hval : ∀ (j : Nat) t v, Try.f4.params[j]? = some t → args[j]? = some v → Value.okWide Try.prog W .any base t v := hval0
  have hW' := hW
  obtain ⟨p, q, hA0, hV, rfl, hfz, hnd⟩ := hW
  have hA : DataW.TrodAll enc Try.prog W 0 (fun _ => true) true Try.f4.params.toList args.toList ds p := hA0
  rw [Try.params4] at hA hval
  have hAk := hA
  obtain ⟨v0, vs0, d0, ds0, p0, q0, hargs, rfl, hp0, h0, r0⟩ := trodAll_cons hA
  obtain ⟨v1, vs1, d1, ds1, p1, q1, rfl, rfl, hp1, h1, r1⟩ := trodAll_cons r0
  obtain ⟨rfl, rfl, -⟩ := trodAll_nil r1
  obtain rfl : args = #[v0, v1] := by cases args; simp_all
  obtain ⟨rfl, rfl⟩ := trodVars_none hV
  obtain ⟨a0, rfl, -, -, w0⟩ := open_int Try.underlying3 (hval 0 3 v0 rfl rfl) h0
  obtain ⟨x1, q1, c1, rfl⟩ := okWide_slice Try.underlying22 (hval 1 22 v1 rfl rfl)
  obtain ⟨fu1, fh1⟩ := h1
  obtain ⟨s1, Z1, l1, e1, H1⟩ := open_int_cells Try.underlying22 Try.underlying3 (by kernel_rfl) fh1
  simp only [Value.cells, List.cons.injEq, and_true] at e1
  obtain rfl := e1.symm
  clear hA0 hval0
  simp only [List.append_nil] at hW'
  refine (walk W a0 w0 _ Z1 l1 H1).mono fun e W' ⟨he, hb⟩ => ?_
  subst he
  exact ⟨_, rfl, kept_post (pa := p) hW' (fun _ _ _ => (trodAll_cons_mk (shut_bool Try.underlying4 _) trodAll_mk0)) (fun sp hsp => trodAll_stays laid hb (by rw [Try.params4]; decide +kernel) hAk (fun x hx => hW'.lt x hx) hsp) (fun _ => rfl) hb (ok_one (by kernel_rfl) rfl (okWide_bool_mk Try.underlying4 _))⟩

theorem over : Rows.unionfindIslandsRow.holds Try.pinned (OpenSpec.ofChange Rows.unionfindIslandsSpec) :=
  OpenClaim.holds_of_wide 4 Try.f4 rfl rfl rfl rfl rfl rfl rfl ⟨rfl, rfl, rfl, rfl, rfl⟩ rfl rfl rfl rfl rfl (by kernel_rfl) Try.func4 (by kernel_rfl)
    (of_decide_eq_true (by kernel_rfl)) (by unfold Func.isWrapper; first | (rw [if_pos (by decide +kernel)]; kernel_rfl) | (rw [if_neg (by decide +kernel)]; exact ⟨rfl, rfl⟩))
    (fun os started H enc _ => lifted os started H enc)

theorem proved : Rows.UnionfindIslandsSaid :=
  over
#print axioms proved
end Go.Proofs.Ytalglkeabppabaa.unionfindIslands
