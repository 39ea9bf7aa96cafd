/-
  package toi, P6.1, P6.4: for every two bodies made of numbers, without velocities the result is One; and the section's example holds; whatever the arguments are.
-/
import Derived.Test.YtfbgghkkgmgnjaaRows
import Derived.WalkKit
import Derived.ProofKit
import Derived.OpenShut
import Derived.Test.YtfbgghkkgmgnjaaOpen
import Derived.Test.YtfbgghkkgmgnjaaToiD
import Derived.Test.YtfbgghkkgmgnjaaToiE
namespace Go.Proofs.Ytfbgghkkgmgnjaa.toiRest
open Go.ChangeShapes Go.WideShapes Go.ChangeAt Go.RowKit
set_option linter.unusedVariables false
set_option linter.unusedSimpArgs false

open Fxm
theorem own : ownKnob Try.prog.godebug = none := by kernel_rfl
theorem laid : laidOutB Try.prog = true := by kernel_rfl

set_option maxRecDepth 100000 in
set_option maxHeartbeats 8000000 in
theorem walk (w : World) (s0 : Value) (Z0 : Nat → Int) (l0 : Nat) (H0 : IntsAt w s0 1 Z0 l0) :
    Calls Try.prog 9 #[s0] w fun e w' => e = .returned (.bool true) ∧ Below w.heap.size w w' := by
  have H0' := Lib.hid H0
  clear H0
  go_enter Try.func9, Try.ntmps9
  go_wp2_with fail
  refine (pair_any _ _ _ _ H0'.out).mono ?_
  rintro e u1 ⟨⟨s, t, p0, p1, v0, v1, q0, q1, y0, y1, ok, rfl, hs, ht⟩, hB⟩
  have hwA : w.heap.size ≤ u1.heap.size := hB.size
  go_upto_region 2 with fail
  have hA := (Below.heap_alloc (u1.alloc (bodyO s p0 p1 v0 v1)) (bodyO t q0 q1 y0 y1) u1.heap.size (by simp)).trans (World.alloc_heap_new u1 (bodyO s p0 p1 v0 v1))
  have hBo := World.alloc_heap_new (u1.alloc (bodyO s p0 p1 v0 v1)) (bodyO t q0 q1 y0 y1)
  rw [World.size_alloc] at hBo
  have hb2 := below_step (alloc_below u1 (bodyO s p0 p1 v0 v1)) (alloc_below _ (bodyO t q0 q1 y0 y1))
  obtain ⟨V, hV⟩ : ∃ V, V = (u1.alloc (bodyO s p0 p1 v0 v1)).alloc (bodyO t q0 q1 y0 y1) := ⟨_, rfl⟩
  rw [← hV] at hA hBo hb2
  rw [show (u1.alloc (.cells #[.int .i64 s.r, .slice s.a s.n s.cap, .int .i64 (p0), .int .i64 (p1), .int .i64 (v0), .int .i64 (v1)] 50)).alloc (.cells #[.int .i64 t.r, .slice t.a t.n t.cap, .int .i64 (q0), .int .i64 (q1), .int .i64 (y0), .int .i64 (y1)] 50) = V from hV.symm]
  replace hB := below_step hB hb2
  have hsh := Lib.hid (And.intro (hs.carry hb2) (ht.carry hb2))
  have op0 : Po p0 := by have := ok.p0; unfold Po; omega
  have op1 : Po p1 := by have := ok.p1; unfold Po; omega
  have oq0 : Po q0 := by have := ok.q0; unfold Po; omega
  have oq1 : Po q1 := by have := ok.q1; unfold Po; omega
  have ov0 := ok.v0
  have ov1 := ok.v1
  have oy0 := ok.u0
  have oy1 := ok.u1
  have hok := Lib.hid ok
  clear hV hb2 hs ht ok H0'
  generalize u1.heap.size = A at *
  have oz : Ve 0 := by unfold Ve; omega
  have hE := Lib.hid (fun w (h : Sh w s) (h' : Sh w t) => earliest6_any s t p0 p1 0 0 q0 q1 0 0 w h h' op0 op1 oz oz oq0 oq1 oz oz)
  have hcc := body_cells hA
  have ff0 := body_frozen hA 4
  have ff1 := body_frozen hA 5
  obtain ⟨-, -, cc2, cc3, cc4, cc5⟩ := hcc
  go_upto_region 3 with fail
  replace hsh := Lib.hid (And.intro (set_sh hsh.out.1 hA 4 5 (.int .i64 (0)) (.int .i64 (0))) (set_sh hsh.out.2 hA 4 5 (.int .i64 (0)) (.int .i64 (0))))
  replace hBo := oset2 (A) 4 5 (.int .i64 (0)) (.int .i64 (0)) hBo (by omega)
  
  replace hA := body_vel hA (0) (0)
  replace hB := (hB.setCell (p := ⟨A, 4, none⟩) (by simp only; omega) (.int .i64 (0))).setCell (p := ⟨A, 5, none⟩) (by simp only; omega) (.int .i64 (0))
  clear cc2 cc3 cc4 cc5 ff0 ff1
  generalize (V.setCell ⟨A, 4, none⟩ (.int .i64 (0))).setCell ⟨A, 5, none⟩ (.int .i64 (0)) = V2 at *
  have hcc := body_cells hBo
  have ff0 := body_frozen hBo 4
  have ff1 := body_frozen hBo 5
  obtain ⟨-, -, cc2, cc3, cc4, cc5⟩ := hcc
  go_upto_region 4 with fail
  replace hsh := Lib.hid (And.intro (set_sh hsh.out.1 hBo 4 5 (.int .i64 (0)) (.int .i64 (0))) (set_sh hsh.out.2 hBo 4 5 (.int .i64 (0)) (.int .i64 (0))))
  replace hA := oset2 (A + 1) 4 5 (.int .i64 (0)) (.int .i64 (0)) hA (by omega)
  
  replace hBo := body_vel hBo (0) (0)
  replace hB := (hB.setCell (p := ⟨A + 1, 4, none⟩) (by simp only; omega) (.int .i64 (0))).setCell (p := ⟨A + 1, 5, none⟩) (by simp only; omega) (.int .i64 (0))
  clear cc2 cc3 cc4 cc5 ff0 ff1
  generalize (V2.setCell ⟨A + 1, 4, none⟩ (.int .i64 (0))).setCell ⟨A + 1, 5, none⟩ (.int .i64 (0)) = V3 at *
  obtain ⟨a0, a1, a2, a3, a4, a5⟩ := body_cells hA
  obtain ⟨b0, b1, b2, b3, b4, b5⟩ := body_cells hBo
  go_wp2_with fail
  refine (hE.out _ hsh.out.1 hsh.out.2).mono ?_
  rintro e u2 ⟨⟨f, rfl, hf⟩, hb1⟩
  have hf1 : f = 1024 := hf.rest fun k => tch_rest s t (p0, p1) (q0, q1) k
  subst hf1
  replace a0 := carry (hb1) a0
  replace a1 := carry (hb1) a1
  replace a2 := carry (hb1) a2
  replace a3 := carry (hb1) a3
  replace a4 := carry (hb1) a4
  replace a5 := carry (hb1) a5
  replace b0 := carry (hb1) b0
  replace b1 := carry (hb1) b1
  replace b2 := carry (hb1) b2
  replace b3 := carry (hb1) b3
  replace b4 := carry (hb1) b4
  replace b5 := carry (hb1) b5
  replace hB := below_step hB hb1
  replace hsh := Lib.hid (And.intro (hsh.out.1.carry hb1) (hsh.out.2.carry hb1))
  clear hb1
  go_wp2_with fail
  refine (lives6_any _).mono ?_
  rintro e u4 ⟨rfl, hb2⟩
  go_wp2
  go_ret
  exact ⟨rfl, below_step hB hb2⟩

set_option maxRecDepth 100000 in
theorem lifted (os : Os) (started : os.Started) (H : Type) (enc : TypeId × Value → H) :
    ReturnsInHanded {} Try.checked os 9 .any (Rows.toiRestSpec.pre6 enc Try.prog Try.f9 Rows.toiRestRow.domain false) (Rows.toiRestSpec.post enc Try.prog Try.f9 false true false false) := by
  refine returnsInHanded_of_change (C := Try.checked) own started (by kernel_rfl) Try.func9
    (ChangeSpec.witness6 (enc := enc) (C := Try.checked) false ⟨#[], #[.slice none 0 0], []⟩ 8 (by kernel_rfl) (by kernel_rfl) (by kernel_rfl) (by kernel_rfl)) ?_
  intro W base args ds gs before hval0 hW hcnd _
  have hval : ∀ (j : Nat) t v, Try.f9.params[j]? = some t → args[j]? = some v → Value.okWide Try.prog W .any base t v := hval0
  have hW' := hW
  obtain ⟨p, q, hA0, hV, rfl, hfz, hnd⟩ := hW
  have hA : DataW.TrodAll enc Try.prog W 0 (fun _ => true) true Try.f9.params.toList args.toList ds p := hA0
  rw [Try.params9] at hA hval
  have hAk := hA
  obtain ⟨v0, vs0, d0, ds0, p0, q0, hargs, rfl, hp0, h0, r0⟩ := trodAll_cons hA
  obtain ⟨rfl, rfl, -⟩ := trodAll_nil r0
  obtain rfl : args = #[v0] := by cases args; simp_all
  obtain ⟨rfl, rfl⟩ := trodVars_none hV
  obtain ⟨x0, q0, c0, rfl⟩ := okWide_slice Try.underlying48 (hval 0 48 v0 rfl rfl)
  obtain ⟨fu0, fh0⟩ := h0
  obtain ⟨s0, Z0, l0, e0, H0⟩ := open_int_cells Try.underlying48 Try.underlying3 (by kernel_rfl) fh0
  simp only [Value.cells, List.cons.injEq, and_true] at e0
  obtain rfl := e0.symm
  clear hA0 hval0
  simp only [List.append_nil] at hW'
  refine (walk W _ Z0 l0 H0).mono fun e W' ⟨he, hb⟩ => ?_
  subst he
  exact ⟨_, rfl, kept_post (pa := p) hW' (fun _ _ _ => (trodAll_cons_mk (shut_bool Try.underlying4 _) trodAll_mk0)) (fun sp hsp => trodAll_stays laid hb (by rw [Try.params9]; decide +kernel) hAk (fun x hx => hW'.lt x hx) hsp) (fun _ => rfl) hb (ok_one (by kernel_rfl) rfl (okWide_bool_mk Try.underlying4 _))⟩

theorem over : Rows.toiRestRow.holds Try.pinned (OpenSpec.ofChange Rows.toiRestSpec) :=
  OpenClaim.holds_of_wide 9 Try.f9 rfl rfl rfl rfl rfl rfl rfl ⟨rfl, rfl, rfl, rfl, rfl⟩ rfl rfl rfl rfl rfl (by kernel_rfl) Try.func9 (by kernel_rfl)
    (of_decide_eq_true (by kernel_rfl)) (by unfold Func.isWrapper; first | (rw [if_pos (by decide +kernel)]; kernel_rfl) | (rw [if_neg (by decide +kernel)]; exact ⟨rfl, rfl⟩))
    (fun os started H enc _ => lifted os started H enc)

theorem proved : Rows.ToiRestSaid :=
  over
#print axioms proved
end Go.Proofs.Ytfbgghkkgmgnjaa.toiRest
