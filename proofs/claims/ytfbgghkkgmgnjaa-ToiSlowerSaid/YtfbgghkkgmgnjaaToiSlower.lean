/-
  package toi, P6.1, P6.2: for every two bodies made of numbers of which only the first one moves, with velocity components divisible by 16: if they first touch after k sub-steps, then at half the velocity they touch after at most 2k sub-steps, provided that 2k is at most 8; and the section's example holds; whatever the arguments are.
-/
import Derived.Test.YtfbgghkkgmgnjaaRows
import Derived.WalkKit
import Derived.ProofKit
import Derived.OpenShut
import Derived.Test.YtfbgghkkgmgnjaaOpen
import Derived.Test.YtfbgghkkgmgnjaaToiD
import Derived.Test.YtfbgghkkgmgnjaaToiE
namespace Go.Proofs.Ytfbgghkkgmgnjaa.toiSlower
open Go.ChangeShapes Go.WideShapes Go.ChangeAt Go.RowKit
set_option linter.unusedVariables false
set_option linter.unusedSimpArgs false

open Fxm
theorem div16 {v : Int} (h : Ve v) : ∃ a, v.tdiv 16 * 16 = 16 * a ∧ (v.tdiv 16 * 16).tdiv 2 = 8 * a ∧ Ve (16 * a) ∧ Ve (8 * a) := by
  refine ⟨v.tdiv 16, by omega, ?_, ?_, ?_⟩
  · rw [show v.tdiv 16 * 16 = 2 * (8 * v.tdiv 16) by omega]
    exact Int.mul_tdiv_cancel_left _ (by omega)
  · have := tdiv_bd v 16 16384 h.1 h.2
    have e := tparts v 16
    have l1 := tmod_lt_p v (d := 16) (by omega)
    have l2 := tmod_gt_p v (d := 16) (by omega)
    unfold Ve at *
    rcases Int.lt_or_le v 0 with hv | hv
    · have := tmod_np (n := v) 16 (by omega); omega
    · have := tmod_nn (n := v) 16 hv; omega
  · have := tdiv_bd v 16 16384 h.1 h.2
    have e := tparts v 16
    have l1 := tmod_lt_p v (d := 16) (by omega)
    have l2 := tmod_gt_p v (d := 16) (by omega)
    unfold Ve at *
    omega
theorem own : ownKnob Try.prog.godebug = none := by kernel_rfl
theorem laid : laidOutB Try.prog = true := by kernel_rfl

set_option maxRecDepth 100000 in
set_option maxHeartbeats 8000000 in
theorem walk (w : World) (s0 : Value) (Z0 : Nat → Int) (l0 : Nat) (H0 : IntsAt w s0 1 Z0 l0) :
    Calls Try.prog 12 #[s0] w fun e w' => e = .returned (.bool true) ∧ Below w.heap.size w w' := by
  have H0' := Lib.hid H0
  clear H0
  go_enter Try.func12, Try.ntmps12
  go_wp2_with fail
  refine (pair_any _ _ _ _ H0'.out).mono ?_
  rintro e u1 ⟨⟨s, t, p0, p1, v0, v1, q0, q1, y0, y1, ok, rfl, hs, ht⟩, hB⟩
  have hwA : w.heap.size ≤ u1.heap.size := hB.size
  go_upto_region 2 with fail
  have hA := (Below.heap_alloc (u1.alloc (bodyO s p0 p1 v0 v1)) (bodyO t q0 q1 y0 y1) u1.heap.size (by simp)).trans (World.alloc_heap_new u1 (bodyO s p0 p1 v0 v1))
  have hBo := World.alloc_heap_new (u1.alloc (bodyO s p0 p1 v0 v1)) (bodyO t q0 q1 y0 y1)
  rw [World.size_alloc] at hBo
  have hb2 := below_step (alloc_below u1 (bodyO s p0 p1 v0 v1)) (alloc_below _ (bodyO t q0 q1 y0 y1))
  obtain ⟨V, hV⟩ : ∃ V, V = (u1.alloc (bodyO s p0 p1 v0 v1)).alloc (bodyO t q0 q1 y0 y1) := ⟨_, rfl⟩
  rw [← hV] at hA hBo hb2
  rw [show (u1.alloc (.cells #[.int .i64 s.r, .slice s.a s.n s.cap, .int .i64 (p0), .int .i64 (p1), .int .i64 (v0), .int .i64 (v1)] 50)).alloc (.cells #[.int .i64 t.r, .slice t.a t.n t.cap, .int .i64 (q0), .int .i64 (q1), .int .i64 (y0), .int .i64 (y1)] 50) = V from hV.symm]
  replace hB := below_step hB hb2
  have hsh := Lib.hid (And.intro (hs.carry hb2) (ht.carry hb2))
  have op0 : Po p0 := by have := ok.p0; unfold Po; omega
  have op1 : Po p1 := by have := ok.p1; unfold Po; omega
  have oq0 : Po q0 := by have := ok.q0; unfold Po; omega
  have oq1 : Po q1 := by have := ok.q1; unfold Po; omega
  have ov0 := ok.v0
  have ov1 := ok.v1
  have oy0 := ok.u0
  have oy1 := ok.u1
  have hok := Lib.hid ok
  clear hV hb2 hs ht ok H0'
  generalize u1.heap.size = A at *
  have oz : Ve 0 := by unfold Ve; omega
  obtain ⟨a, ha1, ha2, ha3, ha4⟩ := div16 ov0
  obtain ⟨b, hb1', hb2', hb3, hb4⟩ := div16 ov1
  rw [ha1] at ha2
  rw [hb1'] at hb2'
  have hbd0 := tdiv_bd v0 16 16384 ov0.1 ov0.2
  have hbd1 := tdiv_bd v1 16 16384 ov1.1 ov1.2
  have hE := Lib.hid (fun w (h : Sh w s) (h' : Sh w t) => earliest6_any s t p0 p1 (16 * a) (16 * b) q0 q1 0 0 w h h' op0 op1 ha3 hb3 oq0 oq1 oz oz)
  have hG := Lib.hid (fun w (h : Sh w s) (h' : Sh w t) => earliest6_any s t p0 p1 (8 * a) (8 * b) q0 q1 0 0 w h h' op0 op1 ha4 hb4 oq0 oq1 oz oz)
  have hT := Lib.hid (fun w (h : Sh w s) (h' : Sh w t) => touch6_any s t p0 p1 (16 * a) (16 * b) q0 q1 0 0 0 w h h' (by omega) op0 op1 ha3 hb3 oq0 oq1 oz oz)
  have hS := Lib.hid (fun k : Int => tch_slow s t (p0, p1) (q0, q1) a b k)
  generalize tch s t (p0, p1) (16 * a, 16 * b) (q0, q1) (0, 0) = T at hE hT hS
  generalize tch s t (p0, p1) (8 * a, 8 * b) (q0, q1) (0, 0) = T' at hG hS
  have hee := Lib.hid (And.intro ha2 hb2')
  clear op0 op1 oq0 oq1 oy0 oy1 hok oz ha2 hb2'
  have hcc := body_cells hA
  have ff0 := body_frozen hA 4
  have ff1 := body_frozen hA 5
  obtain ⟨-, -, cc2, cc3, cc4, cc5⟩ := hcc
  go_upto_region 3 with fail
  replace hsh := Lib.hid (And.intro (set_sh hsh.out.1 hA 4 5 (.int .i64 (16 * a)) (.int .i64 (16 * b))) (set_sh hsh.out.2 hA 4 5 (.int .i64 (16 * a)) (.int .i64 (16 * b))))
  replace hBo := oset2 (A) 4 5 (.int .i64 (16 * a)) (.int .i64 (16 * b)) hBo (by omega)
  
  replace hA := body_vel hA (16 * a) (16 * b)
  replace hB := (hB.setCell (p := ⟨A, 4, none⟩) (by simp only; omega) (.int .i64 (16 * a))).setCell (p := ⟨A, 5, none⟩) (by simp only; omega) (.int .i64 (16 * b))
  clear cc2 cc3 cc4 cc5 ff0 ff1
  generalize (V.setCell ⟨A, 4, none⟩ (.int .i64 (16 * a))).setCell ⟨A, 5, none⟩ (.int .i64 (16 * b)) = V2 at *
  clear ha1 hb1' hbd0 hbd1
  have hcc := body_cells hBo
  have ff0 := body_frozen hBo 4
  have ff1 := body_frozen hBo 5
  obtain ⟨-, -, cc2, cc3, cc4, cc5⟩ := hcc
  go_upto_region 4 with fail
  replace hsh := Lib.hid (And.intro (set_sh hsh.out.1 hBo 4 5 (.int .i64 (0)) (.int .i64 (0))) (set_sh hsh.out.2 hBo 4 5 (.int .i64 (0)) (.int .i64 (0))))
  replace hA := oset2 (A + 1) 4 5 (.int .i64 (0)) (.int .i64 (0)) hA (by omega)
  
  replace hBo := body_vel hBo (0) (0)
  replace hB := (hB.setCell (p := ⟨A + 1, 4, none⟩) (by simp only; omega) (.int .i64 (0))).setCell (p := ⟨A + 1, 5, none⟩) (by simp only; omega) (.int .i64 (0))
  clear cc2 cc3 cc4 cc5 ff0 ff1
  generalize (V2.setCell ⟨A + 1, 4, none⟩ (.int .i64 (0))).setCell ⟨A + 1, 5, none⟩ (.int .i64 (0)) = V3 at *
  obtain ⟨a0, a1, a2, a3, a4, a5⟩ := body_cells hA
  obtain ⟨b0, b1, b2, b3, b4, b5⟩ := body_cells hBo
  go_wp2_with fail
  refine (hE.out _ hsh.out.1 hsh.out.2).mono ?_
  rintro e u2 ⟨⟨f, rfl, hf⟩, hb1⟩
  replace hA := hcarry (hb1) hA
  replace hBo := hcarry (hb1) hBo
  replace a0 := carry (hb1) a0
  replace a1 := carry (hb1) a1
  replace a2 := carry (hb1) a2
  replace a3 := carry (hb1) a3
  replace a4 := carry (hb1) a4
  replace a5 := carry (hb1) a5
  replace b0 := carry (hb1) b0
  replace b1 := carry (hb1) b1
  replace b2 := carry (hb1) b2
  replace b3 := carry (hb1) b3
  replace b4 := carry (hb1) b4
  replace b5 := carry (hb1) b5
  replace hB := below_step hB hb1
  replace hsh := Lib.hid (And.intro (hsh.out.1.carry hb1) (hsh.out.2.carry hb1))
  clear hb1
  have hAC : A + 1 < u2.heap.size := (Array.getElem?_eq_some_iff.1 hBo).1
  go_upto_region 6 with fail
  have hC := World.alloc_heap_new u2 (bodyO s p0 p1 (16 * a) (16 * b))
  have hb1 := alloc_below u2 (bodyO s p0 p1 (16 * a) (16 * b))
  obtain ⟨V4, hV4⟩ : ∃ V4, V4 = u2.alloc (bodyO s p0 p1 (16 * a) (16 * b)) := ⟨_, rfl⟩
  rw [← hV4] at hC hb1
  rw [show u2.alloc (.cells #[.int .i64 s.r, .slice s.a s.n s.cap, .int .i64 (p0), .int .i64 (p1), .int .i64 (16 * a), .int .i64 (16 * b)] 50) = V4 from hV4.symm]
  replace hA := hcarry (hb1) hA
  replace hBo := hcarry (hb1) hBo
  replace a0 := carry (hb1) a0
  replace a1 := carry (hb1) a1
  replace a2 := carry (hb1) a2
  replace a3 := carry (hb1) a3
  replace a4 := carry (hb1) a4
  replace a5 := carry (hb1) a5
  replace b0 := carry (hb1) b0
  replace b1 := carry (hb1) b1
  replace b2 := carry (hb1) b2
  replace b3 := carry (hb1) b3
  replace b4 := carry (hb1) b4
  replace b5 := carry (hb1) b5
  replace hB := below_step hB hb1
  replace hsh := Lib.hid (And.intro (hsh.out.1.carry hb1) (hsh.out.2.carry hb1))
  clear hb1
  clear hV4
  generalize u2.heap.size = C at *
  clear a0 a1 a2 a3 b0 b1 b2 b3 b4 b5
  have ha2 := hee.out.1
  have hb2' := hee.out.2
  unfold Ve at ha3 hb3 ha4 hb4
  replace hBo := oset2 C 4 5 (.int .i64 (8 * a)) (.int .i64 (8 * b)) hBo (by omega)
  have hcc := body_cells hC
  have ff0 := body_frozen hC 4
  have ff1 := body_frozen hC 5
  obtain ⟨-, -, cc2, cc3, cc4, cc5⟩ := hcc
  go_upto_region 7 with fail
  replace hsh := Lib.hid (And.intro (set_sh hsh.out.1 hC 4 5 (.int .i64 (8 * a)) (.int .i64 (8 * b))) (set_sh hsh.out.2 hC 4 5 (.int .i64 (8 * a)) (.int .i64 (8 * b))))
  replace hA := oset2 (C) 4 5 (.int .i64 (8 * a)) (.int .i64 (8 * b)) hA (by omega)
  
  replace hC := body_vel hC (8 * a) (8 * b)
  replace hB := (hB.setCell (p := ⟨C, 4, none⟩) (by simp only; omega) (.int .i64 (8 * a))).setCell (p := ⟨C, 5, none⟩) (by simp only; omega) (.int .i64 (8 * b))
  clear cc2 cc3 cc4 cc5 ff0 ff1
  generalize (V4.setCell ⟨C, 4, none⟩ (.int .i64 (8 * a))).setCell ⟨C, 5, none⟩ (.int .i64 (8 * b)) = V5 at *
  clear ha2 hb2' a4 a5
  obtain ⟨a0, a1, a2, a3, a4, a5⟩ := body_cells hA
  obtain ⟨b0, b1, b2, b3, b4, b5⟩ := body_cells hBo
  obtain ⟨c0, c1, c2, c3, c4, c5⟩ := body_cells hC
  go_wp2_with fail
  refine (hG.out _ hsh.out.1 hsh.out.2).mono ?_
  rintro e u3 ⟨⟨g, rfl, hg⟩, hb1⟩
  replace a0 := carry (hb1) a0
  replace a1 := carry (hb1) a1
  replace a2 := carry (hb1) a2
  replace a3 := carry (hb1) a3
  replace a4 := carry (hb1) a4
  replace a5 := carry (hb1) a5
  replace b0 := carry (hb1) b0
  replace b1 := carry (hb1) b1
  replace b2 := carry (hb1) b2
  replace b3 := carry (hb1) b3
  replace b4 := carry (hb1) b4
  replace b5 := carry (hb1) b5
  replace hB := below_step hB hb1
  replace hsh := Lib.hid (And.intro (hsh.out.1.carry hb1) (hsh.out.2.carry hb1))
  clear hb1
  clear c0 c1 c2 c3 c4 c5
  have hsl := hf.slower hg hS.out
  clear hf hg
  go_wp2_with fail
  refine (hT.out _ hsh.out.1 hsh.out.2).mono ?_
  rintro e u4 ⟨rfl, hb1⟩
  replace a0 := carry (hb1) a0
  replace a1 := carry (hb1) a1
  replace a2 := carry (hb1) a2
  replace a3 := carry (hb1) a3
  replace a4 := carry (hb1) a4
  replace a5 := carry (hb1) a5
  replace b0 := carry (hb1) b0
  replace b1 := carry (hb1) b1
  replace b2 := carry (hb1) b2
  replace b3 := carry (hb1) b3
  replace b4 := carry (hb1) b4
  replace b5 := carry (hb1) b5
  replace hB := below_step hB hb1
  replace hsh := Lib.hid (And.intro (hsh.out.1.carry hb1) (hsh.out.2.carry hb1))
  clear hb1
  cases hT0 : T 0 with
  | true =>
    go_wp2_with fail
    refine (lives6_any _).mono ?_
    rintro e u5 ⟨rfl, hb2⟩
    go_wp2
    go_ret
    exact ⟨rfl, below_step hB hb2⟩
  | false =>
    rcases hsl with h | rfl | ⟨k, n, k1, k2, n1, n2, hfk, hgn, hor⟩
    · rw [hT0] at h; cases h
    · go_wp2_with fail
      refine (lives6_any _).mono ?_
      rintro e u5 ⟨rfl, hb2⟩
      go_wp2
      go_ret
      exact ⟨rfl, below_step hB hb2⟩
    · have hne : f ≠ 1024 := by omega
      have e1 : (f == 1024) = false := by simp only [beq_eq_false_iff_ne, ne_eq]; exact hne
      have e2 : decide (f = 1024) = false := decide_eq_false hne
      have f0 : 0 ≤ f := by omega
      have f1 : f ≤ 1024 := by omega
      have g0 : 0 ≤ g := by omega
      have g1 : g ≤ 1024 := by omega
      have fk : f * 8 / 1024 + 1 = (k : Int) := by omega
      have gk : g * 8 / 1024 + 1 = (n : Int) := by omega
      have hgn' := Lib.hid hgn
      have hfgk := Lib.hid (And.intro fk gk)
      clear fk gk hfk hgn hT0 hne
      go_upto_region 12 with fail
      rw [hfgk.out.1, hfgk.out.2]
      clear e1 e2 f0 f1
      rcases hor with ⟨rfl, h8⟩ | ⟨h9, hnk⟩
      · have e1 : (g == 1024) = true := by rw [hgn'.out]; rfl
        have e2 : decide (g = 1024) = true := decide_eq_true (by rw [hgn'.out]; rfl)
        have e3 : (8 : Int) < 2 * (k : Int) := by omega
        go_wp2_with fail
        refine (lives6_any _).mono ?_
        rintro e u5 ⟨rfl, hb2⟩
        go_wp2
        go_ret
        exact ⟨rfl, below_step hB hb2⟩
      · have hne : g ≠ 1024 := by have := hgn'.out; omega
        have e1 : (g == 1024) = false := by simp only [beq_eq_false_iff_ne, ne_eq]; exact hne
        have e2 : decide (g = 1024) = false := decide_eq_false hne
        have e3 : (n : Int) ≤ 2 * (k : Int) := by omega
        clear hne
        go_wp2_with fail
        refine (lives6_any _).mono ?_
        rintro e u5 ⟨rfl, hb2⟩
        go_wp2
        go_ret
        exact ⟨rfl, below_step hB hb2⟩

set_option maxRecDepth 100000 in
theorem lifted (os : Os) (started : os.Started) (H : Type) (enc : TypeId × Value → H) :
    ReturnsInHanded {} Try.checked os 12 .any (Rows.toiSlowerSpec.pre6 enc Try.prog Try.f12 Rows.toiSlowerRow.domain false) (Rows.toiSlowerSpec.post enc Try.prog Try.f12 false true false false) := by
  refine returnsInHanded_of_change (C := Try.checked) own started (by kernel_rfl) Try.func12
    (ChangeSpec.witness6 (enc := enc) (C := Try.checked) false ⟨#[], #[.slice none 0 0], []⟩ 8 (by kernel_rfl) (by kernel_rfl) (by kernel_rfl) (by kernel_rfl)) ?_
  intro W base args ds gs before hval0 hW hcnd _
  have hval : ∀ (j : Nat) t v, Try.f12.params[j]? = some t → args[j]? = some v → Value.okWide Try.prog W .any base t v := hval0
  have hW' := hW
  obtain ⟨p, q, hA0, hV, rfl, hfz, hnd⟩ := hW
  have hA : DataW.TrodAll enc Try.prog W 0 (fun _ => true) true Try.f12.params.toList args.toList ds p := hA0
  rw [Try.params12] at hA hval
  have hAk := hA
  obtain ⟨v0, vs0, d0, ds0, p0, q0, hargs, rfl, hp0, h0, r0⟩ := trodAll_cons hA
  obtain ⟨rfl, rfl, -⟩ := trodAll_nil r0
  obtain rfl : args = #[v0] := by cases args; simp_all
  obtain ⟨rfl, rfl⟩ := trodVars_none hV
  obtain ⟨x0, q0, c0, rfl⟩ := okWide_slice Try.underlying48 (hval 0 48 v0 rfl rfl)
  obtain ⟨fu0, fh0⟩ := h0
  obtain ⟨s0, Z0, l0, e0, H0⟩ := open_int_cells Try.underlying48 Try.underlying3 (by kernel_rfl) fh0
  simp only [Value.cells, List.cons.injEq, and_true] at e0
  obtain rfl := e0.symm
  clear hA0 hval0
  simp only [List.append_nil] at hW'
  refine (walk W _ Z0 l0 H0).mono fun e W' ⟨he, hb⟩ => ?_
  subst he
  exact ⟨_, rfl, kept_post (pa := p) hW' (fun _ _ _ => (trodAll_cons_mk (shut_bool Try.underlying4 _) trodAll_mk0)) (fun sp hsp => trodAll_stays laid hb (by rw [Try.params12]; decide +kernel) hAk (fun x hx => hW'.lt x hx) hsp) (fun _ => rfl) hb (ok_one (by kernel_rfl) rfl (okWide_bool_mk Try.underlying4 _))⟩

theorem over : Rows.toiSlowerRow.holds Try.pinned (OpenSpec.ofChange Rows.toiSlowerSpec) :=
  OpenClaim.holds_of_wide 12 Try.f12 rfl rfl rfl rfl rfl rfl rfl ⟨rfl, rfl, rfl, rfl, rfl⟩ rfl rfl rfl rfl rfl (by kernel_rfl) Try.func12 (by kernel_rfl)
    (of_decide_eq_true (by kernel_rfl)) (by unfold Func.isWrapper; first | (rw [if_pos (by decide +kernel)]; kernel_rfl) | (rw [if_neg (by decide +kernel)]; exact ⟨rfl, rfl⟩))
    (fun os started H enc _ => lifted os started H enc)

theorem proved : Rows.ToiSlowerSaid :=
  over
#print axioms proved
end Go.Proofs.Ytfbgghkkgmgnjaa.toiSlower
