/-
  package toi, P6.4: for every two bodies made of numbers, moving both by the same multiples of One does not change the result; and the section's example holds; whatever the arguments are.
-/
import Derived.Test.YtfbgghkkgmgnjaaRows
import Derived.WalkKit
import Derived.ProofKit
import Derived.OpenShut
import Derived.Test.YtfbgghkkgmgnjaaOpen
import Derived.Test.YtfbgghkkgmgnjaaToiD
import Derived.Test.YtfbgghkkgmgnjaaToiE
import Derived.Deep.DeepCutAuto
import Derived.Deep.CutBlock
import Derived.WalkLawsBesides
namespace Go.Proofs.Ytfbgghkkgmgnjaa.toiShift
open Go.ChangeShapes Go.WideShapes Go.ChangeAt Go.RowKit
set_option linter.unusedVariables false
set_option linter.unusedSimpArgs false

open Fxm
def mx (x y : Int) : Int := if y > x then y else x
theorem max4_run (P : Program) (a b c d : Int) (ats : Array TypeId) (ty : TypeId) (w : World) : Sem.run P (Builtin.max_ ats ty #[.int .i64 a, .int .i64 b, .int .i64 c, .int .i64 d]) w = .ok (.int .i64 (mx (mx (mx a b) c) d)) w := by
  simp [Builtin.max_, Builtin.max2, go_sem, mx]
theorem own : ownKnob Try.prog.godebug = none := by kernel_rfl
theorem laid : laidOutB Try.prog = true := by kernel_rfl

set_option maxRecDepth 100000 in
set_option maxHeartbeats 8000000 in
theorem walk (w : World) (s0 : Value) (Z0 : Nat → Int) (l0 : Nat) (H0 : IntsAt w s0 1 Z0 l0) (a1 : Int) (w1 : (Lit.int .i64 a1).wf = true) (a2 : Int) (w2 : (Lit.int .i64 a2).wf = true) :
    Calls Try.prog 11 #[s0, .int .i64 a1, .int .i64 a2] w fun e w' => e = .returned (.bool true) ∧ Below w.heap.size w w' := by
  obtain ⟨i1, i2⟩ := wf64 w1
  obtain ⟨k1, k2⟩ := wf64 w2
  have kb1 := Lib.hid (fun W => boundx_any a1 200 W i1 i2 (by omega) (by omega))
  have kb2 := Lib.hid (fun W => boundx_any a2 200 W k1 k2 (by omega) (by omega))
  clear i1 i2 k1 k2
  have H0' := Lib.hid H0
  clear H0
  go_enter Try.func11, Try.ntmps11
  go_wp2_with fail
  refine (pair_any _ _ _ _ H0'.out).mono ?_
  rintro e u1 ⟨⟨s, t, p0, p1, v0, v1, q0, q1, y0, y1, ok, rfl, hs, ht⟩, hB⟩
  have hwA : w.heap.size ≤ u1.heap.size := hB.size
  go_upto_region 2 with fail
  have hA := (Below.heap_alloc (u1.alloc (bodyO s p0 p1 v0 v1)) (bodyO t q0 q1 y0 y1) u1.heap.size (by simp)).trans (World.alloc_heap_new u1 (bodyO s p0 p1 v0 v1))
  have hBo := World.alloc_heap_new (u1.alloc (bodyO s p0 p1 v0 v1)) (bodyO t q0 q1 y0 y1)
  rw [World.size_alloc] at hBo
  have hb2 := below_step (alloc_below u1 (bodyO s p0 p1 v0 v1)) (alloc_below _ (bodyO t q0 q1 y0 y1))
  obtain ⟨V, hV⟩ : ∃ V, V = (u1.alloc (bodyO s p0 p1 v0 v1)).alloc (bodyO t q0 q1 y0 y1) := ⟨_, rfl⟩
  rw [← hV] at hA hBo hb2
  rw [show (u1.alloc (.cells #[.int .i64 s.r, .slice s.a s.n s.cap, .int .i64 (p0), .int .i64 (p1), .int .i64 (v0), .int .i64 (v1)] 50)).alloc (.cells #[.int .i64 t.r, .slice t.a t.n t.cap, .int .i64 (q0), .int .i64 (q1), .int .i64 (y0), .int .i64 (y1)] 50) = V from hV.symm]
  replace hB := below_step hB hb2
  have hsh := Lib.hid (And.intro (hs.carry hb2) (ht.carry hb2))
  have op0 : Po p0 := by have := ok.p0; unfold Po; omega
  have op1 : Po p1 := by have := ok.p1; unfold Po; omega
  have oq0 : Po q0 := by have := ok.q0; unfold Po; omega
  have oq1 : Po q1 := by have := ok.q1; unfold Po; omega
  have ov0 := ok.v0
  have ov1 := ok.v1
  have oy0 := ok.u0
  have oy1 := ok.u1
  have hok := Lib.hid ok
  clear hV hb2 hs ht ok H0'
  generalize u1.heap.size = A at *
  have hE := Lib.hid (fun w (h : Sh w s) (h' : Sh w t) => earliest6_any s t p0 p1 v0 v1 q0 q1 y0 y1 w h h' op0 op1 ov0 ov1 oq0 oq1 oy0 oy1)
  obtain ⟨a0, a1, a2, a3, a4, a5⟩ := body_cells hA
  obtain ⟨b0, b1, b2, b3, b4, b5⟩ := body_cells hBo
  go_wp2_with fail
  refine (hE.out _ hsh.out.1 hsh.out.2).mono ?_
  rintro e u2 ⟨⟨f, rfl, hf⟩, hb1⟩
  replace hA := hcarry (hb1) hA
  replace hBo := hcarry (hb1) hBo
  replace a0 := carry (hb1) a0
  replace a1 := carry (hb1) a1
  replace a2 := carry (hb1) a2
  replace a3 := carry (hb1) a3
  replace a4 := carry (hb1) a4
  replace a5 := carry (hb1) a5
  replace b0 := carry (hb1) b0
  replace b1 := carry (hb1) b1
  replace b2 := carry (hb1) b2
  replace b3 := carry (hb1) b3
  replace b4 := carry (hb1) b4
  replace b5 := carry (hb1) b5
  replace hB := below_step hB hb1
  replace hsh := Lib.hid (And.intro (hsh.out.1.carry hb1) (hsh.out.2.carry hb1))
  clear hb1
  clear hE
  go_wp2_with fail
  refine (kb1.out _).mono ?_
  rintro e _ ⟨⟨i, hi1, hi2, rfl⟩, rfl⟩
  go_wp2_with fail
  refine (kb2.out _).mono ?_
  rintro e _ ⟨⟨k, hk1, hk2, rfl⟩, rfl⟩
  go_upto_region 4 with fail
  have d0 := World.cell?_alloc_new (w := u2) #[.int .i64 (i * 1024), .int .i64 (k * 1024)] 28 0
  have d1 := World.cell?_alloc_new (w := u2) #[.int .i64 (i * 1024), .int .i64 (k * 1024)] 28 1
  simp only [List.getElem?_toArray, List.getElem?_cons_zero, List.getElem?_cons_succ] at d0 d1
  have hb1 := alloc_below u2 (.cells #[.int .i64 (i * 1024), .int .i64 (k * 1024)] 28)
  generalize u2.alloc (.cells #[.int .i64 (i * 1024), .int .i64 (k * 1024)] 28) = V2 at *
  have hAD : A + 1 < u2.heap.size := (Array.getElem?_eq_some_iff.1 hBo).1
  replace hA := hcarry (hb1) hA
  replace hBo := hcarry (hb1) hBo
  replace a0 := carry (hb1) a0
  replace a1 := carry (hb1) a1
  replace a2 := carry (hb1) a2
  replace a3 := carry (hb1) a3
  replace a4 := carry (hb1) a4
  replace a5 := carry (hb1) a5
  replace b0 := carry (hb1) b0
  replace b1 := carry (hb1) b1
  replace b2 := carry (hb1) b2
  replace b3 := carry (hb1) b3
  replace b4 := carry (hb1) b4
  replace b5 := carry (hb1) b5
  replace hB := below_step hB hb1
  replace hsh := Lib.hid (And.intro (hsh.out.1.carry hb1) (hsh.out.2.carry hb1))
  clear hb1
  generalize u2.heap.size = D at *
  have hT := tch_shift s t p0 p1 q0 q1 i k (v0, v1) (y0, y1)
  have zp0 : Po (p0 + i * 1024) := by have := hok.out.p0; unfold Po; omega
  have zp1 : Po (p1 + k * 1024) := by have := hok.out.p1; unfold Po; omega
  have zq0 : Po (q0 + i * 1024) := by have := hok.out.q0; unfold Po; omega
  have zq1 : Po (q1 + k * 1024) := by have := hok.out.q1; unfold Po; omega
  have zd0 : Bd (i * 1024) := by unfold Bd; omega
  have zd1 : Bd (k * 1024) := by unfold Bd; omega
  have K1 := fun w => add_any p0 p1 (i * 1024) (k * 1024) w op0.bd op1.bd zd0 zd1
  have K2 := fun w => add_any q0 q1 (i * 1024) (k * 1024) w oq0.bd oq1.bd zd0 zd1
  have K3 := fun w (h : Sh w s) (h' : Sh w t) => earliest6_any s t (p0 + i * 1024) (p1 + k * 1024) v0 v1 (q0 + i * 1024) (q1 + k * 1024) y0 y1 w h h' zp0 zp1 ov0 ov1 zq0 zq1 oy0 oy1
  rw [hT] at K3
  generalize i * 1024 = di at *
  generalize k * 1024 = dk at *
  generalize p0 + di = r0 at *
  generalize p1 + dk = r1 at *
  generalize q0 + di = m0 at *
  generalize q1 + dk = m1 at *
  have ka0 := fun w => refAbs_any r0 w (by unfold Po at *; omega) (by unfold Po at *; omega)
  have ka1 := fun w => refAbs_any r1 w (by unfold Po at *; omega) (by unfold Po at *; omega)
  have ka2 := fun w => refAbs_any m0 w (by unfold Po at *; omega) (by unfold Po at *; omega)
  have ka3 := fun w => refAbs_any m1 w (by unfold Po at *; omega) (by unfold Po at *; omega)
  generalize absV r0 = g0 at *
  generalize absV r1 = g1 at *
  generalize absV m0 = g2 at *
  generalize absV m1 = g3 at *
  have hk := Lib.hid (And.intro K1 (And.intro K2 K3))
  have hab := Lib.hid (And.intro ka0 (And.intro ka1 (And.intro ka2 ka3)))
  have hf' := Lib.hid hf
  clear K1 K2 K3 ka0 ka1 ka2 ka3 hT zd0 zd1 op0 op1 oq0 oq1 hf hok hi1 hi2 hk1 hk2 zp0 zp1 zq0 zq1
  go_wp2_with fail
  refine (hk.out.1 _).mono ?_
  rintro e u3 ⟨rfl, hb1⟩
  replace d0 := carry (hb1) d0
  replace d1 := carry (hb1) d1
  replace hA := hcarry (hb1) hA
  replace hBo := hcarry (hb1) hBo
  replace a0 := carry (hb1) a0
  replace a1 := carry (hb1) a1
  replace a2 := carry (hb1) a2
  replace a3 := carry (hb1) a3
  replace a4 := carry (hb1) a4
  replace a5 := carry (hb1) a5
  replace b0 := carry (hb1) b0
  replace b1 := carry (hb1) b1
  replace b2 := carry (hb1) b2
  replace b3 := carry (hb1) b3
  replace b4 := carry (hb1) b4
  replace b5 := carry (hb1) b5
  replace hB := below_step hB hb1
  replace hsh := Lib.hid (And.intro (hsh.out.1.carry hb1) (hsh.out.2.carry hb1))
  clear hb1
  clear a0 a1 a2 a3 a4 a5 b0 b1 b2 b3 b4 b5
  have hcc := body_cells hA
  have ff0 := body_frozen hA 2
  have ff1 := body_frozen hA 3
  obtain ⟨-, -, cc2, cc3, cc4, cc5⟩ := hcc
  go_upto_region 5 with fail
  replace hsh := Lib.hid (And.intro (set_sh hsh.out.1 hA 2 3 (.int .i64 (r0)) (.int .i64 (r1))) (set_sh hsh.out.2 hA 2 3 (.int .i64 (r0)) (.int .i64 (r1))))
  replace hBo := oset2 (A) 2 3 (.int .i64 (r0)) (.int .i64 (r1)) hBo (by omega)
  replace d0 := cset2 (A) 2 3 (.int .i64 (r0)) (.int .i64 (r1)) d0 (by simp only; omega)
  replace d1 := cset2 (A) 2 3 (.int .i64 (r0)) (.int .i64 (r1)) d1 (by simp only; omega)
  replace hA := body_pos hA (r0) (r1)
  replace hB := (hB.setCell (p := ⟨A, 2, none⟩) (by simp only; omega) (.int .i64 (r0))).setCell (p := ⟨A, 3, none⟩) (by simp only; omega) (.int .i64 (r1))
  clear cc2 cc3 cc4 cc5 ff0 ff1
  generalize (u3.setCell ⟨A, 2, none⟩ (.int .i64 (r0))).setCell ⟨A, 3, none⟩ (.int .i64 (r1)) = V3 at *
  obtain ⟨a0, a1, a2, a3, a4, a5⟩ := body_cells hA
  obtain ⟨b0, b1, b2, b3, b4, b5⟩ := body_cells hBo
  go_wp2_with fail
  refine (hk.out.2.1 _).mono ?_
  rintro e u4 ⟨rfl, hb1⟩
  replace d0 := carry (hb1) d0
  replace d1 := carry (hb1) d1
  replace hA := hcarry (hb1) hA
  replace hBo := hcarry (hb1) hBo
  replace a0 := carry (hb1) a0
  replace a1 := carry (hb1) a1
  replace a2 := carry (hb1) a2
  replace a3 := carry (hb1) a3
  replace a4 := carry (hb1) a4
  replace a5 := carry (hb1) a5
  replace b0 := carry (hb1) b0
  replace b1 := carry (hb1) b1
  replace b2 := carry (hb1) b2
  replace b3 := carry (hb1) b3
  replace b4 := carry (hb1) b4
  replace b5 := carry (hb1) b5
  replace hB := below_step hB hb1
  replace hsh := Lib.hid (And.intro (hsh.out.1.carry hb1) (hsh.out.2.carry hb1))
  clear hb1
  clear a0 a1 a2 a3 a4 a5 b0 b1 b2 b3 b4 b5
  have hcc := body_cells hBo
  have ff0 := body_frozen hBo 2
  have ff1 := body_frozen hBo 3
  obtain ⟨-, -, cc2, cc3, cc4, cc5⟩ := hcc
  go_upto_region 6 with fail
  replace hsh := Lib.hid (And.intro (set_sh hsh.out.1 hBo 2 3 (.int .i64 (m0)) (.int .i64 (m1))) (set_sh hsh.out.2 hBo 2 3 (.int .i64 (m0)) (.int .i64 (m1))))
  replace hA := oset2 (A + 1) 2 3 (.int .i64 (m0)) (.int .i64 (m1)) hA (by omega)
  replace d0 := cset2 (A + 1) 2 3 (.int .i64 (m0)) (.int .i64 (m1)) d0 (by simp only; omega)
  replace d1 := cset2 (A + 1) 2 3 (.int .i64 (m0)) (.int .i64 (m1)) d1 (by simp only; omega)
  replace hBo := body_pos hBo (m0) (m1)
  replace hB := (hB.setCell (p := ⟨A + 1, 2, none⟩) (by simp only; omega) (.int .i64 (m0))).setCell (p := ⟨A + 1, 3, none⟩) (by simp only; omega) (.int .i64 (m1))
  clear cc2 cc3 cc4 cc5 ff0 ff1
  generalize (u4.setCell ⟨A + 1, 2, none⟩ (.int .i64 (m0))).setCell ⟨A + 1, 3, none⟩ (.int .i64 (m1)) = V4 at *
  obtain ⟨a0, a1, a2, a3, a4, a5⟩ := body_cells hA
  obtain ⟨b0, b1, b2, b3, b4, b5⟩ := body_cells hBo
  clear d0 d1
  go_cut [53] (fun v W => (∃ b : Bool, v = .bool b) ∧ Below V4.heap.size V4 W)
  case first =>
    have hm4 := fun w => max4_run Try.prog g0 g1 g2 g3 #[3, 3, 3, 3] 3 w
    generalize mx (mx (mx g0 g1) g2) g3 = M at hm4
    refine wp_region_made (by kernel_rfl) (by kernel_rfl) ?_
    intro W hK
    have g_a2 := fun x => carry ((hK.below x)) a2
    have g_a3 := fun x => carry ((hK.below x)) a3
    have g_b2 := fun x => carry ((hK.below x)) b2
    have g_b3 := fun x => carry ((hK.below x)) b3
    repeat (go_big_quiet_step ((first | (go_at_call 34; with_reducible exact met_same (hab.out.1 _)) | (go_at_call 34; with_reducible exact met_same (hab.out.2.1 _)) | (go_at_call 34; with_reducible exact met_same (hab.out.2.2.1 _)) | (go_at_call 34; with_reducible exact met_same (hab.out.2.2.2 _)))))
    refine wpQuiet_nil ?_
    intro wq hw'
    have hbq := kept_in hK hw'
    clear g_a2 g_a3 g_b2 g_b3
    clear hw' hK W
    replace a2 := carry (hbq) a2
    replace a3 := carry (hbq) a3
    replace b2 := carry (hbq) b2
    replace b3 := carry (hbq) b3
    go_wp2_with fail
    go_meet
    exact ⟨⟨_, rfl⟩, hbq⟩
  obtain ⟨⟨bb, rfl⟩, hb1⟩ := hcut
  replace a0 := carry (hb1) a0
  replace a1 := carry (hb1) a1
  replace a2 := carry (hb1) a2
  replace a3 := carry (hb1) a3
  replace a4 := carry (hb1) a4
  replace a5 := carry (hb1) a5
  replace b0 := carry (hb1) b0
  replace b1 := carry (hb1) b1
  replace b2 := carry (hb1) b2
  replace b3 := carry (hb1) b3
  replace b4 := carry (hb1) b4
  replace b5 := carry (hb1) b5
  replace hB := below_step hB hb1
  replace hsh := Lib.hid (And.intro (hsh.out.1.carry hb1) (hsh.out.2.carry hb1))
  clear hb1
  cases bb with
  | true =>
    go_wp2_with fail
    refine (lives6_any _).mono ?_
    rintro e u5 ⟨rfl, hb2⟩
    go_wp2
    go_ret
    exact ⟨rfl, below_step hB hb2⟩
  | false =>
    go_wp2_with fail
    refine (hk.out.2.2 _ hsh.out.1 hsh.out.2).mono ?_
    rintro e u5 ⟨⟨g, rfl, hg⟩, hb1⟩
    obtain rfl : g = f := hg.unique hf'.out
    replace a0 := carry (hb1) a0
    replace a1 := carry (hb1) a1
    replace a2 := carry (hb1) a2
    replace a3 := carry (hb1) a3
    replace a4 := carry (hb1) a4
    replace a5 := carry (hb1) a5
    replace b0 := carry (hb1) b0
    replace b1 := carry (hb1) b1
    replace b2 := carry (hb1) b2
    replace b3 := carry (hb1) b3
    replace b4 := carry (hb1) b4
    replace b5 := carry (hb1) b5
    replace hB := below_step hB hb1
    replace hsh := Lib.hid (And.intro (hsh.out.1.carry hb1) (hsh.out.2.carry hb1))
    clear hb1
    go_wp2_with fail
    refine (lives6_any _).mono ?_
    rintro e u6 ⟨rfl, hb2⟩
    go_wp2
    go_ret
    exact ⟨rfl, below_step hB hb2⟩

set_option maxRecDepth 100000 in
theorem lifted (os : Os) (started : os.Started) (H : Type) (enc : TypeId × Value → H) :
    ReturnsInHanded {} Try.checked os 11 .any (Rows.toiShiftSpec.pre6 enc Try.prog Try.f11 Rows.toiShiftRow.domain false) (Rows.toiShiftSpec.post enc Try.prog Try.f11 false true false false) := by
  refine returnsInHanded_of_change (C := Try.checked) own started (by kernel_rfl) Try.func11
    (ChangeSpec.witness6 (enc := enc) (C := Try.checked) false ⟨#[], #[.slice none 0 0, .int .i64 0, .int .i64 0], []⟩ 8 (by kernel_rfl) (by kernel_rfl) (by kernel_rfl) (by kernel_rfl)) ?_
  intro W base args ds gs before hval0 hW hcnd _
  have hval : ∀ (j : Nat) t v, Try.f11.params[j]? = some t → args[j]? = some v → Value.okWide Try.prog W .any base t v := hval0
  have hW' := hW
  obtain ⟨p, q, hA0, hV, rfl, hfz, hnd⟩ := hW
  have hA : DataW.TrodAll enc Try.prog W 0 (fun _ => true) true Try.f11.params.toList args.toList ds p := hA0
  rw [Try.params11] at hA hval
  have hAk := hA
  obtain ⟨v0, vs0, d0, ds0, p0, q0, hargs, rfl, hp0, h0, r0⟩ := trodAll_cons hA
  obtain ⟨v1, vs1, d1, ds1, p1, q1, rfl, rfl, hp1, h1, r1⟩ := trodAll_cons r0
  obtain ⟨v2, vs2, d2, ds2, p2, q2, rfl, rfl, hp2, h2, r2⟩ := trodAll_cons r1
  obtain ⟨rfl, rfl, -⟩ := trodAll_nil r2
  obtain rfl : args = #[v0, v1, v2] := by cases args; simp_all
  obtain ⟨rfl, rfl⟩ := trodVars_none hV
  obtain ⟨x0, q0, c0, rfl⟩ := okWide_slice Try.underlying48 (hval 0 48 v0 rfl rfl)
  obtain ⟨fu0, fh0⟩ := h0
  obtain ⟨s0, Z0, l0, e0, H0⟩ := open_int_cells Try.underlying48 Try.underlying3 (by kernel_rfl) fh0
  simp only [Value.cells, List.cons.injEq, and_true] at e0
  obtain rfl := e0.symm
  obtain ⟨a1, rfl, -, -, w1⟩ := open_int Try.underlying3 (hval 1 3 v1 rfl rfl) h1
  obtain ⟨a2, rfl, -, -, w2⟩ := open_int Try.underlying3 (hval 2 3 v2 rfl rfl) h2
  clear hA0 hval0
  simp only [List.append_nil] at hW'
  refine (walk W _ Z0 l0 H0 a1 w1 a2 w2).mono fun e W' ⟨he, hb⟩ => ?_
  subst he
  exact ⟨_, rfl, kept_post (pa := p) hW' (fun _ _ _ => (trodAll_cons_mk (shut_bool Try.underlying4 _) trodAll_mk0)) (fun sp hsp => trodAll_stays laid hb (by rw [Try.params11]; decide +kernel) hAk (fun x hx => hW'.lt x hx) hsp) (fun _ => rfl) hb (ok_one (by kernel_rfl) rfl (okWide_bool_mk Try.underlying4 _))⟩

theorem over : Rows.toiShiftRow.holds Try.pinned (OpenSpec.ofChange Rows.toiShiftSpec) :=
  OpenClaim.holds_of_wide 11 Try.f11 rfl rfl rfl rfl rfl rfl rfl ⟨rfl, rfl, rfl, rfl, rfl⟩ rfl rfl rfl rfl rfl (by kernel_rfl) Try.func11 (by kernel_rfl)
    (of_decide_eq_true (by kernel_rfl)) (by unfold Func.isWrapper; first | (rw [if_pos (by decide +kernel)]; kernel_rfl) | (rw [if_neg (by decide +kernel)]; exact ⟨rfl, rfl⟩))
    (fun os started H enc _ => lifted os started H enc)

theorem proved : Rows.ToiShiftSaid :=
  over
#print axioms proved
end Go.Proofs.Ytfbgghkkgmgnjaa.toiShift
