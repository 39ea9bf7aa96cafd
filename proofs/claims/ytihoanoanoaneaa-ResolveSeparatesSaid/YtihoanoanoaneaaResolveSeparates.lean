/-
  package resolve, P7.3: for a normal along an axis and two bodies of equal inverse mass other than 0, made of numbers, the distance along the normal grows by the depth, or by one less if the depth is odd; and the section's example holds; whatever the arguments are.
-/
import Derived.Test.YtihoanoanoaneaaRows
import Derived.WalkKit
import Derived.ProofKit
import Derived.OpenShut
import Derived.Test.YtihoanoanoaneaaOpen
import Derived.Test.YtihoanoanoaneaaResI
import Derived.Test.YtihoanoanoaneaaResL
import Derived.Deep.QuietTactic
namespace Go.Proofs.Ytihoanoanoaneaa.resolveSeparates
open Go.ChangeShapes Go.WideShapes Go.ChangeAt Go.RowKit
set_option linter.unusedVariables false
set_option linter.unusedSimpArgs false

open Fxm
theorem own : ownKnob Try.prog.godebug = none := by kernel_rfl
theorem laid : laidOutB Try.prog = true := by kernel_rfl

set_option maxRecDepth 100000 in
set_option maxHeartbeats 8000000 in
theorem walk (w : World) (s0 : Value) (Z0 : Nat → Int) (l0 : Nat) (H0 : IntsAt w s0 1 Z0 l0) (s1 : Value) (Z1 : Nat → Int) (l1 : Nat) (H1 : IntsAt w s1 1 Z1 l1) (a2 : Int) (w2 : (Lit.int .i64 a2).wf = true) (a3 : Int) (w3 : (Lit.int .i64 a3).wf = true) :
    Calls Try.prog 8 #[s0, s1, .int .i64 a2, .int .i64 a3] w fun e w' => e = .returned (.bool true) ∧ Below w.heap.size w w' := by
  obtain ⟨b1, b2⟩ := wf64' w3
  have ke := Lib.hid (fun W => aroundx_any a3 131073 W b1 b2 (by omega))
  obtain ⟨b3, b4⟩ := wf64' w2
  have kx := Lib.hid (fun W => axis_any a2 W b3 b4)
  have I0 := Lib.hid H0
  have I1 := Lib.hid H1
  clear H0 H1 b1 b2 b3 b4
  have hB := Lib.hid (Below.refl w.heap.size w)
  go_enter Try.func8, Try.ntmps8
  go_wp2_with fail
  refine (slow_any _ _ _ _ I0.out).mono ?_
  rintro e u1 ⟨⟨x, hx, rfl⟩, hb⟩
  have hx' := Lib.hid hx
  clear hx I0
  skip
  skip
  replace I1 := Lib.hid (I1.out.carry (hb))
  replace hB := Lib.hid (below_step hB.out hb)
  clear hb
  go_upto_region 2 with fail
  have hwA := Lib.hid hB.out.size
  have hn := new_at u1 (motO 26 x)
  have hbn := alloc_below u1 (motO 26 x)
  obtain ⟨V1, hV⟩ : ∃ V, V = u1.alloc (motO 26 x) := ⟨_, rfl⟩
  rw [← hV] at hn hbn
  rw [show u1.alloc (.cells #[.int .i64 x.p0, .int .i64 x.p1, .int .i64 x.v0, .int .i64 x.v1, .int .i64 x.m] 26) = V1 from hV.symm]
  have gA := Lib.hid hn
  clear hn hV
  skip
  skip
  replace I1 := Lib.hid (I1.out.carry (hbn))
  replace hB := Lib.hid (below_step hB.out hbn)
  clear hbn
  generalize u1.heap.size = A at *
  go_wp2_with fail
  refine (slow_any _ _ _ _ I1.out).mono ?_
  rintro e u2 ⟨⟨y, hy, rfl⟩, hb⟩
  have hy' := Lib.hid hy
  clear hy I1
  skip
  replace gA := Lib.hid (hcarry (hb) gA.out)
  skip
  replace hB := Lib.hid (below_step hB.out hb)
  clear hb
  go_upto_region 3 with fail
  have nAB := hlt gA.out
  have hn := new_at u2 (motO 26 y)
  have hbn := alloc_below u2 (motO 26 y)
  obtain ⟨V2, hV⟩ : ∃ V, V = u2.alloc (motO 26 y) := ⟨_, rfl⟩
  rw [← hV] at hn hbn
  rw [show u2.alloc (.cells #[.int .i64 y.p0, .int .i64 y.p1, .int .i64 y.v0, .int .i64 y.v1, .int .i64 y.m] 26) = V2 from hV.symm]
  have gB := Lib.hid hn
  clear hn hV
  skip
  replace gA := Lib.hid (hcarry (hbn) gA.out)
  skip
  replace hB := Lib.hid (below_step hB.out hbn)
  clear hbn
  generalize u2.heap.size = B at *
  have af := mo_frozen gA.out
  obtain ⟨a0, a1, a2, a3, a4⟩ := mo_cells gA.out
  go_upto_region 4 with fail
  have hm1 : 1 ≤ (if x.m < 1 then 1 else x.m) ∧ (if x.m < 1 then 1 else x.m) ≤ 4096 := by have := hx'.out.m; split <;> omega
  generalize (if x.m < 1 then 1 else x.m) = m1 at *
  obtain ⟨X, hX⟩ : ∃ X : Mo, X = { x with m := m1 } := ⟨_, rfl⟩
  have hXm : X.m = m1 := by rw [hX]
  have hXs : X.Slow := by rw [hX]; exact ⟨hx'.out.p0, hx'.out.p1, hx'.out.v0, hx'.out.v1, by simp only; omega⟩
  have hg := mo_mass gA.out m1
  rw [← hX] at hg
  have hwA' := hwA.out
  replace gA := Lib.hid hg
  replace gB := Lib.hid (oset (p := ⟨A, 4, none⟩) (v := .int .i64 m1) gB.out (by simp only; omega))
  replace hB := Lib.hid (hB.out.setCell (p := ⟨A, 4, none⟩) (by simp only; omega) (.int .i64 m1))
  clear hg af a0 a1 a2 a3 a4 hX
  generalize V2.setCell ⟨A, 4, none⟩ (.int .i64 m1) = V3 at *
  have bf := mo_frozen gB.out
  obtain ⟨a0, a1, a2, a3, a4⟩ := mo_cells gA.out
  obtain ⟨b0, b1, b2, b3, b4⟩ := mo_cells gB.out
  rw [hXm] at a4
  go_upto_region 5 with fail
  obtain ⟨Y, hY⟩ : ∃ Y : Mo, Y = { y with m := m1 } := ⟨_, rfl⟩
  have hYm : Y.m = m1 := by rw [hY]
  have hYs : Y.Slow := by rw [hY]; exact ⟨hy'.out.p0, hy'.out.p1, hy'.out.v0, hy'.out.v1, by simp only; omega⟩
  have hg := mo_mass gB.out m1
  rw [← hY] at hg
  replace gB := Lib.hid hg
  replace gA := Lib.hid (oset (p := ⟨B, 4, none⟩) (v := .int .i64 m1) gA.out (by simp only; omega))
  replace hB := Lib.hid (hB.out.setCell (p := ⟨B, 4, none⟩) (by simp only; omega) (.int .i64 m1))
  clear hg bf a0 a1 a2 a3 a4 b0 b1 b2 b3 b4 hY
  generalize V3.setCell ⟨B, 4, none⟩ (.int .i64 m1) = V4 at *
  have hM := Lib.hid (And.intro hXm (And.intro hYm hm1))
  have hS := Lib.hid (And.intro hXs hYs)
  clear hXm hYm hm1 hXs hYs hwA'
  go_wp2_with fail
  refine (kx.out _).mono ?_
  rintro e u3 ⟨⟨n0, n1, hn, rfl⟩, hb⟩
  have hn' := Lib.hid hn
  clear hn kx
  skip
  replace gA := Lib.hid (hcarry (hb) gA.out)
  replace gB := Lib.hid (hcarry (hb) gB.out)
  skip
  replace hB := Lib.hid (below_step hB.out hb)
  clear hb
  go_upto_region 6 with fail
  have hn := new_at u3 (vecO 24 n0 n1)
  have hbn := alloc_below u3 (vecO 24 n0 n1)
  obtain ⟨V5, hV⟩ : ∃ V, V = u3.alloc (vecO 24 n0 n1) := ⟨_, rfl⟩
  rw [← hV] at hn hbn
  rw [show u3.alloc (.cells #[.int .i64 n0, .int .i64 n1] 24) = V5 from hV.symm]
  have gC := Lib.hid hn
  clear hn hV
  skip
  replace gA := Lib.hid (hcarry (hbn) gA.out)
  replace gB := Lib.hid (hcarry (hbn) gB.out)
  skip
  replace hB := Lib.hid (below_step hB.out hbn)
  clear hbn
  generalize u3.heap.size = C at *
  go_wp2_with fail
  refine (ke.out _).mono ?_
  rintro e _ ⟨⟨d, d1, d2, rfl⟩, rfl⟩
  clear ke
  obtain ⟨RA, hRA⟩ : ∃ R, resA X Y n0 n1 d 0 = R := ⟨_, rfl⟩
  obtain ⟨RB, hRB⟩ : ∃ R, resB X Y n0 n1 d 0 = R := ⟨_, rfl⟩
  have hap := res_apart (e := 0) hS.out.1 hS.out.2 (hM.out.2.1.trans hM.out.1.symm) (by have := hM.out.1; have := hM.out.2.2; omega) hn'.out (d := d) ⟨d1, by omega⟩
  rw [hRA, hRB] at hap
  have hRAd : RA.Dom := by rw [← hRA]; exact resA_dom hS.out.1.dom hS.out.2.dom
  have hRBd : RB.Dom := by rw [← hRB]; exact resB_dom hS.out.1.dom hS.out.2.dom
  have hnb := hn'.out.bd
  have K := Lib.hid (fun W => resolve_any X Y n0 n1 d 0 W hS.out.1.dom hS.out.2.dom hnb.1 hnb.2 ⟨d1, by omega⟩ (by omega) RA RB hRA hRB)
  have k1 := fun w => sub_any Y.p0 Y.p1 X.p0 X.p1 w (by have := hS.out.2.p0; unfold Bd; omega) (by have := hS.out.2.p1; unfold Bd; omega) (by have := hS.out.1.p0; unfold Bd; omega) (by have := hS.out.1.p1; unfold Bd; omega)
  have k2 := fun w => dot_any (Y.p0 - X.p0) (Y.p1 - X.p1) n0 n1 w (by have := hS.out.2.p0; have := hS.out.1.p0; unfold Bd; omega) (by have := hS.out.2.p1; have := hS.out.1.p1; unfold Bd; omega) (by unfold Bd; omega) (by unfold Bd; omega)
  have k3 := fun w => sub_any RB.p0 RB.p1 RA.p0 RA.p1 w (by have := hRBd.p0; unfold Bd; omega) (by have := hRBd.p1; unfold Bd; omega) (by have := hRAd.p0; unfold Bd; omega) (by have := hRAd.p1; unfold Bd; omega)
  have k4 := fun w => dot_any (RB.p0 - RA.p0) (RB.p1 - RA.p1) n0 n1 w (by have := hRBd.p0; have := hRAd.p0; unfold Bd; omega) (by have := hRBd.p1; have := hRAd.p1; unfold Bd; omega) (by unfold Bd; omega) (by unfold Bd; omega)
  rw [hap] at k4
  have hbf : -1048576 ≤ flr ((Y.p0 - X.p0) * n0 + (Y.p1 - X.p1) * n1) 1024 ∧ flr ((Y.p0 - X.p0) * n0 + (Y.p1 - X.p1) * n1) 1024 ≤ 1048576 := by
    have q0 := hS.out.2.p0
    have q1 := hS.out.2.p1
    have q2 := hS.out.1.p0
    have q3 := hS.out.1.p1
    rw [hn'.out.dot]
    split <;> (try split) <;> (try split) <;> omega
  clear hap
  generalize flr ((Y.p0 - X.p0) * n0 + (Y.p1 - X.p1) * n1) 1024 = bf at *
  have KV := Lib.hid (And.intro k1 (And.intro k2 (And.intro k3 k4)))
  clear k1 k2 k3 k4 hRA hRB hRAd hRBd hnb
  obtain ⟨a0, a1, a2, a3, a4⟩ := mo_cells gA.out
  obtain ⟨b0, b1, b2, b3, b4⟩ := mo_cells gB.out
  obtain ⟨c0, c1⟩ := vec_cells gC.out
  go_wp2_with fail
  refine (K.out _).mono ?_
  rintro e u4 ⟨rfl, hb⟩
  clear a0 a1 a2 a3 a4 b0 b1 b2 b3 b4 c0 c1
  skip
  replace gA := Lib.hid (hcarry (hb) gA.out)
  replace gB := Lib.hid (hcarry (hb) gB.out)
  replace gC := Lib.hid (hcarry (hb) gC.out)
  skip
  replace hB := Lib.hid (below_step hB.out hb)
  clear hb
  go_upto_region 8 with fail
  have hn := old_at (motO 26 RB) (new_at u4 (motO 26 RA))
  have hm := new_at (u4.alloc (motO 26 RA)) (motO 26 RB)
  rw [World.size_alloc] at hm
  have hbn := below_step (alloc_below u4 (motO 26 RA)) (alloc_below (u4.alloc (motO 26 RA)) (motO 26 RB))
  obtain ⟨V6, hV⟩ : ∃ V, V = (u4.alloc (motO 26 RA)).alloc (motO 26 RB) := ⟨_, rfl⟩
  rw [← hV] at hn hm hbn
  rw [show (u4.alloc (.cells #[.int .i64 RA.p0, .int .i64 RA.p1, .int .i64 RA.v0, .int .i64 RA.v1, .int .i64 RA.m] 26)).alloc (.cells #[.int .i64 RB.p0, .int .i64 RB.p1, .int .i64 RB.v0, .int .i64 RB.v1, .int .i64 RB.m] 26) = V6 from hV.symm]
  have gP := Lib.hid hn
  have gQ := Lib.hid hm
  clear hn hm hV
  skip
  replace gA := Lib.hid (hcarry (hbn) gA.out)
  replace gB := Lib.hid (hcarry (hbn) gB.out)
  replace gC := Lib.hid (hcarry (hbn) gC.out)
  skip
  replace hB := Lib.hid (below_step hB.out hbn)
  clear hbn
  generalize u4.heap.size = P at *
  have nPQ : P < P + 1 := Nat.lt_succ_self _
  generalize P + 1 = Q at *
  obtain ⟨a0, a1, -, -, -⟩ := mo_cells gA.out
  obtain ⟨b0, b1, -, -, -⟩ := mo_cells gB.out
  obtain ⟨c0, c1⟩ := vec_cells gC.out
  refine wp_region_made (by kernel_rfl) (by kernel_rfl) ?_
  intro W hK
  have g_a0 := fun x => carry ((hK.below x)) a0
  have g_a1 := fun x => carry ((hK.below x)) a1
  have g_b0 := fun x => carry ((hK.below x)) b0
  have g_b1 := fun x => carry ((hK.below x)) b1
  have g_c0 := fun x => carry ((hK.below x)) c0
  have g_c1 := fun x => carry ((hK.below x)) c1
  repeat (go_big_quiet_step ((first | (go_at_call 16; with_reducible exact met_made (KV.out.1 _)) | (go_at_call 15; with_reducible exact met_made (KV.out.2.1 _)))))
  refine wpQuiet_nil ?_
  intro wq hw'
  have hbq := kept_in hK hw'
  clear g_a0 g_a1 g_b0 g_b1 g_c0 g_c1
  clear hw' hK W
  replace a0 := carry (hbq) a0
  replace a1 := carry (hbq) a1
  replace b0 := carry (hbq) b0
  replace b1 := carry (hbq) b1
  replace c0 := carry (hbq) c0
  replace c1 := carry (hbq) c1
  clear a0 a1 b0 b1
  skip
  replace gP := Lib.hid (hcarry (hbq) gP.out)
  replace gQ := Lib.hid (hcarry (hbq) gQ.out)
  skip
  replace hB := Lib.hid (below_step hB.out hbq)
  clear hbq
  obtain ⟨a0, a1, -, -, -⟩ := mo_cells gP.out
  obtain ⟨b0, b1, -, -, -⟩ := mo_cells gQ.out
  go_upto_region 9 with fail
  refine wp_region_made (by kernel_rfl) (by kernel_rfl) ?_
  intro W hK
  have g_a0 := fun x => carry ((hK.below x)) a0
  have g_a1 := fun x => carry ((hK.below x)) a1
  have g_b0 := fun x => carry ((hK.below x)) b0
  have g_b1 := fun x => carry ((hK.below x)) b1
  have g_c0 := fun x => carry ((hK.below x)) c0
  have g_c1 := fun x => carry ((hK.below x)) c1
  repeat (go_big_quiet_step ((first | (go_at_call 16; with_reducible exact met_made (KV.out.2.2.1 _)) | (go_at_call 15; with_reducible exact met_made (KV.out.2.2.2 _)))))
  refine wpQuiet_nil ?_
  intro wq hw'
  have hbq := kept_in hK hw'
  clear g_a0 g_a1 g_b0 g_b1 g_c0 g_c1
  clear hw' hK W
  replace a0 := carry (hbq) a0
  replace a1 := carry (hbq) a1
  replace b0 := carry (hbq) b0
  replace b1 := carry (hbq) b1
  replace c0 := carry (hbq) c0
  replace c1 := carry (hbq) c1
  have hB2 := Lib.hid (below_step hB.out hbq)
  clear a0 a1 b0 b1 c0 c1 hbq hB gP gQ
  have e2 : d.tmod 2 = d % 2 := Int.tmod_eq_emod_of_nonneg d1
  go_wp2_with fail
  refine (lives7_any _).mono ?_
  rintro e u8 ⟨rfl, hb⟩
  go_wp2
  go_ret
  exact ⟨rfl, below_step hB2.out hb⟩

set_option maxRecDepth 100000 in
theorem lifted (os : Os) (started : os.Started) (H : Type) (enc : TypeId × Value → H) :
    ReturnsInHanded {} Try.checked os 8 .any (Rows.resolveSeparatesSpec.pre6 enc Try.prog Try.f8 Rows.resolveSeparatesRow.domain false) (Rows.resolveSeparatesSpec.post enc Try.prog Try.f8 false true false false) := by
  refine returnsInHanded_of_change (C := Try.checked) own started (by kernel_rfl) Try.func8
    (ChangeSpec.witness6 (enc := enc) (C := Try.checked) false ⟨#[], #[.slice none 0 0, .slice none 0 0, .int .i64 0, .int .i64 0], []⟩ 8 (by kernel_rfl) (by kernel_rfl) (by kernel_rfl) (by kernel_rfl)) ?_
  intro W base args ds gs before hval0 hW hcnd _
  have hval : ∀ (j : Nat) t v, Try.f8.params[j]? = some t → args[j]? = some v → Value.okWide Try.prog W .any base t v := hval0
  have hW' := hW
  obtain ⟨p, q, hA0, hV, rfl, hfz, hnd⟩ := hW
  have hA : DataW.TrodAll enc Try.prog W 0 (fun _ => true) true Try.f8.params.toList args.toList ds p := hA0
  rw [Try.params8] at hA hval
  have hAk := hA
  obtain ⟨v0, vs0, d0, ds0, p0, q0, hargs, rfl, hp0, h0, r0⟩ := trodAll_cons hA
  obtain ⟨v1, vs1, d1, ds1, p1, q1, rfl, rfl, hp1, h1, r1⟩ := trodAll_cons r0
  obtain ⟨v2, vs2, d2, ds2, p2, q2, rfl, rfl, hp2, h2, r2⟩ := trodAll_cons r1
  obtain ⟨v3, vs3, d3, ds3, p3, q3, rfl, rfl, hp3, h3, r3⟩ := trodAll_cons r2
  obtain ⟨rfl, rfl, -⟩ := trodAll_nil r3
  obtain rfl : args = #[v0, v1, v2, v3] := by cases args; simp_all
  obtain ⟨rfl, rfl⟩ := trodVars_none hV
  obtain ⟨x0, q0, c0, rfl⟩ := okWide_slice Try.underlying22 (hval 0 22 v0 rfl rfl)
  obtain ⟨fu0, fh0⟩ := h0
  obtain ⟨s0, Z0, l0, e0, H0⟩ := open_int_cells Try.underlying22 Try.underlying3 (by kernel_rfl) fh0
  simp only [Value.cells, List.cons.injEq, and_true] at e0
  obtain rfl := e0.symm
  obtain ⟨x1, q1, c1, rfl⟩ := okWide_slice Try.underlying22 (hval 1 22 v1 rfl rfl)
  obtain ⟨fu1, fh1⟩ := h1
  obtain ⟨s1, Z1, l1, e1, H1⟩ := open_int_cells Try.underlying22 Try.underlying3 (by kernel_rfl) fh1
  simp only [Value.cells, List.cons.injEq, and_true] at e1
  obtain rfl := e1.symm
  obtain ⟨a2, rfl, -, -, w2⟩ := open_int Try.underlying3 (hval 2 3 v2 rfl rfl) h2
  obtain ⟨a3, rfl, -, -, w3⟩ := open_int Try.underlying3 (hval 3 3 v3 rfl rfl) h3
  clear hA0 hval0
  simp only [List.append_nil] at hW'
  refine (walk W _ Z0 l0 H0 _ Z1 l1 H1 a2 w2 a3 w3).mono fun e W' ⟨he, hb⟩ => ?_
  subst he
  exact ⟨_, rfl, kept_post (pa := p) hW' (fun _ _ _ => (trodAll_cons_mk (shut_bool Try.underlying4 _) trodAll_mk0)) (fun sp hsp => trodAll_stays laid hb (by rw [Try.params8]; decide +kernel) hAk (fun x hx => hW'.lt x hx) hsp) (fun _ => rfl) hb (ok_one (by kernel_rfl) rfl (okWide_bool_mk Try.underlying4 _))⟩

theorem over : Rows.resolveSeparatesRow.holds Try.pinned (OpenSpec.ofChange Rows.resolveSeparatesSpec) :=
  OpenClaim.holds_of_wide 8 Try.f8 rfl rfl rfl rfl rfl rfl rfl ⟨rfl, rfl, rfl, rfl, rfl⟩ rfl rfl rfl rfl rfl (by kernel_rfl) Try.func8 (by kernel_rfl)
    (of_decide_eq_true (by kernel_rfl)) (by unfold Func.isWrapper; first | (rw [if_pos (by decide +kernel)]; kernel_rfl) | (rw [if_neg (by decide +kernel)]; exact ⟨rfl, rfl⟩))
    (fun os started H enc _ => lifted os started H enc)

theorem proved : Rows.ResolveSeparatesSaid :=
  over
#print axioms proved
end Go.Proofs.Ytihoanoanoaneaa.resolveSeparates
