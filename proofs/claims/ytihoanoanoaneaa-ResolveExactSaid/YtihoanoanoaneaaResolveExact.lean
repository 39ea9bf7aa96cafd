/-
  package resolve, P7.1 to P7.4: for all motions, contacts and restitutions made of numbers, Resolve returns the motions of the definition; and the section's example holds; whatever the arguments are.
-/
import Derived.Test.YtihoanoanoaneaaRows
import Derived.WalkKit
import Derived.ProofKit
import Derived.OpenShut
import Derived.Test.YtihoanoanoaneaaOpen
import Derived.Test.YtihoanoanoaneaaResI
import Derived.Test.YtihoanoanoaneaaResR
import Derived.Test.YtihoanoanoaneaaResL
namespace Go.Proofs.Ytihoanoanoaneaa.resolveExact
open Go.ChangeShapes Go.WideShapes Go.ChangeAt Go.RowKit
set_option linter.unusedVariables false
set_option linter.unusedSimpArgs false

open Fxm
theorem own : ownKnob Try.prog.godebug = none := by kernel_rfl
theorem laid : laidOutB Try.prog = true := by kernel_rfl

set_option maxRecDepth 100000 in
set_option maxHeartbeats 8000000 in
theorem walk (w : World) (s0 : Value) (Z0 : Nat → Int) (l0 : Nat) (H0 : IntsAt w s0 1 Z0 l0) (s1 : Value) (Z1 : Nat → Int) (l1 : Nat) (H1 : IntsAt w s1 1 Z1 l1) (s2 : Value) (Z2 : Nat → Int) (l2 : Nat) (H2 : IntsAt w s2 1 Z2 l2) (a3 : Int) (w3 : (Lit.int .i64 a3).wf = true) :
    Calls Try.prog 3 #[s0, s1, s2, .int .i64 a3] w fun e w' => e = .returned (.bool true) ∧ Below w.heap.size w w' := by
  obtain ⟨b1, b2⟩ := wf64' w3
  have ke := Lib.hid (fun W => aroundx_any a3 1025 W b1 b2 (by omega))
  have I0 := Lib.hid H0
  have I1 := Lib.hid H1
  have I2 := Lib.hid H2
  have hB := Lib.hid (Below.refl w.heap.size w)
  clear H0 H1 H2 b1 b2
  go_enter Try.func3, Try.ntmps3
  go_wp2_with fail
  refine (motion_any _ _ _ _ I0.out).mono ?_
  rintro e u1 ⟨⟨x, hx, rfl⟩, hb⟩
  have hx' := Lib.hid hx
  clear hx I0
  skip
  skip
  replace I1 := Lib.hid (I1.out.carry (hb))
  replace I2 := Lib.hid (I2.out.carry (hb))
  replace hB := Lib.hid (below_step hB.out hb)
  clear hb
  go_upto_region 2 with fail
  have hn := new_at u1 (motO 26 x)
  have hbn := alloc_below u1 (motO 26 x)
  obtain ⟨V1, hV⟩ : ∃ V, V = u1.alloc (motO 26 x) := ⟨_, rfl⟩
  rw [← hV] at hn hbn
  rw [show u1.alloc (.cells #[.int .i64 x.p0, .int .i64 x.p1, .int .i64 x.v0, .int .i64 x.v1, .int .i64 x.m] 26) = V1 from hV.symm]
  have gA := Lib.hid hn
  clear hn hV
  skip
  skip
  replace I1 := Lib.hid (I1.out.carry (hbn))
  replace I2 := Lib.hid (I2.out.carry (hbn))
  replace hB := Lib.hid (below_step hB.out hbn)
  clear hbn
  generalize u1.heap.size = A at *
  go_wp2_with fail
  refine (motion_any _ _ _ _ I1.out).mono ?_
  rintro e u2 ⟨⟨y, hy, rfl⟩, hb⟩
  have hy' := Lib.hid hy
  clear hy I1
  skip
  replace gA := Lib.hid (hcarry (hb) gA.out)
  skip
  replace I2 := Lib.hid (I2.out.carry (hb))
  replace hB := Lib.hid (below_step hB.out hb)
  clear hb
  go_upto_region 3 with fail
  have hn := new_at u2 (motO 26 y)
  have hbn := alloc_below u2 (motO 26 y)
  obtain ⟨V2, hV⟩ : ∃ V, V = u2.alloc (motO 26 y) := ⟨_, rfl⟩
  rw [← hV] at hn hbn
  rw [show u2.alloc (.cells #[.int .i64 y.p0, .int .i64 y.p1, .int .i64 y.v0, .int .i64 y.v1, .int .i64 y.m] 26) = V2 from hV.symm]
  have gB := Lib.hid hn
  clear hn hV
  skip
  replace gA := Lib.hid (hcarry (hbn) gA.out)
  skip
  replace I2 := Lib.hid (I2.out.carry (hbn))
  replace hB := Lib.hid (below_step hB.out hbn)
  clear hbn
  generalize u2.heap.size = B at *
  go_wp2_with fail
  refine (contact_any _ _ _ _ I2.out).mono ?_
  rintro e u3 ⟨⟨n0, n1, d, hn0, hn1, hd, rfl⟩, hb⟩
  have hc' := Lib.hid (And.intro hn0 (And.intro hn1 hd))
  clear hn0 hn1 hd I2
  skip
  replace gA := Lib.hid (hcarry (hb) gA.out)
  replace gB := Lib.hid (hcarry (hb) gB.out)
  skip
  replace hB := Lib.hid (below_step hB.out hb)
  clear hb
  go_upto_region 4 with fail
  have hn := new_at u3 (conO 29 n0 n1 d)
  have hbn := alloc_below u3 (conO 29 n0 n1 d)
  obtain ⟨V3, hV⟩ : ∃ V, V = u3.alloc (conO 29 n0 n1 d) := ⟨_, rfl⟩
  rw [← hV] at hn hbn
  rw [show u3.alloc (.cells #[.int .i64 n0, .int .i64 n1, .int .i64 d] 29) = V3 from hV.symm]
  have gC := Lib.hid hn
  clear hn hV
  skip
  replace gA := Lib.hid (hcarry (hbn) gA.out)
  replace gB := Lib.hid (hcarry (hbn) gB.out)
  skip
  replace hB := Lib.hid (below_step hB.out hbn)
  clear hbn
  generalize u3.heap.size = C at *
  go_wp2_with fail
  refine (ke.out _).mono ?_
  rintro e _ ⟨⟨r, r1, r2, rfl⟩, rfl⟩
  have hr' := Lib.hid (And.intro r1 (show r ≤ 1024 by omega))
  clear r1 r2 ke
  obtain ⟨RA, hRA⟩ : ∃ R, resA x y n0 n1 d r = R := ⟨_, rfl⟩
  obtain ⟨RB, hRB⟩ : ∃ R, resB x y n0 n1 d r = R := ⟨_, rfl⟩
  have K := Lib.hid (And.intro (fun W => resolve_any x y n0 n1 d r W hx'.out hy'.out hc'.out.1 hc'.out.2.1 hc'.out.2.2 hr'.out RA RB hRA hRB) (fun W => refResolve_any x y n0 n1 d r W hx'.out hy'.out hc'.out.1 hc'.out.2.1 hc'.out.2.2 hr'.out RA RB hRA hRB))
  clear hRA hRB
  obtain ⟨a0, a1, a2, a3, a4⟩ := mo_cells gA.out
  obtain ⟨b0, b1, b2, b3, b4⟩ := mo_cells gB.out
  obtain ⟨c0, c1, c2⟩ := con_cells gC.out
  go_wp2_with fail
  refine (K.out.1 _).mono ?_
  rintro e u4 ⟨rfl, hb⟩
  clear a0 a1 a2 a3 a4 b0 b1 b2 b3 b4 c0 c1 c2
  skip
  replace gA := Lib.hid (hcarry (hb) gA.out)
  replace gB := Lib.hid (hcarry (hb) gB.out)
  replace gC := Lib.hid (hcarry (hb) gC.out)
  skip
  replace hB := Lib.hid (below_step hB.out hb)
  clear hb
  go_upto_region 6 with fail
  have hn := old_at (motO 26 RB) (new_at u4 (motO 26 RA))
  have hm := new_at (u4.alloc (motO 26 RA)) (motO 26 RB)
  rw [World.size_alloc] at hm
  have hbn := below_step (alloc_below u4 (motO 26 RA)) (alloc_below (u4.alloc (motO 26 RA)) (motO 26 RB))
  obtain ⟨V4, hV⟩ : ∃ V, V = (u4.alloc (motO 26 RA)).alloc (motO 26 RB) := ⟨_, rfl⟩
  rw [← hV] at hn hm hbn
  rw [show (u4.alloc (.cells #[.int .i64 RA.p0, .int .i64 RA.p1, .int .i64 RA.v0, .int .i64 RA.v1, .int .i64 RA.m] 26)).alloc (.cells #[.int .i64 RB.p0, .int .i64 RB.p1, .int .i64 RB.v0, .int .i64 RB.v1, .int .i64 RB.m] 26) = V4 from hV.symm]
  have gP := Lib.hid hn
  have gQ := Lib.hid hm
  clear hn hm hV
  skip
  replace gA := Lib.hid (hcarry (hbn) gA.out)
  replace gB := Lib.hid (hcarry (hbn) gB.out)
  replace gC := Lib.hid (hcarry (hbn) gC.out)
  skip
  replace hB := Lib.hid (below_step hB.out hbn)
  clear hbn
  generalize u4.heap.size = P at *
  have nPQ : P < P + 1 := Nat.lt_succ_self _
  generalize P + 1 = Q at *
  obtain ⟨a0, a1, a2, a3, a4⟩ := mo_cells gA.out
  obtain ⟨b0, b1, b2, b3, b4⟩ := mo_cells gB.out
  obtain ⟨c0, c1, c2⟩ := con_cells gC.out
  go_wp2_with fail
  refine (K.out.2 _).mono ?_
  rintro e u5 ⟨rfl, hb⟩
  clear a0 a1 a2 a3 a4 b0 b1 b2 b3 b4 c0 c1 c2
  skip
  replace gP := Lib.hid (hcarry (hb) gP.out)
  replace gQ := Lib.hid (hcarry (hb) gQ.out)
  skip
  replace hB := Lib.hid (below_step hB.out hb)
  clear hb
  go_upto_region 7 with fail
  have hn := old_at (motO 26 RB) (new_at u5 (motO 26 RA))
  have hm := new_at (u5.alloc (motO 26 RA)) (motO 26 RB)
  rw [World.size_alloc] at hm
  have hbn := below_step (alloc_below u5 (motO 26 RA)) (alloc_below (u5.alloc (motO 26 RA)) (motO 26 RB))
  obtain ⟨V5, hV⟩ : ∃ V, V = (u5.alloc (motO 26 RA)).alloc (motO 26 RB) := ⟨_, rfl⟩
  rw [← hV] at hn hm hbn
  rw [show (u5.alloc (.cells #[.int .i64 RA.p0, .int .i64 RA.p1, .int .i64 RA.v0, .int .i64 RA.v1, .int .i64 RA.m] 26)).alloc (.cells #[.int .i64 RB.p0, .int .i64 RB.p1, .int .i64 RB.v0, .int .i64 RB.v1, .int .i64 RB.m] 26) = V5 from hV.symm]
  have gG := Lib.hid hn
  have gH := Lib.hid hm
  clear hn hm hV
  skip
  replace gP := Lib.hid (hcarry (hbn) gP.out)
  replace gQ := Lib.hid (hcarry (hbn) gQ.out)
  skip
  replace hB := Lib.hid (below_step hB.out hbn)
  clear hbn
  generalize u5.heap.size = G at *
  have nGH : G < G + 1 := Nat.lt_succ_self _
  generalize G + 1 = H at *
  obtain ⟨a0, a1, a2, a3, a4⟩ := mo_cells gP.out
  obtain ⟨b0, b1, b2, b3, b4⟩ := mo_cells gQ.out
  obtain ⟨c0, c1, c2, c3, c4⟩ := mo_cells gG.out
  obtain ⟨d0, d1, d2, d3, d4⟩ := mo_cells gH.out
  go_wp2_with fail
  refine (lives7_any _).mono ?_
  rintro e u6 ⟨rfl, hb⟩
  go_wp2
  go_ret
  exact ⟨rfl, below_step hB.out hb⟩

set_option maxRecDepth 100000 in
theorem lifted (os : Os) (started : os.Started) (H : Type) (enc : TypeId × Value → H) :
    ReturnsInHanded {} Try.checked os 3 .any (Rows.resolveExactSpec.pre6 enc Try.prog Try.f3 Rows.resolveExactRow.domain false) (Rows.resolveExactSpec.post enc Try.prog Try.f3 false true false false) := by
  refine returnsInHanded_of_change (C := Try.checked) own started (by kernel_rfl) Try.func3
    (ChangeSpec.witness6 (enc := enc) (C := Try.checked) false ⟨#[], #[.slice none 0 0, .slice none 0 0, .slice none 0 0, .int .i64 0], []⟩ 8 (by kernel_rfl) (by kernel_rfl) (by kernel_rfl) (by kernel_rfl)) ?_
  intro W base args ds gs before hval0 hW hcnd _
  have hval : ∀ (j : Nat) t v, Try.f3.params[j]? = some t → args[j]? = some v → Value.okWide Try.prog W .any base t v := hval0
  have hW' := hW
  obtain ⟨p, q, hA0, hV, rfl, hfz, hnd⟩ := hW
  have hA : DataW.TrodAll enc Try.prog W 0 (fun _ => true) true Try.f3.params.toList args.toList ds p := hA0
  rw [Try.params3] at hA hval
  have hAk := hA
  obtain ⟨v0, vs0, d0, ds0, p0, q0, hargs, rfl, hp0, h0, r0⟩ := trodAll_cons hA
  obtain ⟨v1, vs1, d1, ds1, p1, q1, rfl, rfl, hp1, h1, r1⟩ := trodAll_cons r0
  obtain ⟨v2, vs2, d2, ds2, p2, q2, rfl, rfl, hp2, h2, r2⟩ := trodAll_cons r1
  obtain ⟨v3, vs3, d3, ds3, p3, q3, rfl, rfl, hp3, h3, r3⟩ := trodAll_cons r2
  obtain ⟨rfl, rfl, -⟩ := trodAll_nil r3
  obtain rfl : args = #[v0, v1, v2, v3] := by cases args; simp_all
  obtain ⟨rfl, rfl⟩ := trodVars_none hV
  obtain ⟨x0, q0, c0, rfl⟩ := okWide_slice Try.underlying22 (hval 0 22 v0 rfl rfl)
  obtain ⟨fu0, fh0⟩ := h0
  obtain ⟨s0, Z0, l0, e0, H0⟩ := open_int_cells Try.underlying22 Try.underlying3 (by kernel_rfl) fh0
  simp only [Value.cells, List.cons.injEq, and_true] at e0
  obtain rfl := e0.symm
  obtain ⟨x1, q1, c1, rfl⟩ := okWide_slice Try.underlying22 (hval 1 22 v1 rfl rfl)
  obtain ⟨fu1, fh1⟩ := h1
  obtain ⟨s1, Z1, l1, e1, H1⟩ := open_int_cells Try.underlying22 Try.underlying3 (by kernel_rfl) fh1
  simp only [Value.cells, List.cons.injEq, and_true] at e1
  obtain rfl := e1.symm
  obtain ⟨x2, q2, c2, rfl⟩ := okWide_slice Try.underlying22 (hval 2 22 v2 rfl rfl)
  obtain ⟨fu2, fh2⟩ := h2
  obtain ⟨s2, Z2, l2, e2, H2⟩ := open_int_cells Try.underlying22 Try.underlying3 (by kernel_rfl) fh2
  simp only [Value.cells, List.cons.injEq, and_true] at e2
  obtain rfl := e2.symm
  obtain ⟨a3, rfl, -, -, w3⟩ := open_int Try.underlying3 (hval 3 3 v3 rfl rfl) h3
  clear hA0 hval0
  simp only [List.append_nil] at hW'
  refine (walk W _ Z0 l0 H0 _ Z1 l1 H1 _ Z2 l2 H2 a3 w3).mono fun e W' ⟨he, hb⟩ => ?_
  subst he
  exact ⟨_, rfl, kept_post (pa := p) hW' (fun _ _ _ => (trodAll_cons_mk (shut_bool Try.underlying4 _) trodAll_mk0)) (fun sp hsp => trodAll_stays laid hb (by rw [Try.params3]; decide +kernel) hAk (fun x hx => hW'.lt x hx) hsp) (fun _ => rfl) hb (ok_one (by kernel_rfl) rfl (okWide_bool_mk Try.underlying4 _))⟩

theorem over : Rows.resolveExactRow.holds Try.pinned (OpenSpec.ofChange Rows.resolveExactSpec) :=
  OpenClaim.holds_of_wide 3 Try.f3 rfl rfl rfl rfl rfl rfl rfl ⟨rfl, rfl, rfl, rfl, rfl⟩ rfl rfl rfl rfl rfl (by kernel_rfl) Try.func3 (by kernel_rfl)
    (of_decide_eq_true (by kernel_rfl)) (by unfold Func.isWrapper; first | (rw [if_pos (by decide +kernel)]; kernel_rfl) | (rw [if_neg (by decide +kernel)]; exact ⟨rfl, rfl⟩))
    (fun os started H enc _ => lifted os started H enc)

theorem proved : Rows.ResolveExactSaid :=
  over
#print axioms proved
end Go.Proofs.Ytihoanoanoaneaa.resolveExact
