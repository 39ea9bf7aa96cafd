/-
  package resolve, P7.7: for motions, contacts, restitutions and a displacement made of numbers, of positions and displacements up to 2^18 and depths up to 2^17, moving both bodies by the displacement moves the results by it and does not change the velocities; and the section's example holds; whatever the arguments are.
-/
import Derived.Test.YtihoanoanoaneaaRows
import Derived.WalkKit
import Derived.ProofKit
import Derived.OpenShut
import Derived.Test.YtihoanoanoaneaaOpen
import Derived.Test.YtihoanoanoaneaaResI
import Derived.Test.YtihoanoanoaneaaResL
import Derived.Deep.QuietTactic
namespace Go.Proofs.Ytihoanoanoaneaa.resolveShifted
open Go.ChangeShapes Go.WideShapes Go.ChangeAt Go.RowKit
set_option linter.unusedVariables false
set_option linter.unusedSimpArgs false

open Fxm
theorem own : ownKnob Try.prog.godebug = none := by kernel_rfl
theorem laid : laidOutB Try.prog = true := by kernel_rfl

set_option maxRecDepth 100000 in
set_option maxHeartbeats 8000000 in
theorem walk (w : World) (s0 : Value) (Z0 : Nat → Int) (l0 : Nat) (H0 : IntsAt w s0 1 Z0 l0) (s1 : Value) (Z1 : Nat → Int) (l1 : Nat) (H1 : IntsAt w s1 1 Z1 l1) (s2 : Value) (Z2 : Nat → Int) (l2 : Nat) (H2 : IntsAt w s2 1 Z2 l2) (a3 : Int) (w3 : (Lit.int .i64 a3).wf = true) (a4 : Int) (w4 : (Lit.int .i64 a4).wf = true) (a5 : Int) (w5 : (Lit.int .i64 a5).wf = true) :
    Calls Try.prog 7 #[s0, s1, s2, .int .i64 a3, .int .i64 a4, .int .i64 a5] w fun e w' => e = .returned (.bool true) ∧ Below w.heap.size w w' := by
  obtain ⟨b1, b2⟩ := wf64' w5
  have ke := Lib.hid (fun W => aroundx_any a5 1025 W b1 b2 (by omega))
  obtain ⟨b3, b4⟩ := wf64' w3
  have kx := Lib.hid (fun W => boundx_any a3 262144 W b3 b4 (by omega) (by omega))
  obtain ⟨b5, b6⟩ := wf64' w4
  have ky := Lib.hid (fun W => boundx_any a4 262144 W b5 b6 (by omega) (by omega))
  have I0 := Lib.hid H0
  have I1 := Lib.hid H1
  have I2 := Lib.hid H2
  clear H0 H1 H2 b1 b2 b3 b4 b5 b6
  have hB := Lib.hid (Below.refl w.heap.size w)
  go_enter Try.func7, Try.ntmps7
  go_wp2_with fail
  refine (slow_any _ _ _ _ I0.out).mono ?_
  rintro e u1 ⟨⟨x, hx, rfl⟩, hb⟩
  have hx' := Lib.hid hx
  clear hx I0
  skip
  skip
  replace I1 := Lib.hid (I1.out.carry (hb))
  replace hB := Lib.hid (below_step hB.out hb)
  clear hb
  go_upto_region 2 with fail
  have hwA := Lib.hid hB.out.size
  have hn := new_at u1 (motO 26 x)
  have hbn := alloc_below u1 (motO 26 x)
  obtain ⟨V1, hV⟩ : ∃ V, V = u1.alloc (motO 26 x) := ⟨_, rfl⟩
  rw [← hV] at hn hbn
  rw [show u1.alloc (.cells #[.int .i64 x.p0, .int .i64 x.p1, .int .i64 x.v0, .int .i64 x.v1, .int .i64 x.m] 26) = V1 from hV.symm]
  have gA := Lib.hid hn
  clear hn hV
  skip
  skip
  replace I1 := Lib.hid (I1.out.carry (hbn))
  replace hB := Lib.hid (below_step hB.out hbn)
  clear hbn
  generalize u1.heap.size = A at *
  go_wp2_with fail
  refine (slow_any _ _ _ _ I1.out).mono ?_
  rintro e u2 ⟨⟨y, hy, rfl⟩, hb⟩
  have hy' := Lib.hid hy
  clear hy I1
  skip
  replace gA := Lib.hid (hcarry (hb) gA.out)
  skip
  replace hB := Lib.hid (below_step hB.out hb)
  clear hb
  go_upto_region 3 with fail
  have nAB := hlt gA.out
  have hn := new_at u2 (motO 26 y)
  have hbn := alloc_below u2 (motO 26 y)
  obtain ⟨V2, hV⟩ : ∃ V, V = u2.alloc (motO 26 y) := ⟨_, rfl⟩
  rw [← hV] at hn hbn
  rw [show u2.alloc (.cells #[.int .i64 y.p0, .int .i64 y.p1, .int .i64 y.v0, .int .i64 y.v1, .int .i64 y.m] 26) = V2 from hV.symm]
  have gB := Lib.hid hn
  clear hn hV
  skip
  replace gA := Lib.hid (hcarry (hbn) gA.out)
  skip
  replace hB := Lib.hid (below_step hB.out hbn)
  clear hbn
  generalize u2.heap.size = B at *
  go_wp2_with fail
  refine (contact_any _ _ _ _ (I2.out.carry hB.out)).mono ?_
  rintro e u3 ⟨⟨n0, n1, d, hn0, hn1, hd, rfl⟩, hb⟩
  have hc' := Lib.hid (And.intro hn0 (And.intro hn1 hd))
  clear hn0 hn1 hd I2
  skip
  replace gA := Lib.hid (hcarry (hb) gA.out)
  replace gB := Lib.hid (hcarry (hb) gB.out)
  skip
  replace hB := Lib.hid (below_step hB.out hb)
  clear hb
  go_upto_region 4 with fail
  have nBC := hlt gB.out
  have hn := new_at u3 (conO 29 n0 n1 d)
  have hbn := alloc_below u3 (conO 29 n0 n1 d)
  obtain ⟨V3, hV⟩ : ∃ V, V = u3.alloc (conO 29 n0 n1 d) := ⟨_, rfl⟩
  rw [← hV] at hn hbn
  rw [show u3.alloc (.cells #[.int .i64 n0, .int .i64 n1, .int .i64 d] 29) = V3 from hV.symm]
  have gC := Lib.hid hn
  clear hn hV
  skip
  replace gA := Lib.hid (hcarry (hbn) gA.out)
  replace gB := Lib.hid (hcarry (hbn) gB.out)
  skip
  replace hB := Lib.hid (below_step hB.out hbn)
  clear hbn
  generalize u3.heap.size = C at *
  have hd0 := hc'.out.2.2.1
  have ed : d.tmod 131073 = d % 131073 := Int.tmod_eq_emod_of_nonneg hd0
  have cf := con_frozen gC.out
  obtain ⟨c0, c1, c2⟩ := con_cells gC.out
  have hwA' := hwA.out
  go_upto_region 5 with fail
  have hdd := Lib.hid (show 0 ≤ d % 131073 ∧ d % 131073 ≤ 131072 by omega)
  clear ed hd0
  generalize d % 131073 = d2 at *
  replace gC := Lib.hid (con_d gC.out d2)
  replace gA := Lib.hid (oset (p := ⟨C, 2, none⟩) (v := .int .i64 d2) gA.out (by simp only; omega))
  replace gB := Lib.hid (oset (p := ⟨C, 2, none⟩) (v := .int .i64 d2) gB.out (by simp only; omega))
  replace hB := Lib.hid (hB.out.setCell (p := ⟨C, 2, none⟩) (by simp only; omega) (.int .i64 d2))
  clear c0 c1 c2 cf
  generalize V3.setCell ⟨C, 2, none⟩ (.int .i64 d2) = V4 at *
  go_wp2_with fail
  refine (ke.out _).mono ?_
  rintro e _ ⟨⟨r, r1, r2, rfl⟩, rfl⟩
  have hr' := Lib.hid (And.intro r1 (show r ≤ 1024 by omega))
  clear r1 r2 ke
  go_wp2_with fail
  refine (kx.out _).mono ?_
  rintro e _ ⟨⟨i, i1, i2, rfl⟩, rfl⟩
  go_wp2_with fail
  refine (ky.out _).mono ?_
  rintro e _ ⟨⟨k, j1, j2, rfl⟩, rfl⟩
  clear kx ky
  go_upto_region 7 with fail
  have nCD := hlt gC.out
  have hn := new_at V4 (vecO 24 i k)
  have hbn := alloc_below V4 (vecO 24 i k)
  obtain ⟨V5, hV⟩ : ∃ V, V = V4.alloc (vecO 24 i k) := ⟨_, rfl⟩
  rw [← hV] at hn hbn
  rw [show V4.alloc (.cells #[.int .i64 i, .int .i64 k] 24) = V5 from hV.symm]
  have gD := Lib.hid hn
  clear hn hV
  skip
  replace gA := Lib.hid (hcarry (hbn) gA.out)
  replace gB := Lib.hid (hcarry (hbn) gB.out)
  replace gC := Lib.hid (hcarry (hbn) gC.out)
  skip
  replace hB := Lib.hid (below_step hB.out hbn)
  clear hbn
  generalize V4.heap.size = D at *
  have hik := Lib.hid (And.intro (And.intro i1 i2) (And.intro j1 j2))
  clear i1 i2 j1 j2
  obtain ⟨RA, hRA⟩ : ∃ R, resA x y n0 n1 d2 r = R := ⟨_, rfl⟩
  obtain ⟨RB, hRB⟩ : ∃ R, resB x y n0 n1 d2 r = R := ⟨_, rfl⟩
  have hsf := res_shift (e := r) hx'.out hy'.out hc'.out.1 hc'.out.2.1 hdd.out hik.out.1 hik.out.2
  rw [hRA, hRB] at hsf
  obtain ⟨X, hX⟩ : ∃ X : Mo, X = x.shift i k := ⟨_, rfl⟩
  obtain ⟨Y, hY⟩ : ∃ Y : Mo, Y = y.shift i k := ⟨_, rfl⟩
  obtain ⟨GA, hGA⟩ : ∃ X : Mo, X = RA.shift i k := ⟨_, rfl⟩
  obtain ⟨GB, hGB⟩ : ∃ X : Mo, X = RB.shift i k := ⟨_, rfl⟩
  have hXd : X.Dom := by rw [hX]; exact ⟨by have := hx'.out.p0; have := hik.out; simp only [Mo.shift]; omega, by have := hx'.out.p1; have := hik.out; simp only [Mo.shift]; omega, hx'.out.dom.v0, hx'.out.dom.v1, hx'.out.m⟩
  have hYd : Y.Dom := by rw [hY]; exact ⟨by have := hy'.out.p0; have := hik.out; simp only [Mo.shift]; omega, by have := hy'.out.p1; have := hik.out; simp only [Mo.shift]; omega, hy'.out.dom.v0, hy'.out.dom.v1, hy'.out.m⟩
  have hRAd : RA.Dom := by rw [← hRA]; exact resA_dom hx'.out.dom hy'.out.dom
  have hRBd : RB.Dom := by rw [← hRB]; exact resB_dom hx'.out.dom hy'.out.dom
  rw [← hX, ← hY, ← hGA, ← hGB] at hsf
  have hdb := hdd.out
  have K := Lib.hid (And.intro (fun W => resolve_any x y n0 n1 d2 r W hx'.out.dom hy'.out.dom hc'.out.1 hc'.out.2.1 (by omega) hr'.out RA RB hRA hRB) (fun W => resolve_any X Y n0 n1 d2 r W hXd hYd hc'.out.1 hc'.out.2.1 (by omega) hr'.out GA GB hsf.1 hsf.2))
  have k1 := fun w => add_any x.p0 x.p1 i k w (by have := hx'.out.p0; unfold Bd; omega) (by have := hx'.out.p1; unfold Bd; omega) (by have := hik.out; unfold Bd; omega) (by have := hik.out; unfold Bd; omega)
  have k2 := fun w => add_any y.p0 y.p1 i k w (by have := hy'.out.p0; unfold Bd; omega) (by have := hy'.out.p1; unfold Bd; omega) (by have := hik.out; unfold Bd; omega) (by have := hik.out; unfold Bd; omega)
  have k3 := fun w => add_any RA.p0 RA.p1 i k w (by have := hRAd.p0; unfold Bd; omega) (by have := hRAd.p1; unfold Bd; omega) (by have := hik.out; unfold Bd; omega) (by have := hik.out; unfold Bd; omega)
  have k4 := fun w => add_any RB.p0 RB.p1 i k w (by have := hRBd.p0; unfold Bd; omega) (by have := hRBd.p1; unfold Bd; omega) (by have := hik.out; unfold Bd; omega) (by have := hik.out; unfold Bd; omega)
  have eX0 : x.p0 + i = X.p0 := by rw [hX]; rfl
  have eX1 : x.p1 + k = X.p1 := by rw [hX]; rfl
  have eY0 : y.p0 + i = Y.p0 := by rw [hY]; rfl
  have eY1 : y.p1 + k = Y.p1 := by rw [hY]; rfl
  have eA0 : RA.p0 + i = GA.p0 := by rw [hGA]; rfl
  have eA1 : RA.p1 + k = GA.p1 := by rw [hGA]; rfl
  have eA2 : GA.v0 = RA.v0 := by rw [hGA]; rfl
  have eA3 : GA.v1 = RA.v1 := by rw [hGA]; rfl
  have eB0 : RB.p0 + i = GB.p0 := by rw [hGB]; rfl
  have eB1 : RB.p1 + k = GB.p1 := by rw [hGB]; rfl
  have eB2 : GB.v0 = RB.v0 := by rw [hGB]; rfl
  have eB3 : GB.v1 = RB.v1 := by rw [hGB]; rfl
  rw [eX0, eX1] at k1
  rw [eY0, eY1] at k2
  rw [eA0, eA1] at k3
  rw [eB0, eB1] at k4
  have KV := Lib.hid (And.intro k1 (And.intro k2 (And.intro k3 k4)))
  have hXs : { x with p0 := X.p0, p1 := X.p1 } = X := by rw [hX]; rfl
  have hYs : { y with p0 := Y.p0, p1 := Y.p1 } = Y := by rw [hY]; rfl
  have hXY := Lib.hid (And.intro hXs hYs)
  have hV := Lib.hid (And.intro (And.intro eA2 eA3) (And.intro eB2 eB3))
  clear k1 k2 k3 k4 hRA hRB hsf hX hY hGA hGB hXd hYd hRAd hRBd eX0 eX1 eY0 eY1 eA0 eA1 eB0 eB1 eA2 eA3 eB2 eB3 hXs hYs hdb
  obtain ⟨a0, a1, a2, a3, a4⟩ := mo_cells gA.out
  obtain ⟨b0, b1, b2, b3, b4⟩ := mo_cells gB.out
  obtain ⟨c0, c1, c2⟩ := con_cells gC.out
  go_wp2_with fail
  refine (K.out.1 _).mono ?_
  rintro e u4 ⟨rfl, hb⟩
  clear a0 a1 a2 a3 a4 b0 b1 b2 b3 b4 c0 c1 c2
  skip
  replace gA := Lib.hid (hcarry (hb) gA.out)
  replace gB := Lib.hid (hcarry (hb) gB.out)
  replace gC := Lib.hid (hcarry (hb) gC.out)
  replace gD := Lib.hid (hcarry (hb) gD.out)
  skip
  replace hB := Lib.hid (below_step hB.out hb)
  clear hb
  go_upto_region 8 with fail
  have nDP := hlt gD.out
  have hn := old_at (motO 26 RB) (new_at u4 (motO 26 RA))
  have hm := new_at (u4.alloc (motO 26 RA)) (motO 26 RB)
  rw [World.size_alloc] at hm
  have hbn := below_step (alloc_below u4 (motO 26 RA)) (alloc_below (u4.alloc (motO 26 RA)) (motO 26 RB))
  obtain ⟨V6, hV⟩ : ∃ V, V = (u4.alloc (motO 26 RA)).alloc (motO 26 RB) := ⟨_, rfl⟩
  rw [← hV] at hn hm hbn
  rw [show (u4.alloc (.cells #[.int .i64 RA.p0, .int .i64 RA.p1, .int .i64 RA.v0, .int .i64 RA.v1, .int .i64 RA.m] 26)).alloc (.cells #[.int .i64 RB.p0, .int .i64 RB.p1, .int .i64 RB.v0, .int .i64 RB.v1, .int .i64 RB.m] 26) = V6 from hV.symm]
  have gP := Lib.hid hn
  have gQ := Lib.hid hm
  clear hn hm hV
  skip
  replace gA := Lib.hid (hcarry (hbn) gA.out)
  replace gB := Lib.hid (hcarry (hbn) gB.out)
  replace gC := Lib.hid (hcarry (hbn) gC.out)
  replace gD := Lib.hid (hcarry (hbn) gD.out)
  skip
  replace hB := Lib.hid (below_step hB.out hbn)
  clear hbn
  generalize u4.heap.size = P at *
  have nPQ : P < P + 1 := Nat.lt_succ_self _
  generalize P + 1 = Q at *
  obtain ⟨a0, a1, a2, a3, a4⟩ := mo_cells gA.out
  obtain ⟨d0, d1⟩ := vec_cells gD.out
  go_wp2_with fail
  refine (KV.out.1 _).mono ?_
  rintro e u5 ⟨rfl, hb⟩
  clear a0 a1 a2 a3 a4 d0 d1
  skip
  replace gA := Lib.hid (hcarry (hb) gA.out)
  replace gB := Lib.hid (hcarry (hb) gB.out)
  replace gC := Lib.hid (hcarry (hb) gC.out)
  replace gD := Lib.hid (hcarry (hb) gD.out)
  replace gP := Lib.hid (hcarry (hb) gP.out)
  replace gQ := Lib.hid (hcarry (hb) gQ.out)
  skip
  replace hB := Lib.hid (below_step hB.out hb)
  clear hb
  have af := mo_frozen gA.out
  obtain ⟨a0, a1, a2, a3, a4⟩ := mo_cells gA.out
  go_upto_region 9 with fail
  have hg := mo_pos gA.out X.p0 X.p1
  rw [hXY.out.1] at hg
  skip
  replace gB := Lib.hid (oset2 A 0 1 (.int .i64 X.p0) (.int .i64 X.p1) gB.out (by omega))
  replace gC := Lib.hid (oset2 A 0 1 (.int .i64 X.p0) (.int .i64 X.p1) gC.out (by omega))
  replace gD := Lib.hid (oset2 A 0 1 (.int .i64 X.p0) (.int .i64 X.p1) gD.out (by omega))
  replace gP := Lib.hid (oset2 A 0 1 (.int .i64 X.p0) (.int .i64 X.p1) gP.out (by omega))
  replace gQ := Lib.hid (oset2 A 0 1 (.int .i64 X.p0) (.int .i64 X.p1) gQ.out (by omega))
  replace gA := Lib.hid hg
  replace hB := Lib.hid ((hB.out.setCell (p := ⟨A, 0, none⟩) (by simp only; omega) (.int .i64 X.p0)).setCell (p := ⟨A, 1, none⟩) (by simp only; omega) (.int .i64 X.p1))
  clear a0 a1 a2 a3 a4 af hg
  generalize (u5.setCell ⟨A, 0, none⟩ (.int .i64 X.p0)).setCell ⟨A, 1, none⟩ (.int .i64 X.p1) = V7 at *
  obtain ⟨a0, a1, a2, a3, a4⟩ := mo_cells gB.out
  obtain ⟨d0, d1⟩ := vec_cells gD.out
  go_wp2_with fail
  refine (KV.out.2.1 _).mono ?_
  rintro e u6 ⟨rfl, hb⟩
  clear a0 a1 a2 a3 a4 d0 d1
  skip
  replace gA := Lib.hid (hcarry (hb) gA.out)
  replace gB := Lib.hid (hcarry (hb) gB.out)
  replace gC := Lib.hid (hcarry (hb) gC.out)
  replace gD := Lib.hid (hcarry (hb) gD.out)
  replace gP := Lib.hid (hcarry (hb) gP.out)
  replace gQ := Lib.hid (hcarry (hb) gQ.out)
  skip
  replace hB := Lib.hid (below_step hB.out hb)
  clear hb
  have af := mo_frozen gB.out
  obtain ⟨a0, a1, a2, a3, a4⟩ := mo_cells gB.out
  go_upto_region 10 with fail
  have hg := mo_pos gB.out Y.p0 Y.p1
  rw [hXY.out.2] at hg
  skip
  replace gA := Lib.hid (oset2 B 0 1 (.int .i64 Y.p0) (.int .i64 Y.p1) gA.out (by omega))
  replace gC := Lib.hid (oset2 B 0 1 (.int .i64 Y.p0) (.int .i64 Y.p1) gC.out (by omega))
  replace gD := Lib.hid (oset2 B 0 1 (.int .i64 Y.p0) (.int .i64 Y.p1) gD.out (by omega))
  replace gP := Lib.hid (oset2 B 0 1 (.int .i64 Y.p0) (.int .i64 Y.p1) gP.out (by omega))
  replace gQ := Lib.hid (oset2 B 0 1 (.int .i64 Y.p0) (.int .i64 Y.p1) gQ.out (by omega))
  replace gB := Lib.hid hg
  replace hB := Lib.hid ((hB.out.setCell (p := ⟨B, 0, none⟩) (by simp only; omega) (.int .i64 Y.p0)).setCell (p := ⟨B, 1, none⟩) (by simp only; omega) (.int .i64 Y.p1))
  clear a0 a1 a2 a3 a4 af hg
  generalize (u6.setCell ⟨B, 0, none⟩ (.int .i64 Y.p0)).setCell ⟨B, 1, none⟩ (.int .i64 Y.p1) = V8 at *
  obtain ⟨a0, a1, a2, a3, a4⟩ := mo_cells gA.out
  obtain ⟨b0, b1, b2, b3, b4⟩ := mo_cells gB.out
  obtain ⟨c0, c1, c2⟩ := con_cells gC.out
  go_wp2_with fail
  refine (K.out.2 _).mono ?_
  rintro e u7 ⟨rfl, hb⟩
  clear a0 a1 a2 a3 a4 b0 b1 b2 b3 b4 c0 c1 c2
  skip
  replace gD := Lib.hid (hcarry (hb) gD.out)
  replace gP := Lib.hid (hcarry (hb) gP.out)
  replace gQ := Lib.hid (hcarry (hb) gQ.out)
  skip
  replace hB := Lib.hid (below_step hB.out hb)
  clear hb
  go_upto_region 11 with fail
  have hn := old_at (motO 26 GB) (new_at u7 (motO 26 GA))
  have hm := new_at (u7.alloc (motO 26 GA)) (motO 26 GB)
  rw [World.size_alloc] at hm
  have hbn := below_step (alloc_below u7 (motO 26 GA)) (alloc_below (u7.alloc (motO 26 GA)) (motO 26 GB))
  obtain ⟨V9, hV⟩ : ∃ V, V = (u7.alloc (motO 26 GA)).alloc (motO 26 GB) := ⟨_, rfl⟩
  rw [← hV] at hn hm hbn
  rw [show (u7.alloc (.cells #[.int .i64 GA.p0, .int .i64 GA.p1, .int .i64 GA.v0, .int .i64 GA.v1, .int .i64 GA.m] 26)).alloc (.cells #[.int .i64 GB.p0, .int .i64 GB.p1, .int .i64 GB.v0, .int .i64 GB.v1, .int .i64 GB.m] 26) = V9 from hV.symm]
  have gG := Lib.hid hn
  have gH := Lib.hid hm
  clear hn hm hV
  skip
  replace gD := Lib.hid (hcarry (hbn) gD.out)
  replace gP := Lib.hid (hcarry (hbn) gP.out)
  replace gQ := Lib.hid (hcarry (hbn) gQ.out)
  skip
  replace hB := Lib.hid (below_step hB.out hbn)
  clear hbn
  generalize u7.heap.size = G at *
  have nGH : G < G + 1 := Nat.lt_succ_self _
  generalize G + 1 = H at *
  obtain ⟨a0, a1, a2, a3, -⟩ := mo_cells gP.out
  obtain ⟨b0, b1, b2, b3, -⟩ := mo_cells gQ.out
  obtain ⟨p0, p1, p2, p3, -⟩ := mo_cells gG.out
  obtain ⟨q0, q1, q2, q3, -⟩ := mo_cells gH.out
  obtain ⟨d0, d1⟩ := vec_cells gD.out
  rw [hV.out.1.1] at p2
  rw [hV.out.1.2] at p3
  rw [hV.out.2.1] at q2
  rw [hV.out.2.2] at q3
  refine wp_region_made (by kernel_rfl) (by kernel_rfl) ?_
  intro W hK
  have g_a0 := fun x => carry ((hK.below x)) a0
  have g_a1 := fun x => carry ((hK.below x)) a1
  have g_a2 := fun x => carry ((hK.below x)) a2
  have g_a3 := fun x => carry ((hK.below x)) a3
  have g_b0 := fun x => carry ((hK.below x)) b0
  have g_b1 := fun x => carry ((hK.below x)) b1
  have g_b2 := fun x => carry ((hK.below x)) b2
  have g_b3 := fun x => carry ((hK.below x)) b3
  have g_p0 := fun x => carry ((hK.below x)) p0
  have g_p1 := fun x => carry ((hK.below x)) p1
  have g_p2 := fun x => carry ((hK.below x)) p2
  have g_p3 := fun x => carry ((hK.below x)) p3
  have g_q0 := fun x => carry ((hK.below x)) q0
  have g_q1 := fun x => carry ((hK.below x)) q1
  have g_q2 := fun x => carry ((hK.below x)) q2
  have g_q3 := fun x => carry ((hK.below x)) q3
  have g_d0 := fun x => carry ((hK.below x)) d0
  have g_d1 := fun x => carry ((hK.below x)) d1
  repeat (go_big_quiet_step ((first | (go_at_call 18; with_reducible exact met_made (KV.out.2.2.1 _)) | (go_at_call 18; with_reducible exact met_made (KV.out.2.2.2 _)) | (go_at_call 14; with_reducible exact met_made (lives7_any _)))))
  refine wpQuiet_nil ?_
  intro wq hw'
  have hbq := kept_in hK hw'
  clear g_a0 g_a1 g_a2 g_a3 g_b0 g_b1 g_b2 g_b3 g_p0 g_p1 g_p2 g_p3 g_q0 g_q1 g_q2 g_q3 g_d0 g_d1
  clear hw' hK W
  replace a0 := carry (hbq) a0
  replace a1 := carry (hbq) a1
  replace a2 := carry (hbq) a2
  replace a3 := carry (hbq) a3
  replace b0 := carry (hbq) b0
  replace b1 := carry (hbq) b1
  replace b2 := carry (hbq) b2
  replace b3 := carry (hbq) b3
  replace p0 := carry (hbq) p0
  replace p1 := carry (hbq) p1
  replace p2 := carry (hbq) p2
  replace p3 := carry (hbq) p3
  replace q0 := carry (hbq) q0
  replace q1 := carry (hbq) q1
  replace q2 := carry (hbq) q2
  replace q3 := carry (hbq) q3
  replace d0 := carry (hbq) d0
  replace d1 := carry (hbq) d1
  go_wp2
  go_ret
  exact ⟨rfl, below_step hB.out hbq⟩

set_option maxRecDepth 100000 in
theorem lifted (os : Os) (started : os.Started) (H : Type) (enc : TypeId × Value → H) :
    ReturnsInHanded {} Try.checked os 7 .any (Rows.resolveShiftedSpec.pre6 enc Try.prog Try.f7 Rows.resolveShiftedRow.domain false) (Rows.resolveShiftedSpec.post enc Try.prog Try.f7 false true false false) := by
  refine returnsInHanded_of_change (C := Try.checked) own started (by kernel_rfl) Try.func7
    (ChangeSpec.witness6 (enc := enc) (C := Try.checked) false ⟨#[], #[.slice none 0 0, .slice none 0 0, .slice none 0 0, .int .i64 0, .int .i64 0, .int .i64 0], []⟩ 8 (by kernel_rfl) (by kernel_rfl) (by kernel_rfl) (by kernel_rfl)) ?_
  intro W base args ds gs before hval0 hW hcnd _
  have hval : ∀ (j : Nat) t v, Try.f7.params[j]? = some t → args[j]? = some v → Value.okWide Try.prog W .any base t v := hval0
  have hW' := hW
  obtain ⟨p, q, hA0, hV, rfl, hfz, hnd⟩ := hW
  have hA : DataW.TrodAll enc Try.prog W 0 (fun _ => true) true Try.f7.params.toList args.toList ds p := hA0
  rw [Try.params7] at hA hval
  have hAk := hA
  obtain ⟨v0, vs0, d0, ds0, p0, q0, hargs, rfl, hp0, h0, r0⟩ := trodAll_cons hA
  obtain ⟨v1, vs1, d1, ds1, p1, q1, rfl, rfl, hp1, h1, r1⟩ := trodAll_cons r0
  obtain ⟨v2, vs2, d2, ds2, p2, q2, rfl, rfl, hp2, h2, r2⟩ := trodAll_cons r1
  obtain ⟨v3, vs3, d3, ds3, p3, q3, rfl, rfl, hp3, h3, r3⟩ := trodAll_cons r2
  obtain ⟨v4, vs4, d4, ds4, p4, q4, rfl, rfl, hp4, h4, r4⟩ := trodAll_cons r3
  obtain ⟨v5, vs5, d5, ds5, p5, q5, rfl, rfl, hp5, h5, r5⟩ := trodAll_cons r4
  obtain ⟨rfl, rfl, -⟩ := trodAll_nil r5
  obtain rfl : args = #[v0, v1, v2, v3, v4, v5] := by cases args; simp_all
  obtain ⟨rfl, rfl⟩ := trodVars_none hV
  obtain ⟨x0, q0, c0, rfl⟩ := okWide_slice Try.underlying22 (hval 0 22 v0 rfl rfl)
  obtain ⟨fu0, fh0⟩ := h0
  obtain ⟨s0, Z0, l0, e0, H0⟩ := open_int_cells Try.underlying22 Try.underlying3 (by kernel_rfl) fh0
  simp only [Value.cells, List.cons.injEq, and_true] at e0
  obtain rfl := e0.symm
  obtain ⟨x1, q1, c1, rfl⟩ := okWide_slice Try.underlying22 (hval 1 22 v1 rfl rfl)
  obtain ⟨fu1, fh1⟩ := h1
  obtain ⟨s1, Z1, l1, e1, H1⟩ := open_int_cells Try.underlying22 Try.underlying3 (by kernel_rfl) fh1
  simp only [Value.cells, List.cons.injEq, and_true] at e1
  obtain rfl := e1.symm
  obtain ⟨x2, q2, c2, rfl⟩ := okWide_slice Try.underlying22 (hval 2 22 v2 rfl rfl)
  obtain ⟨fu2, fh2⟩ := h2
  obtain ⟨s2, Z2, l2, e2, H2⟩ := open_int_cells Try.underlying22 Try.underlying3 (by kernel_rfl) fh2
  simp only [Value.cells, List.cons.injEq, and_true] at e2
  obtain rfl := e2.symm
  obtain ⟨a3, rfl, -, -, w3⟩ := open_int Try.underlying3 (hval 3 3 v3 rfl rfl) h3
  obtain ⟨a4, rfl, -, -, w4⟩ := open_int Try.underlying3 (hval 4 3 v4 rfl rfl) h4
  obtain ⟨a5, rfl, -, -, w5⟩ := open_int Try.underlying3 (hval 5 3 v5 rfl rfl) h5
  clear hA0 hval0
  simp only [List.append_nil] at hW'
  refine (walk W _ Z0 l0 H0 _ Z1 l1 H1 _ Z2 l2 H2 a3 w3 a4 w4 a5 w5).mono fun e W' ⟨he, hb⟩ => ?_
  subst he
  exact ⟨_, rfl, kept_post (pa := p) hW' (fun _ _ _ => (trodAll_cons_mk (shut_bool Try.underlying4 _) trodAll_mk0)) (fun sp hsp => trodAll_stays laid hb (by rw [Try.params7]; decide +kernel) hAk (fun x hx => hW'.lt x hx) hsp) (fun _ => rfl) hb (ok_one (by kernel_rfl) rfl (okWide_bool_mk Try.underlying4 _))⟩

theorem over : Rows.resolveShiftedRow.holds Try.pinned (OpenSpec.ofChange Rows.resolveShiftedSpec) :=
  OpenClaim.holds_of_wide 7 Try.f7 rfl rfl rfl rfl rfl rfl rfl ⟨rfl, rfl, rfl, rfl, rfl⟩ rfl rfl rfl rfl rfl (by kernel_rfl) Try.func7 (by kernel_rfl)
    (of_decide_eq_true (by kernel_rfl)) (by unfold Func.isWrapper; first | (rw [if_pos (by decide +kernel)]; kernel_rfl) | (rw [if_neg (by decide +kernel)]; exact ⟨rfl, rfl⟩))
    (fun os started H enc _ => lifted os started H enc)

theorem proved : Rows.ResolveShiftedSaid :=
  over
#print axioms proved
end Go.Proofs.Ytihoanoanoaneaa.resolveShifted
