/-
  package resolve, P7.2: for two bodies of equal inverse mass, velocities of components up to 2000 and a normal of at most unit length, all made of numbers, the sum of the velocities does not change; for a normal along an axis the sum of their squares does not grow; and the section's example holds; whatever the arguments are.
-/
import Derived.Test.YtihoanoanoaneaaRows
import Derived.WalkKit
import Derived.ProofKit
import Derived.OpenShut
import Derived.Test.YtihoanoanoaneaaOpen
import Derived.Test.YtihoanoanoaneaaResI
import Derived.Test.YtihoanoanoaneaaResL
import Derived.Deep.QuietTactic
import Derived.Deep.RegionHeld3
namespace Go.Proofs.Ytihoanoanoaneaa.resolveMomentum
open Go.ChangeShapes Go.WideShapes Go.ChangeAt Go.RowKit
set_option linter.unusedVariables false
set_option linter.unusedSimpArgs false

open Fxm
def sqs (a : Mo) : Int := a.v0 * a.v0 + a.v1 * a.v1
theorem squares_any (a : Mo) (w : World) (h : a.Dom) :
    Calls Try.prog 20 #[.agg #[.int .i64 a.v0, .int .i64 a.v1]] w fun e w' => e = .returned (.int .i64 (sqs a)) ∧ Below w.heap.size w w' := by
  have p := prod_bd (a := a.v0) (b := a.v0) (A := 16384) (B := 16384) (by omega) (by omega) h.v0.1 h.v0.2 h.v0.1 h.v0.2
  have q := prod_bd (a := a.v1) (b := a.v1) (A := 16384) (B := 16384) (by omega) (by omega) h.v1.1 h.v1.2 h.v1.1 h.v1.2
  show Calls Try.prog 20 #[.agg #[.int .i64 a.v0, .int .i64 a.v1]] w fun e w' => e = .returned (.int .i64 (a.v0 * a.v0 + a.v1 * a.v1)) ∧ Below w.heap.size w w'
  go_enter Try.func20, Try.ntmps20
  go_wp2
  go_ret
  exact ⟨rfl, alloc_below _ _⟩
theorem sqs_bd {a : Mo} (h : a.Dom) : -536870912 ≤ sqs a ∧ sqs a ≤ 536870912 := by
  have p := prod_bd (a := a.v0) (b := a.v0) (A := 16384) (B := 16384) (by omega) (by omega) h.v0.1 h.v0.2 h.v0.1 h.v0.2
  have q := prod_bd (a := a.v1) (b := a.v1) (A := 16384) (B := 16384) (by omega) (by omega) h.v1.1 h.v1.2 h.v1.1 h.v1.2
  unfold sqs
  omega
theorem half_bd {n : Int} (h : -1024 ≤ n ∧ n ≤ 1024) : -512 ≤ n.tdiv 2 ∧ n.tdiv 2 ≤ 512 := by
  have p := tparts n 2
  have a := tmod_lt_p n (d := 2) (by omega)
  have b := tmod_gt_p n (d := 2) (by omega)
  omega
theorem turn_set5 {S : Nat → Prop} {V W : World} (h : Turn S V W) (B : Nat) (hB : S B) (b : Mo) : Turn S V (((((W.setCell ⟨B, 0, none⟩ (.int .i64 b.p0)).setCell ⟨B, 1, none⟩ (.int .i64 b.p1)).setCell ⟨B, 2, none⟩ (.int .i64 b.v0)).setCell ⟨B, 3, none⟩ (.int .i64 b.v1)).setCell ⟨B, 4, none⟩ (.int .i64 b.m)) :=
  ((((h.set (p := ⟨B, 0, none⟩) hB _).set (p := ⟨B, 1, none⟩) hB _).set (p := ⟨B, 2, none⟩) hB _).set (p := ⟨B, 3, none⟩) hB _).set (p := ⟨B, 4, none⟩) hB _
theorem own : ownKnob Try.prog.godebug = none := by kernel_rfl
theorem laid : laidOutB Try.prog = true := by kernel_rfl

set_option maxRecDepth 100000 in
set_option maxHeartbeats 8000000 in
theorem walk (w : World) (s0 : Value) (Z0 : Nat → Int) (l0 : Nat) (H0 : IntsAt w s0 1 Z0 l0) (s1 : Value) (Z1 : Nat → Int) (l1 : Nat) (H1 : IntsAt w s1 1 Z1 l1) (s2 : Value) (Z2 : Nat → Int) (l2 : Nat) (H2 : IntsAt w s2 1 Z2 l2) (a3 : Int) (w3 : (Lit.int .i64 a3).wf = true) (a4 : Int) (w4 : (Lit.int .i64 a4).wf = true) :
    Calls Try.prog 5 #[s0, s1, s2, .int .i64 a3, .int .i64 a4] w fun e w' => e = .returned (.bool true) ∧ Below w.heap.size w w' := by
  obtain ⟨b1, b2⟩ := wf64' w4
  have ke := Lib.hid (fun W => aroundx_any a4 1025 W b1 b2 (by omega))
  obtain ⟨b3, b4⟩ := wf64' w3
  have kx := Lib.hid (fun W => axis_any a3 W b3 b4)
  have I0 := Lib.hid H0
  have I1 := Lib.hid H1
  have I2 := Lib.hid H2
  clear H0 H1 H2 b1 b2 b3 b4
  have hB := Lib.hid (Below.refl w.heap.size w)
  go_enter Try.func5, Try.ntmps5
  go_wp2_with fail
  refine (slow_any _ _ _ _ I0.out).mono ?_
  rintro e u1 ⟨⟨x, hx, rfl⟩, hb⟩
  have hx' := Lib.hid hx
  clear hx I0
  skip
  skip
  replace I1 := Lib.hid (I1.out.carry (hb))
  replace hB := Lib.hid (below_step hB.out hb)
  clear hb
  go_upto_region 2 with fail
  have hwA := Lib.hid hB.out.size
  have hn := new_at u1 (motO 26 x)
  have hbn := alloc_below u1 (motO 26 x)
  obtain ⟨V1, hV⟩ : ∃ V, V = u1.alloc (motO 26 x) := ⟨_, rfl⟩
  rw [← hV] at hn hbn
  rw [show u1.alloc (.cells #[.int .i64 x.p0, .int .i64 x.p1, .int .i64 x.v0, .int .i64 x.v1, .int .i64 x.m] 26) = V1 from hV.symm]
  have gA := Lib.hid hn
  clear hn hV
  skip
  skip
  replace I1 := Lib.hid (I1.out.carry (hbn))
  replace hB := Lib.hid (below_step hB.out hbn)
  clear hbn
  generalize u1.heap.size = A at *
  go_wp2_with fail
  refine (slow_any _ _ _ _ I1.out).mono ?_
  rintro e u2 ⟨⟨y, hy, rfl⟩, hb⟩
  have hy' := Lib.hid hy
  clear hy I1
  skip
  replace gA := Lib.hid (hcarry (hb) gA.out)
  skip
  replace hB := Lib.hid (below_step hB.out hb)
  clear hb
  go_upto_region 3 with fail
  have nAB := hlt gA.out
  have hn := new_at u2 (motO 26 y)
  have hbn := alloc_below u2 (motO 26 y)
  obtain ⟨V2, hV⟩ : ∃ V, V = u2.alloc (motO 26 y) := ⟨_, rfl⟩
  rw [← hV] at hn hbn
  rw [show u2.alloc (.cells #[.int .i64 y.p0, .int .i64 y.p1, .int .i64 y.v0, .int .i64 y.v1, .int .i64 y.m] 26) = V2 from hV.symm]
  have gB := Lib.hid hn
  clear hn hV
  skip
  replace gA := Lib.hid (hcarry (hbn) gA.out)
  skip
  replace hB := Lib.hid (below_step hB.out hbn)
  clear hbn
  generalize u2.heap.size = B at *
  have hwA' := hwA.out
  have bf := mo_frozen gB.out
  obtain ⟨a0, a1, a2, a3, a4⟩ := mo_cells gA.out
  obtain ⟨b0, b1, b2, b3, b4⟩ := mo_cells gB.out
  go_upto_region 4 with fail
  obtain ⟨Y, hY⟩ : ∃ Y : Mo, Y = { y with m := x.m } := ⟨_, rfl⟩
  have hYs : Y.Slow := by rw [hY]; exact ⟨hy'.out.p0, hy'.out.p1, hy'.out.v0, hy'.out.v1, hx'.out.m⟩
  have hYm : Y.m = x.m := by rw [hY]
  have hg := mo_mass gB.out x.m
  rw [← hY] at hg
  replace gB := Lib.hid hg
  replace gA := Lib.hid (oset (p := ⟨B, 4, none⟩) (v := .int .i64 x.m) gA.out (by simp only; omega))
  replace hB := Lib.hid (hB.out.setCell (p := ⟨B, 4, none⟩) (by simp only; omega) (.int .i64 x.m))
  clear hg bf a0 a1 a2 a3 a4 b0 b1 b2 b3 b4 hY
  generalize V2.setCell ⟨B, 4, none⟩ (.int .i64 x.m) = V4 at *
  have hYY := Lib.hid (And.intro hYs hYm)
  clear hYs hYm hy'
  go_wp2_with fail
  refine (contact_any _ _ _ _ (I2.out.carry hB.out)).mono ?_
  rintro e u3 ⟨⟨n0, n1, d, hn0, hn1, hd, rfl⟩, hb⟩
  have hc' := Lib.hid (And.intro hn0 (And.intro hn1 hd))
  clear hn0 hn1 hd I2
  skip
  replace gA := Lib.hid (hcarry (hb) gA.out)
  replace gB := Lib.hid (hcarry (hb) gB.out)
  skip
  replace hB := Lib.hid (below_step hB.out hb)
  clear hb
  go_upto_region 5 with fail
  have nBC := hlt gB.out
  have hn := new_at u3 (conO 29 n0 n1 d)
  have hbn := alloc_below u3 (conO 29 n0 n1 d)
  obtain ⟨V3, hV⟩ : ∃ V, V = u3.alloc (conO 29 n0 n1 d) := ⟨_, rfl⟩
  rw [← hV] at hn hbn
  rw [show u3.alloc (.cells #[.int .i64 n0, .int .i64 n1, .int .i64 d] 29) = V3 from hV.symm]
  have gC := Lib.hid hn
  clear hn hV
  skip
  replace gA := Lib.hid (hcarry (hbn) gA.out)
  replace gB := Lib.hid (hcarry (hbn) gB.out)
  skip
  replace hB := Lib.hid (below_step hB.out hbn)
  clear hbn
  generalize u3.heap.size = C at *
  have hq0 := wq (n := n0) (d := 2) (by have := hc'.out.1; omega) (by have := hc'.out.1; omega)
  have hq1 := wq (n := n1) (d := 2) (by have := hc'.out.2.1; omega) (by have := hc'.out.2.1; omega)
  have cf := con_frozen gC.out
  obtain ⟨c0, c1, c2⟩ := con_cells gC.out
  go_upto_region 6 with fail
  have hh := Lib.hid (And.intro (half_bd hc'.out.1) (half_bd hc'.out.2.1))
  clear hq0 hq1
  generalize n0.tdiv 2 = h0 at *
  generalize n1.tdiv 2 = h1 at *
  replace gC := Lib.hid (con_n gC.out h0 h1)
  skip
  replace gA := Lib.hid (oset2 C 0 1 (.int .i64 h0) (.int .i64 h1) gA.out (by omega))
  replace gB := Lib.hid (oset2 C 0 1 (.int .i64 h0) (.int .i64 h1) gB.out (by omega))
  replace hB := Lib.hid ((hB.out.setCell (p := ⟨C, 0, none⟩) (by simp only; omega) (.int .i64 h0)).setCell (p := ⟨C, 1, none⟩) (by simp only; omega) (.int .i64 h1))
  clear c0 c1 c2 cf
  generalize (V3.setCell ⟨C, 0, none⟩ (.int .i64 h0)).setCell ⟨C, 1, none⟩ (.int .i64 h1) = V5 at *
  go_wp2_with fail
  refine (ke.out _).mono ?_
  rintro e _ ⟨⟨r, r1, r2, rfl⟩, rfl⟩
  have hr' := Lib.hid (And.intro r1 (show r ≤ 1024 by omega))
  clear r1 r2 ke
  obtain ⟨RA, hRA⟩ : ∃ R, resA x Y h0 h1 d r = R := ⟨_, rfl⟩
  obtain ⟨RB, hRB⟩ : ∃ R, resB x Y h0 h1 d r = R := ⟨_, rfl⟩
  have hmo := res_momentum (d := d) (e := r) hx'.out hYY.out.1 hYY.out.2 hh.out.1 hh.out.2 hr'.out
  rw [hRA, hRB] at hmo
  have hRAd : RA.Dom := by rw [← hRA]; exact resA_dom hx'.out.dom hYY.out.1.dom
  have hRBd : RB.Dom := by rw [← hRB]; exact resB_dom hx'.out.dom hYY.out.1.dom
  have hhb := hh.out
  have K := Lib.hid (fun W => resolve_any x Y h0 h1 d r W hx'.out.dom hYY.out.1.dom (by omega) (by omega) hc'.out.2.2 hr'.out RA RB hRA hRB)
  have k1 := fun w => add_any RA.v0 RA.v1 RB.v0 RB.v1 w (by have := hRAd.v0; unfold Bd; omega) (by have := hRAd.v1; unfold Bd; omega) (by have := hRBd.v0; unfold Bd; omega) (by have := hRBd.v1; unfold Bd; omega)
  have k2 := fun w => add_any x.v0 x.v1 Y.v0 Y.v1 w (by have := hx'.out.v0; unfold Bd; omega) (by have := hx'.out.v1; unfold Bd; omega) (by have := hYY.out.1.v0; unfold Bd; omega) (by have := hYY.out.1.v1; unfold Bd; omega)
  rw [hmo.1, hmo.2] at k1
  have KV := Lib.hid (And.intro k1 k2)
  have hRd := Lib.hid (And.intro hRAd hRBd)
  clear k1 k2 hRA hRB hmo hRAd hRBd hhb
  obtain ⟨a0, a1, a2, a3, a4⟩ := mo_cells gA.out
  obtain ⟨b0, b1, b2, b3, b4⟩ := mo_cells gB.out
  obtain ⟨c0, c1, c2⟩ := con_cells gC.out
  go_wp2_with fail
  refine (K.out _).mono ?_
  rintro e u4 ⟨rfl, hb⟩
  clear a0 a1 a2 a3 a4 b0 b1 b2 b3 b4 c0 c1 c2
  skip
  replace gA := Lib.hid (hcarry (hb) gA.out)
  replace gB := Lib.hid (hcarry (hb) gB.out)
  replace gC := Lib.hid (hcarry (hb) gC.out)
  skip
  replace hB := Lib.hid (below_step hB.out hb)
  clear hb
  go_upto_region 8 with fail
  have nCP := hlt gC.out
  have hn := old_at (motO 26 RB) (new_at u4 (motO 26 RA))
  have hm := new_at (u4.alloc (motO 26 RA)) (motO 26 RB)
  rw [World.size_alloc] at hm
  have hbn := below_step (alloc_below u4 (motO 26 RA)) (alloc_below (u4.alloc (motO 26 RA)) (motO 26 RB))
  obtain ⟨V6, hV⟩ : ∃ V, V = (u4.alloc (motO 26 RA)).alloc (motO 26 RB) := ⟨_, rfl⟩
  rw [← hV] at hn hm hbn
  rw [show (u4.alloc (.cells #[.int .i64 RA.p0, .int .i64 RA.p1, .int .i64 RA.v0, .int .i64 RA.v1, .int .i64 RA.m] 26)).alloc (.cells #[.int .i64 RB.p0, .int .i64 RB.p1, .int .i64 RB.v0, .int .i64 RB.v1, .int .i64 RB.m] 26) = V6 from hV.symm]
  have gP := Lib.hid hn
  have gQ := Lib.hid hm
  clear hn hm hV
  skip
  replace gA := Lib.hid (hcarry (hbn) gA.out)
  replace gB := Lib.hid (hcarry (hbn) gB.out)
  replace gC := Lib.hid (hcarry (hbn) gC.out)
  skip
  replace hB := Lib.hid (below_step hB.out hbn)
  clear hbn
  generalize u4.heap.size = P at *
  have nPQ : P < P + 1 := Nat.lt_succ_self _
  generalize P + 1 = Q at *
  obtain ⟨-, -, a2, a3, -⟩ := mo_cells gA.out
  obtain ⟨-, -, b2, b3, -⟩ := mo_cells gB.out
  obtain ⟨-, -, p2, p3, -⟩ := mo_cells gP.out
  obtain ⟨-, -, q2, q3, -⟩ := mo_cells gQ.out
  refine wp_region_made (by kernel_rfl) (by kernel_rfl) ?_
  intro W hK
  have g_a2 := fun x => carry ((hK.below x)) a2
  have g_a3 := fun x => carry ((hK.below x)) a3
  have g_b2 := fun x => carry ((hK.below x)) b2
  have g_b3 := fun x => carry ((hK.below x)) b3
  have g_p2 := fun x => carry ((hK.below x)) p2
  have g_p3 := fun x => carry ((hK.below x)) p3
  have g_q2 := fun x => carry ((hK.below x)) q2
  have g_q3 := fun x => carry ((hK.below x)) q3
  repeat (go_big_quiet_step ((first | (go_at_call 18; with_reducible exact met_made (KV.out.1 _)) | (go_at_call 18; with_reducible exact met_made (KV.out.2 _)))))
  refine wpQuiet_nil ?_
  intro wq hw'
  have hbq := kept_in hK hw'
  clear g_a2 g_a3 g_b2 g_b3 g_p2 g_p3 g_q2 g_q3
  clear hw' hK W
  replace a2 := carry (hbq) a2
  replace a3 := carry (hbq) a3
  replace b2 := carry (hbq) b2
  replace b3 := carry (hbq) b3
  replace p2 := carry (hbq) p2
  replace p3 := carry (hbq) p3
  replace q2 := carry (hbq) q2
  replace q3 := carry (hbq) q3
  clear a2 a3 b2 b3 p2 p3 q2 q3
  skip
  replace gA := Lib.hid (hcarry (hbq) gA.out)
  replace gB := Lib.hid (hcarry (hbq) gB.out)
  replace gP := Lib.hid (hcarry (hbq) gP.out)
  replace gQ := Lib.hid (hcarry (hbq) gQ.out)
  skip
  replace hB := Lib.hid (below_step hB.out hbq)
  clear hbq
  go_upto_region 10 with fail
  have nAP : ¬ (A = P ∨ A = Q) := by omega
  have nBP : ¬ (B = P ∨ B = Q) := by omega
  have mk := Lib.hid (show ∀ w', Turn (fun i => i = P ∨ i = Q) wq w' → (w'.cell? ⟨A, 0, none⟩ = some (.int .i64 x.p0) ∧ w'.cell? ⟨A, 1, none⟩ = some (.int .i64 x.p1) ∧ w'.cell? ⟨A, 2, none⟩ = some (.int .i64 x.v0) ∧ w'.cell? ⟨A, 3, none⟩ = some (.int .i64 x.v1) ∧ w'.cell? ⟨A, 4, none⟩ = some (.int .i64 x.m) ∧ w'.cell? ⟨B, 0, none⟩ = some (.int .i64 Y.p0) ∧ w'.cell? ⟨B, 1, none⟩ = some (.int .i64 Y.p1) ∧ w'.cell? ⟨B, 2, none⟩ = some (.int .i64 Y.v0) ∧ w'.cell? ⟨B, 3, none⟩ = some (.int .i64 Y.v1) ∧ w'.cell? ⟨B, 4, none⟩ = some (.int .i64 Y.m) ∧ Turn (fun i => i = P ∨ i = Q) wq w') from fun w' h => by
    obtain ⟨c0, c1, c2, c3, c4⟩ := mo_cells (h.at gA.out nAP)
    obtain ⟨d0, d1, d2, d3, d4⟩ := mo_cells (h.at gB.out nBP)
    exact ⟨c0, c1, c2, c3, c4, d0, d1, d2, d3, d4, h⟩)
  have bD : Turn (fun i => i = P ∨ i = Q) wq wq.drew := Turn.of_below ((Below.refl _ wq).drew)
  have bW : Below wq.heap.size wq wq.drew := (Below.refl _ wq).drew
  go_region_held3 (fun w' => w'.cell? ⟨A, 0, none⟩ = some (.int .i64 x.p0) ∧ w'.cell? ⟨A, 1, none⟩ = some (.int .i64 x.p1) ∧ w'.cell? ⟨A, 2, none⟩ = some (.int .i64 x.v0) ∧ w'.cell? ⟨A, 3, none⟩ = some (.int .i64 x.v1) ∧ w'.cell? ⟨A, 4, none⟩ = some (.int .i64 x.m) ∧ w'.cell? ⟨B, 0, none⟩ = some (.int .i64 Y.p0) ∧ w'.cell? ⟨B, 1, none⟩ = some (.int .i64 Y.p1) ∧ w'.cell? ⟨B, 2, none⟩ = some (.int .i64 Y.v0) ∧ w'.cell? ⟨B, 3, none⟩ = some (.int .i64 Y.v1) ∧ w'.cell? ⟨B, 4, none⟩ = some (.int .i64 Y.m) ∧ Turn (fun i => i = P ∨ i = Q) wq w')
    (first | (with_reducible exact mk.out _ bD) | (with_reducible exact mk.out _ T6) | (with_reducible exact mk.out _ T8) | (with_reducible exact mk.out _ (turn_set5 T8 P (.inl rfl) _)) | (with_reducible exact mk.out _ (turn_set5 (turn_set5 T8 P (.inl rfl) _) Q (.inr rfl) _)))
    (first
      | (go_at_call 12; with_reducible refine (resolve_any x Y m0 m1 0 r _ hx'.out.dom hYY.out.1.dom hm'.out.bd.1 hm'.out.bd.2 ⟨Int.le_refl _, by omega⟩ hr'.out _ _ rfl rfl).mono ?_; rintro e w8 ⟨rfl, hb8⟩; have B8 := below_step B6 hb8; have T8 : Turn (fun i => i = P ∨ i = Q) wq w8 := Turn.of_below B8; obtain ⟨p0, p1, p2, p3, p4⟩ := mo_cells (hcarry B8 gP.out); obtain ⟨q0, q1, q2, q3, q4⟩ := mo_cells (hcarry B8 gQ.out); have pf := mo_frozen (hcarry B8 gP.out); have qf := mo_frozen (hcarry B8 gQ.out); dsimp only)
      | (go_at_call 19; with_reducible refine (kx.out _).mono ?_; rintro e w6 ⟨⟨m0, m1, hm, rfl⟩, hb6⟩; have hm' := Lib.hid hm; clear hm; have B6 := below_step bW hb6; have T6 : Turn (fun i => i = P ∨ i = Q) wq w6 := Turn.of_below B6; dsimp only))
  rename_i hHeld
  clear hHeld mk bD bW T6 T8 p0 p1 p2 p3 p4 q0 q1 q2 q3 q4 pf qf hb6 hb8 B6
  go_upto_region 11 with fail
  have hen := res_energy (d := 0) (e := r) hx'.out hYY.out.1 hYY.out.2 hm'.out hr'.out
  have hR1d : (resA x Y m0 m1 0 r).Dom := resA_dom hx'.out.dom hYY.out.1.dom
  have hR2d : (resB x Y m0 m1 0 r).Dom := resB_dom hx'.out.dom hYY.out.1.dom
  have B8' := Lib.hid B8
  clear B8
  generalize resA x Y m0 m1 0 r = R1 at *
  generalize resB x Y m0 m1 0 r = R2 at *
  have hP := mo_keep5 Q R2 (mo_all (hcarry B8'.out gP.out) R1) (by omega)
  have hQ := mo_all (mo_keep5 P R1 (hcarry B8'.out gQ.out) (by omega)) R2
  have hA := mo_keep5 Q R2 (mo_keep5 P R1 (hcarry B8'.out gA.out) (by omega)) (by omega)
  have hBb := mo_keep5 Q R2 (mo_keep5 P R1 (hcarry B8'.out gB.out) (by omega)) (by omega)
  have hBe := below_set5 (below_set5 (below_step hB.out B8'.out) P (by omega) R1) Q (by omega) R2
  clear gA gB gP gQ hB
  generalize ((((((((((w8.setCell ⟨P, 0, none⟩ (.int .i64 R1.p0)).setCell ⟨P, 1, none⟩ (.int .i64 R1.p1)).setCell ⟨P, 2, none⟩ (.int .i64 R1.v0)).setCell ⟨P, 3, none⟩ (.int .i64 R1.v1)).setCell ⟨P, 4, none⟩ (.int .i64 R1.m)).setCell ⟨Q, 0, none⟩ (.int .i64 R2.p0)).setCell ⟨Q, 1, none⟩ (.int .i64 R2.p1)).setCell ⟨Q, 2, none⟩ (.int .i64 R2.v0)).setCell ⟨Q, 3, none⟩ (.int .i64 R2.v1)).setCell ⟨Q, 4, none⟩ (.int .i64 R2.m)) = V11 at *
  have gA := Lib.hid hA
  have gB := Lib.hid hBb
  have gP := Lib.hid hP
  have gQ := Lib.hid hQ
  have hB := Lib.hid hBe
  clear hA hBb hP hQ hBe B8'
  obtain ⟨-, -, a2, a3, -⟩ := mo_cells gA.out
  obtain ⟨-, -, b2, b3, -⟩ := mo_cells gB.out
  obtain ⟨-, -, p2, p3, -⟩ := mo_cells gP.out
  obtain ⟨-, -, q2, q3, -⟩ := mo_cells gQ.out
  have k1 := fun w => squares_any R1 w hR1d
  have k2 := fun w => squares_any R2 w hR2d
  have k3 := fun w => squares_any x w hx'.out.dom
  have k4 := fun w => squares_any Y w hYY.out.1.dom
  have s1 := sqs_bd hR1d
  have s2 := sqs_bd hR2d
  have s3 := sqs_bd hx'.out.dom
  have s4 := sqs_bd hYY.out.1.dom
  have hen' : sqs R1 + sqs R2 ≤ sqs x + sqs Y := hen
  clear hen hR1d hR2d
  generalize sqs R1 = z1 at *
  generalize sqs R2 = z2 at *
  generalize sqs x = z3 at *
  generalize sqs Y = z4 at *
  have e1 : IntKind.i64.wrap (z1 + z2) = z1 + z2 := IntWalk.i64_in _ (by omega)
  have e2 : IntKind.i64.wrap (z3 + z4) = z3 + z4 := IntWalk.i64_in _ (by omega)
  have hdec : decide (z1 + z2 ≤ z3 + z4) = true := by simpa using hen'
  have KS := Lib.hid (And.intro k1 (And.intro k2 (And.intro k3 k4)))
  clear k1 k2 k3 k4 hen'
  refine wp_region_made (by kernel_rfl) (by kernel_rfl) ?_
  intro W hK
  have g_a2 := fun x => carry ((hK.below x)) a2
  have g_a3 := fun x => carry ((hK.below x)) a3
  have g_b2 := fun x => carry ((hK.below x)) b2
  have g_b3 := fun x => carry ((hK.below x)) b3
  have g_p2 := fun x => carry ((hK.below x)) p2
  have g_p3 := fun x => carry ((hK.below x)) p3
  have g_q2 := fun x => carry ((hK.below x)) q2
  have g_q3 := fun x => carry ((hK.below x)) q3
  repeat (go_big_quiet_step ((first | (go_at_call 20; with_reducible exact met_made (KS.out.1 _)) | (go_at_call 20; with_reducible exact met_made (KS.out.2.1 _)) | (go_at_call 20; with_reducible exact met_made (KS.out.2.2.1 _)) | (go_at_call 20; with_reducible exact met_made (KS.out.2.2.2 _)) | (go_at_call 14; with_reducible exact met_made (lives7_any _)))))
  refine wpQuiet_nil ?_
  intro wq hw'
  have hbq := kept_in hK hw'
  clear g_a2 g_a3 g_b2 g_b3 g_p2 g_p3 g_q2 g_q3
  clear hw' hK W
  replace a2 := carry (hbq) a2
  replace a3 := carry (hbq) a3
  replace b2 := carry (hbq) b2
  replace b3 := carry (hbq) b3
  replace p2 := carry (hbq) p2
  replace p3 := carry (hbq) p3
  replace q2 := carry (hbq) q2
  replace q3 := carry (hbq) q3
  go_wp2
  go_ret
  exact ⟨rfl, below_step hB.out hbq⟩

set_option maxRecDepth 100000 in
theorem lifted (os : Os) (started : os.Started) (H : Type) (enc : TypeId × Value → H) :
    ReturnsInHanded {} Try.checked os 5 .any (Rows.resolveMomentumSpec.pre6 enc Try.prog Try.f5 Rows.resolveMomentumRow.domain false) (Rows.resolveMomentumSpec.post enc Try.prog Try.f5 false true false false) := by
  refine returnsInHanded_of_change (C := Try.checked) own started (by kernel_rfl) Try.func5
    (ChangeSpec.witness6 (enc := enc) (C := Try.checked) false ⟨#[], #[.slice none 0 0, .slice none 0 0, .slice none 0 0, .int .i64 0, .int .i64 0], []⟩ 8 (by kernel_rfl) (by kernel_rfl) (by kernel_rfl) (by kernel_rfl)) ?_
  intro W base args ds gs before hval0 hW hcnd _
  have hval : ∀ (j : Nat) t v, Try.f5.params[j]? = some t → args[j]? = some v → Value.okWide Try.prog W .any base t v := hval0
  have hW' := hW
  obtain ⟨p, q, hA0, hV, rfl, hfz, hnd⟩ := hW
  have hA : DataW.TrodAll enc Try.prog W 0 (fun _ => true) true Try.f5.params.toList args.toList ds p := hA0
  rw [Try.params5] at hA hval
  have hAk := hA
  obtain ⟨v0, vs0, d0, ds0, p0, q0, hargs, rfl, hp0, h0, r0⟩ := trodAll_cons hA
  obtain ⟨v1, vs1, d1, ds1, p1, q1, rfl, rfl, hp1, h1, r1⟩ := trodAll_cons r0
  obtain ⟨v2, vs2, d2, ds2, p2, q2, rfl, rfl, hp2, h2, r2⟩ := trodAll_cons r1
  obtain ⟨v3, vs3, d3, ds3, p3, q3, rfl, rfl, hp3, h3, r3⟩ := trodAll_cons r2
  obtain ⟨v4, vs4, d4, ds4, p4, q4, rfl, rfl, hp4, h4, r4⟩ := trodAll_cons r3
  obtain ⟨rfl, rfl, -⟩ := trodAll_nil r4
  obtain rfl : args = #[v0, v1, v2, v3, v4] := by cases args; simp_all
  obtain ⟨rfl, rfl⟩ := trodVars_none hV
  obtain ⟨x0, q0, c0, rfl⟩ := okWide_slice Try.underlying22 (hval 0 22 v0 rfl rfl)
  obtain ⟨fu0, fh0⟩ := h0
  obtain ⟨s0, Z0, l0, e0, H0⟩ := open_int_cells Try.underlying22 Try.underlying3 (by kernel_rfl) fh0
  simp only [Value.cells, List.cons.injEq, and_true] at e0
  obtain rfl := e0.symm
  obtain ⟨x1, q1, c1, rfl⟩ := okWide_slice Try.underlying22 (hval 1 22 v1 rfl rfl)
  obtain ⟨fu1, fh1⟩ := h1
  obtain ⟨s1, Z1, l1, e1, H1⟩ := open_int_cells Try.underlying22 Try.underlying3 (by kernel_rfl) fh1
  simp only [Value.cells, List.cons.injEq, and_true] at e1
  obtain rfl := e1.symm
  obtain ⟨x2, q2, c2, rfl⟩ := okWide_slice Try.underlying22 (hval 2 22 v2 rfl rfl)
  obtain ⟨fu2, fh2⟩ := h2
  obtain ⟨s2, Z2, l2, e2, H2⟩ := open_int_cells Try.underlying22 Try.underlying3 (by kernel_rfl) fh2
  simp only [Value.cells, List.cons.injEq, and_true] at e2
  obtain rfl := e2.symm
  obtain ⟨a3, rfl, -, -, w3⟩ := open_int Try.underlying3 (hval 3 3 v3 rfl rfl) h3
  obtain ⟨a4, rfl, -, -, w4⟩ := open_int Try.underlying3 (hval 4 3 v4 rfl rfl) h4
  clear hA0 hval0
  simp only [List.append_nil] at hW'
  refine (walk W _ Z0 l0 H0 _ Z1 l1 H1 _ Z2 l2 H2 a3 w3 a4 w4).mono fun e W' ⟨he, hb⟩ => ?_
  subst he
  exact ⟨_, rfl, kept_post (pa := p) hW' (fun _ _ _ => (trodAll_cons_mk (shut_bool Try.underlying4 _) trodAll_mk0)) (fun sp hsp => trodAll_stays laid hb (by rw [Try.params5]; decide +kernel) hAk (fun x hx => hW'.lt x hx) hsp) (fun _ => rfl) hb (ok_one (by kernel_rfl) rfl (okWide_bool_mk Try.underlying4 _))⟩

theorem over : Rows.resolveMomentumRow.holds Try.pinned (OpenSpec.ofChange Rows.resolveMomentumSpec) :=
  OpenClaim.holds_of_wide 5 Try.f5 rfl rfl rfl rfl rfl rfl rfl ⟨rfl, rfl, rfl, rfl, rfl⟩ rfl rfl rfl rfl rfl (by kernel_rfl) Try.func5 (by kernel_rfl)
    (of_decide_eq_true (by kernel_rfl)) (by unfold Func.isWrapper; first | (rw [if_pos (by decide +kernel)]; kernel_rfl) | (rw [if_neg (by decide +kernel)]; exact ⟨rfl, rfl⟩))
    (fun os started H enc _ => lifted os started H enc)

theorem proved : Rows.ResolveMomentumSaid :=
  over
#print axioms proved
end Go.Proofs.Ytihoanoanoaneaa.resolveMomentum
