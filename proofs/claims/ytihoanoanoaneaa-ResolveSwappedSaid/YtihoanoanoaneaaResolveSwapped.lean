/-
  package resolve, P7.2 and P7.3: for a normal along an axis, exchanging the bodies and negating the normal exchanges the results, for all motions, depths and restitutions made of numbers; and the section's example holds; whatever the arguments are.
-/
import Derived.Test.YtihoanoanoaneaaRows
import Derived.WalkKit
import Derived.ProofKit
import Derived.OpenShut
import Derived.Test.YtihoanoanoaneaaOpen
import Derived.Test.YtihoanoanoaneaaResI
import Derived.Test.YtihoanoanoaneaaResL
import Derived.Deep.QuietTactic
import Derived.Deep.RegionHeld3
import Derived.Deep.DeepCutAuto
import Derived.Deep.CutBlock
namespace Go.Proofs.Ytihoanoanoaneaa.resolveSwapped
open Go.ChangeShapes Go.WideShapes Go.ChangeAt Go.RowKit
set_option linter.unusedVariables false
set_option linter.unusedSimpArgs false

open Fxm
def zO : Obj := (.cells #[.int .i64 0, .int .i64 0, .int .i64 0, .int .i64 0, .int .i64 0] 26)
theorem z_cells {W : World} {k : Nat} (h : W.heap[k]? = some (.cells #[.int .i64 0, .int .i64 0, .int .i64 0, .int .i64 0, .int .i64 0] 26)) :
    W.cell? ⟨k, 0, none⟩ = some (.int .i64 0) ∧ W.cell? ⟨k, 1, none⟩ = some (.int .i64 0) ∧ W.cell? ⟨k, 2, none⟩ = some (.int .i64 0) ∧ W.cell? ⟨k, 3, none⟩ = some (.int .i64 0) ∧ W.cell? ⟨k, 4, none⟩ = some (.int .i64 0) ∧ (∀ i, W.frozen? ⟨k, i, none⟩ = false) ∧ k < W.heap.size :=
  ⟨heap_cell h 0, heap_cell h 1, heap_cell h 2, heap_cell h 3, heap_cell h 4, heap_frozen h, hlt h⟩
theorem new_two (w : World) (O O' : Obj) : ((w.alloc O).alloc O').heap[w.heap.size + 1]? = some O' := by
  have := new_at (w.alloc O) O'
  rwa [World.size_alloc] at this
theorem c_new (w : World) (b : Mo) : (w.alloc (.cells #[.int .i64 b.p0, .int .i64 b.p1, .int .i64 b.v0, .int .i64 b.v1, .int .i64 b.m] 26)).heap[w.heap.size]? = some (motO 26 b) := new_at w _
theorem c_old (w : World) (b c : Mo) : ((w.alloc (.cells #[.int .i64 b.p0, .int .i64 b.p1, .int .i64 b.v0, .int .i64 b.v1, .int .i64 b.m] 26)).alloc (.cells #[.int .i64 c.p0, .int .i64 c.p1, .int .i64 c.v0, .int .i64 c.v1, .int .i64 c.m] 26)).heap[w.heap.size]? = some (motO 26 b) := old_at _ (new_at w _)
theorem c_two (w : World) (b c : Mo) : ((w.alloc (.cells #[.int .i64 b.p0, .int .i64 b.p1, .int .i64 b.v0, .int .i64 b.v1, .int .i64 b.m] 26)).alloc (.cells #[.int .i64 c.p0, .int .i64 c.p1, .int .i64 c.v0, .int .i64 c.v1, .int .i64 c.m] 26)).heap[w.heap.size + 1]? = some (motO 26 c) := new_two w _ _
theorem c_set {W : World} {B : Nat} (h : W.heap[B]? = some (.cells #[.int .i64 0, .int .i64 0, .int .i64 0, .int .i64 0, .int .i64 0] 26)) (b : Mo) : (((((W.setCell ⟨B, 0, none⟩ (.int .i64 b.p0)).setCell ⟨B, 1, none⟩ (.int .i64 b.p1)).setCell ⟨B, 2, none⟩ (.int .i64 b.v0)).setCell ⟨B, 3, none⟩ (.int .i64 b.v1)).setCell ⟨B, 4, none⟩ (.int .i64 b.m)).heap[B]? = some (motO 26 b) := mo_all (a := ⟨0, 0, 0, 0, 0⟩) h b
theorem c_setA {W : World} {B : Nat} (h : W.heap[B]? = some (.cells #[.int .i64 0, .int .i64 0, .int .i64 0, .int .i64 0, .int .i64 0] 26)) (b c : Mo) : ((((((W.setCell ⟨B, 0, none⟩ (.int .i64 b.p0)).setCell ⟨B, 1, none⟩ (.int .i64 b.p1)).setCell ⟨B, 2, none⟩ (.int .i64 b.v0)).setCell ⟨B, 3, none⟩ (.int .i64 b.v1)).setCell ⟨B, 4, none⟩ (.int .i64 b.m)).alloc (.cells #[.int .i64 c.p0, .int .i64 c.p1, .int .i64 c.v0, .int .i64 c.v1, .int .i64 c.m] 26)).heap[B]? = some (motO 26 b) := old_at _ (c_set h b)
theorem size_set5 (W : World) (B : Nat) (b : Mo) : (((((W.setCell ⟨B, 0, none⟩ (.int .i64 b.p0)).setCell ⟨B, 1, none⟩ (.int .i64 b.p1)).setCell ⟨B, 2, none⟩ (.int .i64 b.v0)).setCell ⟨B, 3, none⟩ (.int .i64 b.v1)).setCell ⟨B, 4, none⟩ (.int .i64 b.m)).heap.size = W.heap.size := by simp [World.setCell]
theorem c_new5 (W : World) (B : Nat) (b c : Mo) : ((((((W.setCell ⟨B, 0, none⟩ (.int .i64 b.p0)).setCell ⟨B, 1, none⟩ (.int .i64 b.p1)).setCell ⟨B, 2, none⟩ (.int .i64 b.v0)).setCell ⟨B, 3, none⟩ (.int .i64 b.v1)).setCell ⟨B, 4, none⟩ (.int .i64 b.m)).alloc (.cells #[.int .i64 c.p0, .int .i64 c.p1, .int .i64 c.v0, .int .i64 c.v1, .int .i64 c.m] 26)).heap[W.heap.size]? = some (motO 26 c) := by
  have := new_at (((((W.setCell ⟨B, 0, none⟩ (.int .i64 b.p0)).setCell ⟨B, 1, none⟩ (.int .i64 b.p1)).setCell ⟨B, 2, none⟩ (.int .i64 b.v0)).setCell ⟨B, 3, none⟩ (.int .i64 b.v1)).setCell ⟨B, 4, none⟩ (.int .i64 b.m)) (motO 26 c)
  rw [size_set5] at this
  exact this
theorem c_set1 {W : World} {B B' : Nat} (h : W.heap[B]? = some (.cells #[.int .i64 0, .int .i64 0, .int .i64 0, .int .i64 0, .int .i64 0] 26)) (hn : B ≠ B') (b c : Mo) : ((((((((((W.setCell ⟨B, 0, none⟩ (.int .i64 b.p0)).setCell ⟨B, 1, none⟩ (.int .i64 b.p1)).setCell ⟨B, 2, none⟩ (.int .i64 b.v0)).setCell ⟨B, 3, none⟩ (.int .i64 b.v1)).setCell ⟨B, 4, none⟩ (.int .i64 b.m)).setCell ⟨B', 0, none⟩ (.int .i64 c.p0)).setCell ⟨B', 1, none⟩ (.int .i64 c.p1)).setCell ⟨B', 2, none⟩ (.int .i64 c.v0)).setCell ⟨B', 3, none⟩ (.int .i64 c.v1)).setCell ⟨B', 4, none⟩ (.int .i64 c.m)).heap[B]? = some (motO 26 b) := mo_keep5 B' c (c_set h b) hn
theorem c_set2 {W : World} {B B' : Nat} (h : W.heap[B']? = some (.cells #[.int .i64 0, .int .i64 0, .int .i64 0, .int .i64 0, .int .i64 0] 26)) (hn : B' ≠ B) (b c : Mo) : ((((((((((W.setCell ⟨B, 0, none⟩ (.int .i64 b.p0)).setCell ⟨B, 1, none⟩ (.int .i64 b.p1)).setCell ⟨B, 2, none⟩ (.int .i64 b.v0)).setCell ⟨B, 3, none⟩ (.int .i64 b.v1)).setCell ⟨B, 4, none⟩ (.int .i64 b.m)).setCell ⟨B', 0, none⟩ (.int .i64 c.p0)).setCell ⟨B', 1, none⟩ (.int .i64 c.p1)).setCell ⟨B', 2, none⟩ (.int .i64 c.v0)).setCell ⟨B', 3, none⟩ (.int .i64 c.v1)).setCell ⟨B', 4, none⟩ (.int .i64 c.m)).heap[B']? = some (motO 26 c) := c_set (mo_keep5 B b h hn) c
theorem own : ownKnob Try.prog.godebug = none := by kernel_rfl
theorem laid : laidOutB Try.prog = true := by kernel_rfl

set_option maxRecDepth 100000 in
set_option maxHeartbeats 8000000 in
theorem walk (w : World) (s0 : Value) (Z0 : Nat → Int) (l0 : Nat) (H0 : IntsAt w s0 1 Z0 l0) (s1 : Value) (Z1 : Nat → Int) (l1 : Nat) (H1 : IntsAt w s1 1 Z1 l1) (a2 : Int) (w2 : (Lit.int .i64 a2).wf = true) (a3 : Int) (w3 : (Lit.int .i64 a3).wf = true) (a4 : Int) (w4 : (Lit.int .i64 a4).wf = true) :
    Calls Try.prog 6 #[s0, s1, .int .i64 a2, .int .i64 a3, .int .i64 a4] w fun e w' => e = .returned (.bool true) ∧ Below w.heap.size w w' := by
  obtain ⟨b1, b2⟩ := wf64' w4
  have ke := Lib.hid (fun W => aroundx_any a4 1025 W b1 b2 (by omega))
  obtain ⟨b3, b4⟩ := wf64' w2
  have kx := Lib.hid (fun W => axis_any a2 W b3 b4)
  obtain ⟨b5, b6⟩ := wf64' w3
  have kd := Lib.hid (fun W => aroundx_any a3 1048577 W b5 b6 (by omega))
  have I0 := Lib.hid H0
  have I1 := Lib.hid H1
  clear H0 H1 b1 b2 b3 b4 b5 b6
  have hB := Lib.hid (Below.refl w.heap.size w)
  go_enter Try.func6, Try.ntmps6
  go_wp2_with fail
  refine (motion_any _ _ _ _ I0.out).mono ?_
  rintro e u1 ⟨⟨x, hx, rfl⟩, hb⟩
  have hx' := Lib.hid hx
  clear hx I0
  skip
  skip
  replace I1 := Lib.hid (I1.out.carry (hb))
  replace hB := Lib.hid (below_step hB.out hb)
  clear hb
  go_upto_region 2 with fail
  have hwA := Lib.hid hB.out.size
  have hn := new_at u1 (motO 26 x)
  have hbn := alloc_below u1 (motO 26 x)
  obtain ⟨V1, hV⟩ : ∃ V, V = u1.alloc (motO 26 x) := ⟨_, rfl⟩
  rw [← hV] at hn hbn
  rw [show u1.alloc (.cells #[.int .i64 x.p0, .int .i64 x.p1, .int .i64 x.v0, .int .i64 x.v1, .int .i64 x.m] 26) = V1 from hV.symm]
  have gA := Lib.hid hn
  clear hn hV
  skip
  skip
  replace I1 := Lib.hid (I1.out.carry (hbn))
  replace hB := Lib.hid (below_step hB.out hbn)
  clear hbn
  generalize u1.heap.size = A at *
  go_wp2_with fail
  refine (motion_any _ _ _ _ I1.out).mono ?_
  rintro e u2 ⟨⟨y, hy, rfl⟩, hb⟩
  have hy' := Lib.hid hy
  clear hy I1
  skip
  replace gA := Lib.hid (hcarry (hb) gA.out)
  skip
  replace hB := Lib.hid (below_step hB.out hb)
  clear hb
  go_upto_region 3 with fail
  have nAB := hlt gA.out
  have hn := new_at u2 (motO 26 y)
  have hbn := alloc_below u2 (motO 26 y)
  obtain ⟨V2, hV⟩ : ∃ V, V = u2.alloc (motO 26 y) := ⟨_, rfl⟩
  rw [← hV] at hn hbn
  rw [show u2.alloc (.cells #[.int .i64 y.p0, .int .i64 y.p1, .int .i64 y.v0, .int .i64 y.v1, .int .i64 y.m] 26) = V2 from hV.symm]
  have gB := Lib.hid hn
  clear hn hV
  skip
  replace gA := Lib.hid (hcarry (hbn) gA.out)
  skip
  replace hB := Lib.hid (below_step hB.out hbn)
  clear hbn
  generalize u2.heap.size = B at *
  go_wp2_with fail
  refine (kx.out _).mono ?_
  rintro e u3 ⟨⟨n0, n1, hn, rfl⟩, hb⟩
  have hn' := Lib.hid hn
  clear hn kx
  skip
  replace gA := Lib.hid (hcarry (hb) gA.out)
  replace gB := Lib.hid (hcarry (hb) gB.out)
  skip
  replace hB := Lib.hid (below_step hB.out hb)
  clear hb
  go_upto_region 4 with fail
  have hn := new_at u3 (vecO 24 n0 n1)
  have hbn := alloc_below u3 (vecO 24 n0 n1)
  obtain ⟨V3, hV⟩ : ∃ V, V = u3.alloc (vecO 24 n0 n1) := ⟨_, rfl⟩
  rw [← hV] at hn hbn
  rw [show u3.alloc (.cells #[.int .i64 n0, .int .i64 n1] 24) = V3 from hV.symm]
  have gC := Lib.hid hn
  clear hn hV
  skip
  replace gA := Lib.hid (hcarry (hbn) gA.out)
  replace gB := Lib.hid (hcarry (hbn) gB.out)
  skip
  replace hB := Lib.hid (below_step hB.out hbn)
  clear hbn
  generalize u3.heap.size = C at *
  go_wp2_with fail
  refine (kd.out _).mono ?_
  rintro e _ ⟨⟨d, d1, d2, rfl⟩, rfl⟩
  have hd' := Lib.hid (And.intro d1 (show d ≤ 1048576 by omega))
  clear d1 d2 kd
  go_wp2_with fail
  refine (ke.out _).mono ?_
  rintro e _ ⟨⟨r, r1, r2, rfl⟩, rfl⟩
  have hr' := Lib.hid (And.intro r1 (show r ≤ 1024 by omega))
  clear r1 r2 ke
  obtain ⟨RA, hRA⟩ : ∃ R, resA x y n0 n1 d r = R := ⟨_, rfl⟩
  obtain ⟨RB, hRB⟩ : ∃ R, resB x y n0 n1 d r = R := ⟨_, rfl⟩
  have hsw := res_swap (a := x) (b := y) (d := d) (e := r) hn'.out
  rw [hRA, hRB] at hsw
  have k1 := fun W => resolve_any x y n0 n1 d r W hx'.out hy'.out hn'.out.bd.1 hn'.out.bd.2 hd'.out hr'.out RA RB hRA hRB
  have k2 := fun W => resolve_any y x (-n0) (-n1) d r W hy'.out hx'.out hn'.out.neg.bd.1 hn'.out.neg.bd.2 hd'.out hr'.out RB RA hsw.2.symm hsw.1.symm
  have k3 := fun W => neg_any n0 n1 W (by have := hn'.out.bd; unfold Bd; omega) (by have := hn'.out.bd; unfold Bd; omega)
  generalize -n0 = m0 at *
  generalize -n1 = m1 at *
  have K := Lib.hid (And.intro k1 (And.intro k2 k3))
  clear k1 k2 k3 hsw hRA hRB
  obtain ⟨a0, a1, a2, a3, a4⟩ := mo_cells gA.out
  obtain ⟨b0, b1, b2, b3, b4⟩ := mo_cells gB.out
  obtain ⟨c0, c1⟩ := vec_cells gC.out
  go_wp2_with fail
  refine (K.out.1 _).mono ?_
  rintro e u4 ⟨rfl, hb⟩
  clear a0 a1 a2 a3 a4 b0 b1 b2 b3 b4 c0 c1
  skip
  replace gA := Lib.hid (hcarry (hb) gA.out)
  replace gB := Lib.hid (hcarry (hb) gB.out)
  replace gC := Lib.hid (hcarry (hb) gC.out)
  skip
  replace hB := Lib.hid (below_step hB.out hb)
  clear hb
  go_upto_region 7 with fail
  have hn := old_at (motO 26 RB) (new_at u4 (motO 26 RA))
  have hm := new_at (u4.alloc (motO 26 RA)) (motO 26 RB)
  rw [World.size_alloc] at hm
  have hbn := below_step (alloc_below u4 (motO 26 RA)) (alloc_below (u4.alloc (motO 26 RA)) (motO 26 RB))
  obtain ⟨V4, hV⟩ : ∃ V, V = (u4.alloc (motO 26 RA)).alloc (motO 26 RB) := ⟨_, rfl⟩
  rw [← hV] at hn hm hbn
  rw [show (u4.alloc (.cells #[.int .i64 RA.p0, .int .i64 RA.p1, .int .i64 RA.v0, .int .i64 RA.v1, .int .i64 RA.m] 26)).alloc (.cells #[.int .i64 RB.p0, .int .i64 RB.p1, .int .i64 RB.v0, .int .i64 RB.v1, .int .i64 RB.m] 26) = V4 from hV.symm]
  have gP := Lib.hid hn
  have gQ := Lib.hid hm
  clear hn hm hV
  skip
  replace gA := Lib.hid (hcarry (hbn) gA.out)
  replace gB := Lib.hid (hcarry (hbn) gB.out)
  replace gC := Lib.hid (hcarry (hbn) gC.out)
  skip
  replace hB := Lib.hid (below_step hB.out hbn)
  clear hbn
  generalize u4.heap.size = P at *
  have nPQ : P < P + 1 := Nat.lt_succ_self _
  generalize P + 1 = Q at *
  have mk := Lib.hid (show ∀ w', Below V4.heap.size V4 w' → (w'.cell? ⟨A, 0, none⟩ = some (.int .i64 x.p0) ∧ w'.cell? ⟨A, 1, none⟩ = some (.int .i64 x.p1) ∧ w'.cell? ⟨A, 2, none⟩ = some (.int .i64 x.v0) ∧ w'.cell? ⟨A, 3, none⟩ = some (.int .i64 x.v1) ∧ w'.cell? ⟨A, 4, none⟩ = some (.int .i64 x.m) ∧ w'.cell? ⟨B, 0, none⟩ = some (.int .i64 y.p0) ∧ w'.cell? ⟨B, 1, none⟩ = some (.int .i64 y.p1) ∧ w'.cell? ⟨B, 2, none⟩ = some (.int .i64 y.v0) ∧ w'.cell? ⟨B, 3, none⟩ = some (.int .i64 y.v1) ∧ w'.cell? ⟨B, 4, none⟩ = some (.int .i64 y.m) ∧ w'.cell? ⟨C, 0, none⟩ = some (.int .i64 n0) ∧ w'.cell? ⟨C, 1, none⟩ = some (.int .i64 n1) ∧ Below V4.heap.size V4 w') from fun w' h => by
    obtain ⟨c0, c1, c2, c3, c4⟩ := mo_cells (hcarry h gA.out)
    obtain ⟨d0, d1, d2, d3, d4⟩ := mo_cells (hcarry h gB.out)
    obtain ⟨e0, e1⟩ := vec_cells (hcarry h gC.out)
    exact ⟨c0, c1, c2, c3, c4, d0, d1, d2, d3, d4, e0, e1, h⟩)
  have b0 : Below V4.heap.size V4 V4.drew := (Below.refl _ V4).drew
  have b1 : ∀ O, Below V4.heap.size V4 (V4.drew.alloc O) := fun O => below_step b0 (alloc_below _ O)
  have b2 : ∀ O O', Below V4.heap.size V4 ((V4.drew.alloc O).alloc O') := fun O O' => below_step (b1 O) (alloc_below _ O')
  have b3 : ∀ O, Below V4.heap.size V4 (V4.alloc O).drew := fun O => (alloc_below _ O).drew
  have b4 : ∀ O O', Below V4.heap.size V4 ((V4.alloc O).alloc O').drew := fun O O' => (below_step (alloc_below _ O) (alloc_below _ O')).drew
  have h3 := Lib.hid (show ∀ O, ((V4.alloc O).drew).heap[V4.heap.size]? = some O from fun O => new_at V4 O)
  have h4 := Lib.hid (show ∀ O O', (((V4.alloc O).alloc O').drew).heap[V4.heap.size]? = some O from fun O O' => old_at O' (new_at V4 O))
  have h6 := Lib.hid (show ∀ O O', (((V4.alloc O).alloc O').drew).heap[V4.heap.size + 1]? = some O' from fun O O' => new_two V4 O O')
  go_cut [18, 19] (fun p q W => ∃ G H, p = .pointer (some ⟨G, 0, none⟩) ∧ q = .pointer (some ⟨H, 0, none⟩) ∧ W.heap[G]? = some (motO 26 RB) ∧ W.heap[H]? = some (motO 26 RA) ∧ Below V4.heap.size V4 W)
  case first =>
    go_region_held3 (fun w' => w'.cell? ⟨A, 0, none⟩ = some (.int .i64 x.p0) ∧ w'.cell? ⟨A, 1, none⟩ = some (.int .i64 x.p1) ∧ w'.cell? ⟨A, 2, none⟩ = some (.int .i64 x.v0) ∧ w'.cell? ⟨A, 3, none⟩ = some (.int .i64 x.v1) ∧ w'.cell? ⟨A, 4, none⟩ = some (.int .i64 x.m) ∧ w'.cell? ⟨B, 0, none⟩ = some (.int .i64 y.p0) ∧ w'.cell? ⟨B, 1, none⟩ = some (.int .i64 y.p1) ∧ w'.cell? ⟨B, 2, none⟩ = some (.int .i64 y.v0) ∧ w'.cell? ⟨B, 3, none⟩ = some (.int .i64 y.v1) ∧ w'.cell? ⟨B, 4, none⟩ = some (.int .i64 y.m) ∧ w'.cell? ⟨C, 0, none⟩ = some (.int .i64 n0) ∧ w'.cell? ⟨C, 1, none⟩ = some (.int .i64 n1) ∧ Below V4.heap.size V4 w')
      (with_reducible refine mk.out _ ?_; (repeat (first | with_reducible exact B8 | with_reducible exact B6 | with_reducible exact b0 | with_reducible exact Below.refl _ _ | with_reducible refine Below.drew ?_ | with_reducible refine Below.setCell ?_ (by first | with_reducible exact Nat.le_refl _ | with_reducible exact Nat.le_succ _ | with_reducible exact B6.size | with_reducible exact Nat.le_succ_of_le B6.size | with_reducible exact B8.size | with_reducible exact Nat.le_succ_of_le B8.size) _ | with_reducible refine Below.alloc ?_ (by first | with_reducible exact Nat.le_refl _ | with_reducible exact B6.size | with_reducible exact B8.size | (simp [World.setCell]; done) | (simp [World.setCell]; first | with_reducible exact B8.size | with_reducible exact Nat.le_succ_of_le B8.size | with_reducible exact B6.size | with_reducible exact Nat.le_succ_of_le B6.size | omega)) _)))
      (first
        | (go_at_call 12; with_reducible refine (K.out.2.1 _).mono ?_; rintro e w8 ⟨rfl, hb8⟩; have B8 : Below V4.heap.size V4 w8 := (by first | with_reducible exact below_step B6 hb8 | with_reducible exact below_step (below_step B6 (alloc_below _ _)) hb8 | with_reducible exact below_step (below_step (below_step B6 (alloc_below _ _)) (alloc_below _ _)) hb8); have B68 : Below w6.heap.size w6 w8 := (by first | with_reducible exact hb8 | with_reducible exact below_step (alloc_below _ _) hb8 | with_reducible exact below_step (below_step (alloc_below _ _) (alloc_below _ _)) hb8); (try (with_reducible have n8a := hcarry B68 n6a; obtain ⟨p0, p1, p2, p3, p4, pf, pl⟩ := z_cells n8a)); (try (with_reducible have n8b := hcarry B68 n6b; obtain ⟨q0, q1, q2, q3, q4, qf, ql⟩ := z_cells n8b)); (try (with_reducible have n8c := hcarry hb8 (new_at w6 _); obtain ⟨r0, r1, r2, r3, r4, rf, rl⟩ := z_cells n8c)); (try (with_reducible have n8c := hcarry hb8 (old_at _ (new_at w6 _)); obtain ⟨r0, r1, r2, r3, r4, rf, rl⟩ := z_cells n8c)); (try (with_reducible have n8d := hcarry hb8 (new_two w6 _ _); obtain ⟨s0, s1, s2, s3, s4, sf, sl⟩ := z_cells n8d)); dsimp only)
        | (go_at_call 21; with_reducible refine (K.out.2.2 _).mono ?_; rintro e w6 ⟨rfl, hb6⟩; have B6 : Below V4.heap.size V4 w6 := (by first | with_reducible exact below_step b0 hb6 | with_reducible exact below_step (b1 _) hb6 | with_reducible exact below_step (b2 _ _) hb6 | with_reducible exact below_step (b3 _) hb6 | with_reducible exact below_step (b4 _ _) hb6); (try (with_reducible have n6a := hcarry hb6 (h3.out _))); (try (with_reducible have n6a := hcarry hb6 (h4.out _ _))); (try (with_reducible have n6b := hcarry hb6 (h6.out _ _))); (try (have l6a := hlt n6a)); (try (have l6b := hlt n6b)); dsimp only))
    all_goals
      rename_i hHeld
      have hHB := Lib.hid hHeld.2.2.2.2.2.2.2.2.2.2.2.2
      clear hHeld
      go_wp2_with fail
      go_meet
      refine ⟨_, _, rfl, rfl, ?_, ?_, hHB.out⟩
      · first | with_reducible exact c_new _ _ | with_reducible exact c_old _ _ _ | with_reducible exact c_two _ _ _ | with_reducible exact c_new5 _ _ _ _ | with_reducible exact c_setA n8a _ _ | with_reducible exact c_set1 n8a (by omega) _ _ | with_reducible exact c_set2 n8a (by omega) _ _ | with_reducible exact c_setA n8b _ _ | with_reducible exact c_set1 n8b (by omega) _ _ | with_reducible exact c_set2 n8b (by omega) _ _ | with_reducible exact c_setA n8c _ _ | with_reducible exact c_set1 n8c (by omega) _ _ | with_reducible exact c_set2 n8c (by omega) _ _ | with_reducible exact c_setA n8d _ _ | with_reducible exact c_set1 n8d (by omega) _ _ | with_reducible exact c_set2 n8d (by omega) _ _
      · first | with_reducible exact c_new _ _ | with_reducible exact c_old _ _ _ | with_reducible exact c_two _ _ _ | with_reducible exact c_new5 _ _ _ _ | with_reducible exact c_setA n8a _ _ | with_reducible exact c_set1 n8a (by omega) _ _ | with_reducible exact c_set2 n8a (by omega) _ _ | with_reducible exact c_setA n8b _ _ | with_reducible exact c_set1 n8b (by omega) _ _ | with_reducible exact c_set2 n8b (by omega) _ _ | with_reducible exact c_setA n8c _ _ | with_reducible exact c_set1 n8c (by omega) _ _ | with_reducible exact c_set2 n8c (by omega) _ _ | with_reducible exact c_setA n8d _ _ | with_reducible exact c_set1 n8d (by omega) _ _ | with_reducible exact c_set2 n8d (by omega) _ _
  obtain ⟨G, H, rfl, rfl, hG, hH, hb⟩ := hcut
  obtain ⟨V9, hV9⟩ : ∃ V, V = wc := ⟨wc, rfl⟩
  subst hV9
  have gG := Lib.hid hG
  have gH := Lib.hid hH
  clear hG hH mk b0 b1 b2 b3 b4 h3 h4 h6
  skip
  replace gP := Lib.hid (hcarry (hb) gP.out)
  replace gQ := Lib.hid (hcarry (hb) gQ.out)
  skip
  replace hB := Lib.hid (below_step hB.out hb)
  clear hb
  obtain ⟨a0, a1, a2, a3, a4⟩ := mo_cells gP.out
  obtain ⟨b0, b1, b2, b3, b4⟩ := mo_cells gQ.out
  obtain ⟨p0, p1, p2, p3, p4⟩ := mo_cells gG.out
  obtain ⟨q0, q1, q2, q3, q4⟩ := mo_cells gH.out
  go_wp2_with fail
  refine (lives7_any _).mono ?_
  rintro e u9 ⟨rfl, hb⟩
  go_wp2
  go_ret
  exact ⟨rfl, below_step hB.out hb⟩

set_option maxRecDepth 100000 in
theorem lifted (os : Os) (started : os.Started) (H : Type) (enc : TypeId × Value → H) :
    ReturnsInHanded {} Try.checked os 6 .any (Rows.resolveSwappedSpec.pre6 enc Try.prog Try.f6 Rows.resolveSwappedRow.domain false) (Rows.resolveSwappedSpec.post enc Try.prog Try.f6 false true false false) := by
  refine returnsInHanded_of_change (C := Try.checked) own started (by kernel_rfl) Try.func6
    (ChangeSpec.witness6 (enc := enc) (C := Try.checked) false ⟨#[], #[.slice none 0 0, .slice none 0 0, .int .i64 0, .int .i64 0, .int .i64 0], []⟩ 8 (by kernel_rfl) (by kernel_rfl) (by kernel_rfl) (by kernel_rfl)) ?_
  intro W base args ds gs before hval0 hW hcnd _
  have hval : ∀ (j : Nat) t v, Try.f6.params[j]? = some t → args[j]? = some v → Value.okWide Try.prog W .any base t v := hval0
  have hW' := hW
  obtain ⟨p, q, hA0, hV, rfl, hfz, hnd⟩ := hW
  have hA : DataW.TrodAll enc Try.prog W 0 (fun _ => true) true Try.f6.params.toList args.toList ds p := hA0
  rw [Try.params6] at hA hval
  have hAk := hA
  obtain ⟨v0, vs0, d0, ds0, p0, q0, hargs, rfl, hp0, h0, r0⟩ := trodAll_cons hA
  obtain ⟨v1, vs1, d1, ds1, p1, q1, rfl, rfl, hp1, h1, r1⟩ := trodAll_cons r0
  obtain ⟨v2, vs2, d2, ds2, p2, q2, rfl, rfl, hp2, h2, r2⟩ := trodAll_cons r1
  obtain ⟨v3, vs3, d3, ds3, p3, q3, rfl, rfl, hp3, h3, r3⟩ := trodAll_cons r2
  obtain ⟨v4, vs4, d4, ds4, p4, q4, rfl, rfl, hp4, h4, r4⟩ := trodAll_cons r3
  obtain ⟨rfl, rfl, -⟩ := trodAll_nil r4
  obtain rfl : args = #[v0, v1, v2, v3, v4] := by cases args; simp_all
  obtain ⟨rfl, rfl⟩ := trodVars_none hV
  obtain ⟨x0, q0, c0, rfl⟩ := okWide_slice Try.underlying22 (hval 0 22 v0 rfl rfl)
  obtain ⟨fu0, fh0⟩ := h0
  obtain ⟨s0, Z0, l0, e0, H0⟩ := open_int_cells Try.underlying22 Try.underlying3 (by kernel_rfl) fh0
  simp only [Value.cells, List.cons.injEq, and_true] at e0
  obtain rfl := e0.symm
  obtain ⟨x1, q1, c1, rfl⟩ := okWide_slice Try.underlying22 (hval 1 22 v1 rfl rfl)
  obtain ⟨fu1, fh1⟩ := h1
  obtain ⟨s1, Z1, l1, e1, H1⟩ := open_int_cells Try.underlying22 Try.underlying3 (by kernel_rfl) fh1
  simp only [Value.cells, List.cons.injEq, and_true] at e1
  obtain rfl := e1.symm
  obtain ⟨a2, rfl, -, -, w2⟩ := open_int Try.underlying3 (hval 2 3 v2 rfl rfl) h2
  obtain ⟨a3, rfl, -, -, w3⟩ := open_int Try.underlying3 (hval 3 3 v3 rfl rfl) h3
  obtain ⟨a4, rfl, -, -, w4⟩ := open_int Try.underlying3 (hval 4 3 v4 rfl rfl) h4
  clear hA0 hval0
  simp only [List.append_nil] at hW'
  refine (walk W _ Z0 l0 H0 _ Z1 l1 H1 a2 w2 a3 w3 a4 w4).mono fun e W' ⟨he, hb⟩ => ?_
  subst he
  exact ⟨_, rfl, kept_post (pa := p) hW' (fun _ _ _ => (trodAll_cons_mk (shut_bool Try.underlying4 _) trodAll_mk0)) (fun sp hsp => trodAll_stays laid hb (by rw [Try.params6]; decide +kernel) hAk (fun x hx => hW'.lt x hx) hsp) (fun _ => rfl) hb (ok_one (by kernel_rfl) rfl (okWide_bool_mk Try.underlying4 _))⟩

theorem over : Rows.resolveSwappedRow.holds Try.pinned (OpenSpec.ofChange Rows.resolveSwappedSpec) :=
  OpenClaim.holds_of_wide 6 Try.f6 rfl rfl rfl rfl rfl rfl rfl ⟨rfl, rfl, rfl, rfl, rfl⟩ rfl rfl rfl rfl rfl (by kernel_rfl) Try.func6 (by kernel_rfl)
    (of_decide_eq_true (by kernel_rfl)) (by unfold Func.isWrapper; first | (rw [if_pos (by decide +kernel)]; kernel_rfl) | (rw [if_neg (by decide +kernel)]; exact ⟨rfl, rfl⟩))
    (fun os started H enc _ => lifted os started H enc)

theorem proved : Rows.ResolveSwappedSaid :=
  over
#print axioms proved
end Go.Proofs.Ytihoanoanoaneaa.resolveSwapped
