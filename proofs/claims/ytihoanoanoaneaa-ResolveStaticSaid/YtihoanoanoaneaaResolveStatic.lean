/-
  package resolve, P7.1 and P7.5: for all motions, contacts and restitutions made of numbers, a body of inverse mass 0 does not change, bodies that part keep their velocities, and without penetration the positions and the inverse masses do not change; and the section's example holds; whatever the arguments are.
-/
import Derived.Test.YtihoanoanoaneaaRows
import Derived.WalkKit
import Derived.ProofKit
import Derived.OpenShut
import Derived.Test.YtihoanoanoaneaaOpen
import Derived.Test.YtihoanoanoaneaaResI
import Derived.Test.YtihoanoanoaneaaResL
import Derived.Deep.QuietTactic
namespace Go.Proofs.Ytihoanoanoaneaa.resolveStatic
open Go.ChangeShapes Go.WideShapes Go.ChangeAt Go.RowKit
set_option linter.unusedVariables false
set_option linter.unusedSimpArgs false

open Fxm
theorem own : ownKnob Try.prog.godebug = none := by kernel_rfl
theorem laid : laidOutB Try.prog = true := by kernel_rfl

set_option maxRecDepth 100000 in
set_option maxHeartbeats 8000000 in
theorem walk (w : World) (s0 : Value) (Z0 : Nat → Int) (l0 : Nat) (H0 : IntsAt w s0 1 Z0 l0) (s1 : Value) (Z1 : Nat → Int) (l1 : Nat) (H1 : IntsAt w s1 1 Z1 l1) (s2 : Value) (Z2 : Nat → Int) (l2 : Nat) (H2 : IntsAt w s2 1 Z2 l2) (a3 : Int) (w3 : (Lit.int .i64 a3).wf = true) :
    Calls Try.prog 4 #[s0, s1, s2, .int .i64 a3] w fun e w' => e = .returned (.bool true) ∧ Below w.heap.size w w' := by
  obtain ⟨b1, b2⟩ := wf64' w3
  have ke := Lib.hid (fun W => aroundx_any a3 1025 W b1 b2 (by omega))
  have I0 := Lib.hid H0
  have I1 := Lib.hid H1
  have I2 := Lib.hid H2
  clear H0 H1 H2 b1 b2
  have hB := Lib.hid (Below.refl w.heap.size w)
  go_enter Try.func4, Try.ntmps4
  go_wp2_with fail
  refine (motion_any _ _ _ _ I0.out).mono ?_
  rintro e u1 ⟨⟨x, hx, rfl⟩, hb⟩
  have hx' := Lib.hid hx
  clear hx I0
  skip
  skip
  replace I1 := Lib.hid (I1.out.carry (hb))
  replace hB := Lib.hid (below_step hB.out hb)
  clear hb
  go_upto_region 2 with fail
  have hwA := Lib.hid hB.out.size
  have hn := new_at u1 (motO 26 x)
  have hbn := alloc_below u1 (motO 26 x)
  obtain ⟨V1, hV⟩ : ∃ V, V = u1.alloc (motO 26 x) := ⟨_, rfl⟩
  rw [← hV] at hn hbn
  rw [show u1.alloc (.cells #[.int .i64 x.p0, .int .i64 x.p1, .int .i64 x.v0, .int .i64 x.v1, .int .i64 x.m] 26) = V1 from hV.symm]
  have gA := Lib.hid hn
  clear hn hV
  skip
  skip
  replace I1 := Lib.hid (I1.out.carry (hbn))
  replace hB := Lib.hid (below_step hB.out hbn)
  clear hbn
  generalize u1.heap.size = A at *
  go_wp2_with fail
  refine (motion_any _ _ _ _ I1.out).mono ?_
  rintro e u2 ⟨⟨y, hy, rfl⟩, hb⟩
  have hy' := Lib.hid hy
  clear hy I1
  skip
  replace gA := Lib.hid (hcarry (hb) gA.out)
  skip
  replace hB := Lib.hid (below_step hB.out hb)
  clear hb
  go_upto_region 3 with fail
  have nAB := hlt gA.out
  have hn := new_at u2 (motO 26 y)
  have hbn := alloc_below u2 (motO 26 y)
  obtain ⟨V2, hV⟩ : ∃ V, V = u2.alloc (motO 26 y) := ⟨_, rfl⟩
  rw [← hV] at hn hbn
  rw [show u2.alloc (.cells #[.int .i64 y.p0, .int .i64 y.p1, .int .i64 y.v0, .int .i64 y.v1, .int .i64 y.m] 26) = V2 from hV.symm]
  have gB := Lib.hid hn
  clear hn hV
  skip
  replace gA := Lib.hid (hcarry (hbn) gA.out)
  skip
  replace hB := Lib.hid (below_step hB.out hbn)
  clear hbn
  generalize u2.heap.size = B at *
  go_wp2_with fail
  refine (contact_any _ _ _ _ (I2.out.carry hB.out)).mono ?_
  rintro e u3 ⟨⟨n0, n1, d, hn0, hn1, hd, rfl⟩, hb⟩
  have hc' := Lib.hid (And.intro hn0 (And.intro hn1 hd))
  clear hn0 hn1 hd I2
  skip
  replace gA := Lib.hid (hcarry (hb) gA.out)
  replace gB := Lib.hid (hcarry (hb) gB.out)
  skip
  replace hB := Lib.hid (below_step hB.out hb)
  clear hb
  go_upto_region 4 with fail
  have nBC := hlt gB.out
  have hn := new_at u3 (conO 29 n0 n1 d)
  have hbn := alloc_below u3 (conO 29 n0 n1 d)
  obtain ⟨V3, hV⟩ : ∃ V, V = u3.alloc (conO 29 n0 n1 d) := ⟨_, rfl⟩
  rw [← hV] at hn hbn
  rw [show u3.alloc (.cells #[.int .i64 n0, .int .i64 n1, .int .i64 d] 29) = V3 from hV.symm]
  have gC := Lib.hid hn
  clear hn hV
  skip
  replace gA := Lib.hid (hcarry (hbn) gA.out)
  replace gB := Lib.hid (hcarry (hbn) gB.out)
  skip
  replace hB := Lib.hid (below_step hB.out hbn)
  clear hbn
  generalize u3.heap.size = C at *
  go_wp2_with fail
  refine (ke.out _).mono ?_
  rintro e _ ⟨⟨r, r1, r2, rfl⟩, rfl⟩
  have hr' := Lib.hid (And.intro r1 (show r ≤ 1024 by omega))
  clear r1 r2 ke
  obtain ⟨a0, a1, a2, a3, a4⟩ := mo_cells gA.out
  go_upto_region 6 with fail
  have nCD := hlt gC.out
  have nVD := hB.out.size
  have hn := new_at V3 (motO 26 x)
  have hbn := alloc_below V3 (motO 26 x)
  obtain ⟨V4, hV⟩ : ∃ V, V = V3.alloc (motO 26 x) := ⟨_, rfl⟩
  rw [← hV] at hn hbn
  rw [show V3.alloc (.cells #[.int .i64 x.p0, .int .i64 x.p1, .int .i64 x.v0, .int .i64 x.v1, .int .i64 x.m] 26) = V4 from hV.symm]
  have gD := Lib.hid hn
  clear hn hV
  skip
  replace gA := Lib.hid (hcarry (hbn) gA.out)
  replace gB := Lib.hid (hcarry (hbn) gB.out)
  replace gC := Lib.hid (hcarry (hbn) gC.out)
  skip
  replace hB := Lib.hid (below_step hB.out hbn)
  clear hbn
  generalize V3.heap.size = D at *
  have df := mo_frozen gD.out
  clear a0 a1 a2 a3 a4
  obtain ⟨d0, d1, d2, d3, d4⟩ := mo_cells gD.out
  go_upto_region 7 with fail
  obtain ⟨f, hf⟩ : ∃ f : Mo, f = { x with m := 0 } := ⟨_, rfl⟩
  have hfm : f.m = 0 := by rw [hf]
  have hfd : f.Dom := by rw [hf]; exact ⟨hx'.out.p0, hx'.out.p1, hx'.out.v0, hx'.out.v1, by simp only; omega⟩
  replace gD := mo_mass gD.out 0
  rw [← hf] at gD
  replace gD := Lib.hid gD
  skip
  replace gA := Lib.hid (oset (p := ⟨D, 4, none⟩) (v := .int .i64 0) gA.out (by simp only; omega))
  replace gB := Lib.hid (oset (p := ⟨D, 4, none⟩) (v := .int .i64 0) gB.out (by simp only; omega))
  replace gC := Lib.hid (oset (p := ⟨D, 4, none⟩) (v := .int .i64 0) gC.out (by simp only; omega))
  replace hB := Lib.hid (hB.out.setCell (p := ⟨D, 4, none⟩) (by simp only; omega) (.int .i64 0))
  clear d0 d1 d2 d3 d4 df hf
  generalize V4.setCell ⟨D, 4, none⟩ (.int .i64 0) = V5 at *
  have hff := Lib.hid (And.intro hfm hfd)
  clear hfm hfd
  obtain ⟨R1, hR1⟩ : ∃ R, resB f y n0 n1 d r = R := ⟨_, rfl⟩
  obtain ⟨R2, hR2⟩ : ∃ R, resA y f n0 n1 d r = R := ⟨_, rfl⟩
  obtain ⟨X1, hX1⟩ : ∃ R, resA x y n0 n1 d r = R := ⟨_, rfl⟩
  obtain ⟨Y1, hY1⟩ : ∃ R, resB x y n0 n1 d r = R := ⟨_, rfl⟩
  obtain ⟨X2, hX2⟩ : ∃ R, resA x y n0 n1 0 r = R := ⟨_, rfl⟩
  obtain ⟨Y2, hY2⟩ : ∃ R, resB x y n0 n1 0 r = R := ⟨_, rfl⟩
  have K := Lib.hid (And.intro (fun W => resolve_any f y n0 n1 d r W hff.out.2 hy'.out hc'.out.1 hc'.out.2.1 hc'.out.2.2 hr'.out f R1 (resA_still hff.out.2 hy'.out hff.out.1) hR1)
    (And.intro (fun W => resolve_any y f n0 n1 d r W hy'.out hff.out.2 hc'.out.1 hc'.out.2.1 hc'.out.2.2 hr'.out R2 f hR2 (resB_still hy'.out hff.out.2 hff.out.1))
    (And.intro (fun W => resolve_any x y n0 n1 d r W hx'.out hy'.out hc'.out.1 hc'.out.2.1 hc'.out.2.2 hr'.out X1 Y1 hX1 hY1)
    (fun W => resolve_any x y n0 n1 0 r W hx'.out hy'.out hc'.out.1 hc'.out.2.1 (by omega) hr'.out X2 Y2 hX2 hY2))))
  have hpart : 0 ≤ rvn x y n0 n1 → X1.v0 = x.v0 ∧ X1.v1 = x.v1 ∧ Y1.v0 = y.v0 ∧ Y1.v1 = y.v1 := fun h => by rw [← hX1, ← hY1]; exact res_parting hx'.out hy'.out h
  have hflat : X2.p0 = x.p0 ∧ X2.p1 = x.p1 ∧ Y2.p0 = y.p0 ∧ Y2.p1 = y.p1 := by rw [← hX2, ← hY2]; exact res_flat hx'.out hy'.out
  have hmass : X2.m = x.m ∧ Y2.m = y.m := by rw [← hX2, ← hY2]; exact ⟨resA_m _ _ _ _ _ _, resB_m _ _ _ _ _ _⟩
  have hpart' := Lib.hid hpart
  have hflat' := Lib.hid (And.intro hflat hmass)
  clear hR1 hR2 hX1 hY1 hX2 hY2 hpart hflat hmass hff hr'
  have kv1 := fun w => sub_any y.v0 y.v1 x.v0 x.v1 w (by have := hy'.out.v0; unfold Bd; omega) (by have := hy'.out.v1; unfold Bd; omega) (by have := hx'.out.v0; unfold Bd; omega) (by have := hx'.out.v1; unfold Bd; omega)
  have kv2 := fun w => dot_any (y.v0 - x.v0) (y.v1 - x.v1) n0 n1 w (by have := hx'.out.v0; have := hy'.out.v0; unfold Bd; omega) (by have := hx'.out.v1; have := hy'.out.v1; unfold Bd; omega) (by have := hc'.out.1; unfold Bd; omega) (by have := hc'.out.2.1; unfold Bd; omega)
  rw [show flr ((y.v0 - x.v0) * n0 + (y.v1 - x.v1) * n1) 1024 = rvn x y n0 n1 from rfl] at kv2
  have KV := Lib.hid (And.intro kv1 kv2)
  clear kv1 kv2
  obtain ⟨a0, a1, a2, a3, a4⟩ := mo_cells gD.out
  obtain ⟨b0, b1, b2, b3, b4⟩ := mo_cells gB.out
  obtain ⟨c0, c1, c2⟩ := con_cells gC.out
  go_wp2_with fail
  refine (K.out.1 _).mono ?_
  rintro e u4 ⟨rfl, hb⟩
  clear a0 a1 a2 a3 a4 b0 b1 b2 b3 b4 c0 c1 c2
  skip
  replace gA := Lib.hid (hcarry (hb) gA.out)
  replace gB := Lib.hid (hcarry (hb) gB.out)
  replace gC := Lib.hid (hcarry (hb) gC.out)
  replace gD := Lib.hid (hcarry (hb) gD.out)
  skip
  replace hB := Lib.hid (below_step hB.out hb)
  clear hb
  go_upto_region 8 with fail
  have hn := old_at (motO 26 R1) (new_at u4 (motO 26 f))
  have hm := new_at (u4.alloc (motO 26 f)) (motO 26 R1)
  rw [World.size_alloc] at hm
  have hbn := below_step (alloc_below u4 (motO 26 f)) (alloc_below (u4.alloc (motO 26 f)) (motO 26 R1))
  obtain ⟨V6, hV⟩ : ∃ V, V = (u4.alloc (motO 26 f)).alloc (motO 26 R1) := ⟨_, rfl⟩
  rw [← hV] at hn hm hbn
  rw [show (u4.alloc (.cells #[.int .i64 f.p0, .int .i64 f.p1, .int .i64 f.v0, .int .i64 f.v1, .int .i64 f.m] 26)).alloc (.cells #[.int .i64 R1.p0, .int .i64 R1.p1, .int .i64 R1.v0, .int .i64 R1.v1, .int .i64 R1.m] 26) = V6 from hV.symm]
  have gP := Lib.hid hn
  have gQ := Lib.hid hm
  clear hn hm hV
  skip
  replace gA := Lib.hid (hcarry (hbn) gA.out)
  replace gB := Lib.hid (hcarry (hbn) gB.out)
  replace gC := Lib.hid (hcarry (hbn) gC.out)
  replace gD := Lib.hid (hcarry (hbn) gD.out)
  skip
  replace hB := Lib.hid (below_step hB.out hbn)
  clear hbn
  generalize u4.heap.size = P at *
  have nPQ : P < P + 1 := Nat.lt_succ_self _
  generalize P + 1 = Q at *
  obtain ⟨a0, a1, a2, a3, a4⟩ := mo_cells gD.out
  obtain ⟨b0, b1, b2, b3, b4⟩ := mo_cells gB.out
  obtain ⟨c0, c1, c2⟩ := con_cells gC.out
  go_wp2_with fail
  refine (K.out.2.1 _).mono ?_
  rintro e u5 ⟨rfl, hb⟩
  clear a0 a1 a2 a3 a4 b0 b1 b2 b3 b4 c0 c1 c2
  skip
  replace gA := Lib.hid (hcarry (hb) gA.out)
  replace gB := Lib.hid (hcarry (hb) gB.out)
  replace gC := Lib.hid (hcarry (hb) gC.out)
  replace gD := Lib.hid (hcarry (hb) gD.out)
  replace gP := Lib.hid (hcarry (hb) gP.out)
  skip
  replace hB := Lib.hid (below_step hB.out hb)
  clear hb
  go_upto_region 9 with fail
  have hn := old_at (motO 26 f) (new_at u5 (motO 26 R2))
  have hm := new_at (u5.alloc (motO 26 R2)) (motO 26 f)
  rw [World.size_alloc] at hm
  have hbn := below_step (alloc_below u5 (motO 26 R2)) (alloc_below (u5.alloc (motO 26 R2)) (motO 26 f))
  obtain ⟨V7, hV⟩ : ∃ V, V = (u5.alloc (motO 26 R2)).alloc (motO 26 f) := ⟨_, rfl⟩
  rw [← hV] at hn hm hbn
  rw [show (u5.alloc (.cells #[.int .i64 R2.p0, .int .i64 R2.p1, .int .i64 R2.v0, .int .i64 R2.v1, .int .i64 R2.m] 26)).alloc (.cells #[.int .i64 f.p0, .int .i64 f.p1, .int .i64 f.v0, .int .i64 f.v1, .int .i64 f.m] 26) = V7 from hV.symm]
  have gG := Lib.hid hn
  have gH := Lib.hid hm
  clear hn hm hV
  skip
  replace gA := Lib.hid (hcarry (hbn) gA.out)
  replace gB := Lib.hid (hcarry (hbn) gB.out)
  replace gC := Lib.hid (hcarry (hbn) gC.out)
  replace gD := Lib.hid (hcarry (hbn) gD.out)
  replace gP := Lib.hid (hcarry (hbn) gP.out)
  skip
  replace hB := Lib.hid (below_step hB.out hbn)
  clear hbn
  generalize u5.heap.size = G at *
  have nGH : G < G + 1 := Nat.lt_succ_self _
  generalize G + 1 = H at *
  obtain ⟨a0, a1, a2, a3, a4⟩ := mo_cells gD.out
  obtain ⟨b0, b1, b2, b3, b4⟩ := mo_cells gP.out
  obtain ⟨c0, c1, c2, c3, c4⟩ := mo_cells gH.out
  go_upto_region 11 with fail
  clear a0 a1 a2 a3 a4 b0 b1 b2 b3 b4 c0 c1 c2 c3 c4 gD gP gH
  obtain ⟨a0, a1, a2, a3, a4⟩ := mo_cells gA.out
  obtain ⟨b0, b1, b2, b3, b4⟩ := mo_cells gB.out
  obtain ⟨c0, c1, c2⟩ := con_cells gC.out
  go_wp2_with fail
  refine (K.out.2.2.1 _).mono ?_
  rintro e u6 ⟨rfl, hb⟩
  clear a0 a1 a2 a3 a4 b0 b1 b2 b3 b4 c0 c1 c2
  skip
  replace gA := Lib.hid (hcarry (hb) gA.out)
  replace gB := Lib.hid (hcarry (hb) gB.out)
  replace gC := Lib.hid (hcarry (hb) gC.out)
  skip
  replace hB := Lib.hid (below_step hB.out hb)
  clear hb
  go_upto_region 12 with fail
  have nCM := hlt gC.out
  have hn := old_at (motO 26 Y1) (new_at u6 (motO 26 X1))
  have hm := new_at (u6.alloc (motO 26 X1)) (motO 26 Y1)
  rw [World.size_alloc] at hm
  have hbn := below_step (alloc_below u6 (motO 26 X1)) (alloc_below (u6.alloc (motO 26 X1)) (motO 26 Y1))
  obtain ⟨V8, hV⟩ : ∃ V, V = (u6.alloc (motO 26 X1)).alloc (motO 26 Y1) := ⟨_, rfl⟩
  rw [← hV] at hn hm hbn
  rw [show (u6.alloc (.cells #[.int .i64 X1.p0, .int .i64 X1.p1, .int .i64 X1.v0, .int .i64 X1.v1, .int .i64 X1.m] 26)).alloc (.cells #[.int .i64 Y1.p0, .int .i64 Y1.p1, .int .i64 Y1.v0, .int .i64 Y1.v1, .int .i64 Y1.m] 26) = V8 from hV.symm]
  have gM := Lib.hid hn
  have gN := Lib.hid hm
  clear hn hm hV
  skip
  replace gA := Lib.hid (hcarry (hbn) gA.out)
  replace gB := Lib.hid (hcarry (hbn) gB.out)
  replace gC := Lib.hid (hcarry (hbn) gC.out)
  skip
  replace hB := Lib.hid (below_step hB.out hbn)
  clear hbn
  generalize u6.heap.size = M at *
  have nMN : M < M + 1 := Nat.lt_succ_self _
  generalize M + 1 = N at *
  obtain ⟨-, -, a2, a3, -⟩ := mo_cells gA.out
  obtain ⟨-, -, b2, b3, -⟩ := mo_cells gB.out
  obtain ⟨c0, c1, -⟩ := con_cells gC.out
  obtain ⟨-, -, m2, m3, -⟩ := mo_cells gM.out
  obtain ⟨-, -, n2, n3, -⟩ := mo_cells gN.out
  go_cut [18, 19, 84] (fun p q c W => p = .pointer (some ⟨M, 0, none⟩) ∧ q = .pointer (some ⟨N, 0, none⟩) ∧ c = .bool false ∧ Below V8.heap.size V8 W)
  case first =>
    by_cases hv : 0 ≤ rvn x y n0 n1
    · obtain ⟨p0, p1, q0, q1⟩ := hpart'.out hv
      rw [p0] at m2
      rw [p1] at m3
      rw [q0] at n2
      rw [q1] at n3
      clear p0 p1 q0 q1
      have hd : decide (0 ≤ rvn x y n0 n1) = true := by simpa using hv
      refine wp_region_made (by kernel_rfl) (by kernel_rfl) ?_
      intro W hK
      have g_a2 := fun x => carry ((hK.below x)) a2
      have g_a3 := fun x => carry ((hK.below x)) a3
      have g_b2 := fun x => carry ((hK.below x)) b2
      have g_b3 := fun x => carry ((hK.below x)) b3
      have g_c0 := fun x => carry ((hK.below x)) c0
      have g_c1 := fun x => carry ((hK.below x)) c1
      have g_m2 := fun x => carry ((hK.below x)) m2
      have g_m3 := fun x => carry ((hK.below x)) m3
      have g_n2 := fun x => carry ((hK.below x)) n2
      have g_n3 := fun x => carry ((hK.below x)) n3
      repeat (go_big_quiet_step ((first | (go_at_call 16; with_reducible exact met_made (KV.out.1 _)) | (go_at_call 15; with_reducible exact met_made (KV.out.2 _)))))
      refine wpQuiet_nil ?_
      intro wq hw'
      have hbq := kept_in hK hw'
      clear g_a2 g_a3 g_b2 g_b3 g_c0 g_c1 g_m2 g_m3 g_n2 g_n3
      clear hw' hK W
      replace a2 := carry (hbq) a2
      replace a3 := carry (hbq) a3
      replace b2 := carry (hbq) b2
      replace b3 := carry (hbq) b3
      replace c0 := carry (hbq) c0
      replace c1 := carry (hbq) c1
      replace m2 := carry (hbq) m2
      replace m3 := carry (hbq) m3
      replace n2 := carry (hbq) n2
      replace n3 := carry (hbq) n3
      go_wp2_with fail
      go_meet
      exact ⟨rfl, rfl, rfl, hbq⟩
    · have hd : decide (0 ≤ rvn x y n0 n1) = false := by simpa using hv
      refine wp_region_made (by kernel_rfl) (by kernel_rfl) ?_
      intro W hK
      have g_a2 := fun x => carry ((hK.below x)) a2
      have g_a3 := fun x => carry ((hK.below x)) a3
      have g_b2 := fun x => carry ((hK.below x)) b2
      have g_b3 := fun x => carry ((hK.below x)) b3
      have g_c0 := fun x => carry ((hK.below x)) c0
      have g_c1 := fun x => carry ((hK.below x)) c1
      have g_m2 := fun x => carry ((hK.below x)) m2
      have g_m3 := fun x => carry ((hK.below x)) m3
      have g_n2 := fun x => carry ((hK.below x)) n2
      have g_n3 := fun x => carry ((hK.below x)) n3
      repeat (go_big_quiet_step ((first | (go_at_call 16; with_reducible exact met_made (KV.out.1 _)) | (go_at_call 15; with_reducible exact met_made (KV.out.2 _)))))
      refine wpQuiet_nil ?_
      intro wq hw'
      have hbq := kept_in hK hw'
      clear g_a2 g_a3 g_b2 g_b3 g_c0 g_c1 g_m2 g_m3 g_n2 g_n3
      clear hw' hK W
      replace a2 := carry (hbq) a2
      replace a3 := carry (hbq) a3
      replace b2 := carry (hbq) b2
      replace b3 := carry (hbq) b3
      replace c0 := carry (hbq) c0
      replace c1 := carry (hbq) c1
      replace m2 := carry (hbq) m2
      replace m3 := carry (hbq) m3
      replace n2 := carry (hbq) n2
      replace n3 := carry (hbq) n3
      go_wp2_with fail
      go_meet
      exact ⟨rfl, rfl, rfl, hbq⟩
  obtain ⟨rfl, rfl, rfl, hb⟩ := hcut
  obtain ⟨V9, hV9⟩ : ∃ V, V = wc := ⟨wc, rfl⟩
  subst hV9
  clear a2 a3 b2 b3 c0 c1 m2 m3 n2 n3 KV hpart'
  skip
  replace gA := Lib.hid (hcarry (hb) gA.out)
  replace gB := Lib.hid (hcarry (hb) gB.out)
  replace gC := Lib.hid (hcarry (hb) gC.out)
  replace gM := Lib.hid (hcarry (hb) gM.out)
  replace gN := Lib.hid (hcarry (hb) gN.out)
  skip
  replace hB := Lib.hid (below_step hB.out hb)
  clear hb
  have cf := con_frozen gC.out
  obtain ⟨c0, c1, c2⟩ := con_cells gC.out
  go_upto_region 15 with fail
  replace gC := Lib.hid (con_d gC.out 0)
  skip
  replace gA := Lib.hid (oset (p := ⟨C, 2, none⟩) (v := .int .i64 0) gA.out (by simp only; omega))
  replace gB := Lib.hid (oset (p := ⟨C, 2, none⟩) (v := .int .i64 0) gB.out (by simp only; omega))
  replace gM := Lib.hid (oset (p := ⟨C, 2, none⟩) (v := .int .i64 0) gM.out (by simp only; omega))
  replace gN := Lib.hid (oset (p := ⟨C, 2, none⟩) (v := .int .i64 0) gN.out (by simp only; omega))
  have hwM := hwA.out
  replace hB := Lib.hid (hB.out.setCell (p := ⟨C, 2, none⟩) (by simp only; omega) (.int .i64 0))
  clear c0 c1 c2 cf
  generalize V9.setCell ⟨C, 2, none⟩ (.int .i64 0) = V10 at *
  obtain ⟨a0, a1, a2, a3, a4⟩ := mo_cells gA.out
  obtain ⟨b0, b1, b2, b3, b4⟩ := mo_cells gB.out
  obtain ⟨c0, c1, c2⟩ := con_cells gC.out
  go_wp2_with fail
  refine (K.out.2.2.2 _).mono ?_
  rintro e u7 ⟨rfl, hb⟩
  clear a0 a1 a2 a3 a4 b0 b1 b2 b3 b4 c0 c1 c2
  skip
  replace gA := Lib.hid (hcarry (hb) gA.out)
  replace gB := Lib.hid (hcarry (hb) gB.out)
  replace gM := Lib.hid (hcarry (hb) gM.out)
  replace gN := Lib.hid (hcarry (hb) gN.out)
  skip
  replace hB := Lib.hid (below_step hB.out hb)
  clear hb
  obtain ⟨m0, m1, m2, m3, m4⟩ := mo_cells gM.out
  obtain ⟨n0, n1, n2, n3, n4⟩ := mo_cells gN.out
  have mf := mo_frozen gM.out
  have nf := mo_frozen gN.out
  go_upto_region 16 with fail
  have hM := mo_keep5 N Y2 (mo_all gM.out X2) (by omega)
  have hN := mo_all (mo_keep5 M X2 gN.out (by omega)) Y2
  have hA := mo_keep5 N Y2 (mo_keep5 M X2 gA.out (by omega)) (by omega)
  have hBb := mo_keep5 N Y2 (mo_keep5 M X2 gB.out (by omega)) (by omega)
  have hBe := below_set5 (below_set5 hB.out M (by omega) X2) N (by omega) Y2
  clear m0 m1 m2 m3 m4 n0 n1 n2 n3 n4 mf nf gA gB gM gN hB
  generalize ((((((((((u7.setCell ⟨M, 0, none⟩ (.int .i64 X2.p0)).setCell ⟨M, 1, none⟩ (.int .i64 X2.p1)).setCell ⟨M, 2, none⟩ (.int .i64 X2.v0)).setCell ⟨M, 3, none⟩ (.int .i64 X2.v1)).setCell ⟨M, 4, none⟩ (.int .i64 X2.m)).setCell ⟨N, 0, none⟩ (.int .i64 Y2.p0)).setCell ⟨N, 1, none⟩ (.int .i64 Y2.p1)).setCell ⟨N, 2, none⟩ (.int .i64 Y2.v0)).setCell ⟨N, 3, none⟩ (.int .i64 Y2.v1)).setCell ⟨N, 4, none⟩ (.int .i64 Y2.m)) = V11 at *
  have gA := Lib.hid hA
  have gB := Lib.hid hBb
  have gM := Lib.hid hM
  have gN := Lib.hid hN
  have hB := Lib.hid hBe
  clear hA hBb hM hN hBe
  obtain ⟨a0, a1, a2, a3, a4⟩ := mo_cells gA.out
  obtain ⟨b0, b1, b2, b3, b4⟩ := mo_cells gB.out
  obtain ⟨m0, m1, m2, m3, m4⟩ := mo_cells gM.out
  obtain ⟨n0, n1, n2, n3, n4⟩ := mo_cells gN.out
  obtain ⟨⟨e0, e1, e2, e3⟩, e4, e5⟩ := hflat'.out
  rw [e0] at m0
  rw [e1] at m1
  rw [e2] at n0
  rw [e3] at n1
  rw [e4] at m4
  rw [e5] at n4
  clear e0 e1 e2 e3 e4 e5
  go_wp2_with fail
  refine (lives7_any _).mono ?_
  rintro e u8 ⟨rfl, hb⟩
  go_wp2
  go_ret
  exact ⟨rfl, below_step hB.out hb⟩

set_option maxRecDepth 100000 in
theorem lifted (os : Os) (started : os.Started) (H : Type) (enc : TypeId × Value → H) :
    ReturnsInHanded {} Try.checked os 4 .any (Rows.resolveStaticSpec.pre6 enc Try.prog Try.f4 Rows.resolveStaticRow.domain false) (Rows.resolveStaticSpec.post enc Try.prog Try.f4 false true false false) := by
  refine returnsInHanded_of_change (C := Try.checked) own started (by kernel_rfl) Try.func4
    (ChangeSpec.witness6 (enc := enc) (C := Try.checked) false ⟨#[], #[.slice none 0 0, .slice none 0 0, .slice none 0 0, .int .i64 0], []⟩ 8 (by kernel_rfl) (by kernel_rfl) (by kernel_rfl) (by kernel_rfl)) ?_
  intro W base args ds gs before hval0 hW hcnd _
  have hval : ∀ (j : Nat) t v, Try.f4.params[j]? = some t → args[j]? = some v → Value.okWide Try.prog W .any base t v := hval0
  have hW' := hW
  obtain ⟨p, q, hA0, hV, rfl, hfz, hnd⟩ := hW
  have hA : DataW.TrodAll enc Try.prog W 0 (fun _ => true) true Try.f4.params.toList args.toList ds p := hA0
  rw [Try.params4] at hA hval
  have hAk := hA
  obtain ⟨v0, vs0, d0, ds0, p0, q0, hargs, rfl, hp0, h0, r0⟩ := trodAll_cons hA
  obtain ⟨v1, vs1, d1, ds1, p1, q1, rfl, rfl, hp1, h1, r1⟩ := trodAll_cons r0
  obtain ⟨v2, vs2, d2, ds2, p2, q2, rfl, rfl, hp2, h2, r2⟩ := trodAll_cons r1
  obtain ⟨v3, vs3, d3, ds3, p3, q3, rfl, rfl, hp3, h3, r3⟩ := trodAll_cons r2
  obtain ⟨rfl, rfl, -⟩ := trodAll_nil r3
  obtain rfl : args = #[v0, v1, v2, v3] := by cases args; simp_all
  obtain ⟨rfl, rfl⟩ := trodVars_none hV
  obtain ⟨x0, q0, c0, rfl⟩ := okWide_slice Try.underlying22 (hval 0 22 v0 rfl rfl)
  obtain ⟨fu0, fh0⟩ := h0
  obtain ⟨s0, Z0, l0, e0, H0⟩ := open_int_cells Try.underlying22 Try.underlying3 (by kernel_rfl) fh0
  simp only [Value.cells, List.cons.injEq, and_true] at e0
  obtain rfl := e0.symm
  obtain ⟨x1, q1, c1, rfl⟩ := okWide_slice Try.underlying22 (hval 1 22 v1 rfl rfl)
  obtain ⟨fu1, fh1⟩ := h1
  obtain ⟨s1, Z1, l1, e1, H1⟩ := open_int_cells Try.underlying22 Try.underlying3 (by kernel_rfl) fh1
  simp only [Value.cells, List.cons.injEq, and_true] at e1
  obtain rfl := e1.symm
  obtain ⟨x2, q2, c2, rfl⟩ := okWide_slice Try.underlying22 (hval 2 22 v2 rfl rfl)
  obtain ⟨fu2, fh2⟩ := h2
  obtain ⟨s2, Z2, l2, e2, H2⟩ := open_int_cells Try.underlying22 Try.underlying3 (by kernel_rfl) fh2
  simp only [Value.cells, List.cons.injEq, and_true] at e2
  obtain rfl := e2.symm
  obtain ⟨a3, rfl, -, -, w3⟩ := open_int Try.underlying3 (hval 3 3 v3 rfl rfl) h3
  clear hA0 hval0
  simp only [List.append_nil] at hW'
  refine (walk W _ Z0 l0 H0 _ Z1 l1 H1 _ Z2 l2 H2 a3 w3).mono fun e W' ⟨he, hb⟩ => ?_
  subst he
  exact ⟨_, rfl, kept_post (pa := p) hW' (fun _ _ _ => (trodAll_cons_mk (shut_bool Try.underlying4 _) trodAll_mk0)) (fun sp hsp => trodAll_stays laid hb (by rw [Try.params4]; decide +kernel) hAk (fun x hx => hW'.lt x hx) hsp) (fun _ => rfl) hb (ok_one (by kernel_rfl) rfl (okWide_bool_mk Try.underlying4 _))⟩

theorem over : Rows.resolveStaticRow.holds Try.pinned (OpenSpec.ofChange Rows.resolveStaticSpec) :=
  OpenClaim.holds_of_wide 4 Try.f4 rfl rfl rfl rfl rfl rfl rfl ⟨rfl, rfl, rfl, rfl, rfl⟩ rfl rfl rfl rfl rfl (by kernel_rfl) Try.func4 (by kernel_rfl)
    (of_decide_eq_true (by kernel_rfl)) (by unfold Func.isWrapper; first | (rw [if_pos (by decide +kernel)]; kernel_rfl) | (rw [if_neg (by decide +kernel)]; exact ⟨rfl, rfl⟩))
    (fun os started H enc _ => lifted os started H enc)

theorem proved : Rows.ResolveStaticSaid :=
  over
#print axioms proved
end Go.Proofs.Ytihoanoanoaneaa.resolveStatic
