/-
  package collide, P5.1 to P5.5: for all pairs of generated shapes and positions, the axes and what is said of the collision are the reference's, the pair in both orders; and the section's example holds; whatever the arguments are.
-/
import Derived.Test.YtfbgghkkgmgnjaaRows
import Derived.WalkKit
import Derived.ProofKit
import Derived.OpenShut
import Derived.Test.YtfbgghkkgmgnjaaLawKit
import Derived.Test.YtfbgghkkgmgnjaaCollQ
import Derived.Test.YtfbgghkkgmgnjaaToiH
import Derived.WalkLawsBesides
import Derived.Deep.DeepCutAuto
import Derived.Deep.CutBlock
import Derived.Deep.RegionHeld3
namespace Go.Proofs.Ytfbgghkkgmgnjaa.collideMatches
open Go.ChangeShapes Go.WideShapes Go.ChangeAt Go.RowKit
set_option linter.unusedVariables false
set_option linter.unusedSimpArgs false

open Fxm
theorem equal_same (us : List (Int × Int)) (a b : Option Addr) (n m ca cb : Nat) (w : World) (hu : Vecs w a n ca us) (hv : Vecs w b m cb us) :
    Calls Try.prog 15 #[.slice a n ca, .slice b m cb] w fun e w' => e = .returned (.bool true) ∧ Below w.heap.size w w' := by
  have h := equal_any a b n m ca cb us us w hu hv
  rw [decide_eq_true (rfl : us = us)] at h
  exact h
theorem own : ownKnob Try.prog.godebug = none := by kernel_rfl

set_option maxRecDepth 100000 in
set_option maxHeartbeats 8000000 in
theorem walk (a0 : Int) (w0 : (Lit.int .i64 a0).wf = true) (a1 : Int) (w1 : (Lit.int .i64 a1).wf = true) (a2_0 : Int) (a2_1 : Int) (a2_2 : Int) (a2_3 : Int) (w2_0 : (Lit.int .i64 a2_0).wf = true) (w2_1 : (Lit.int .i64 a2_1).wf = true) (w2_2 : (Lit.int .i64 a2_2).wf = true) (w2_3 : (Lit.int .i64 a2_3).wf = true) (w : World) :
    Calls Try.prog 3 #[.int .i64 a0, .int .i64 a1, .agg #[.int .i64 a2_0, .int .i64 a2_1, .int .i64 a2_2, .int .i64 a2_3]] w fun e w' => e = .returned (.bool true) ∧ Below w.heap.size w w' := by
  go_enter Try.func3, Try.ntmps3
  go_wp2_with fail
  refine (shapes_any _ _ w0).mono ?_
  rintro e u1 ⟨s, rfl, hs, hb1⟩
  have l0 : u1.cell? ⟨w.heap.size, 0, none⟩ = some (.int .i64 a2_0) := carry hb1 (by simp [go_sem])
  have l1 : u1.cell? ⟨w.heap.size, 1, none⟩ = some (.int .i64 a2_1) := carry hb1 (by simp [go_sem])
  have l2 : u1.cell? ⟨w.heap.size, 2, none⟩ = some (.int .i64 a2_2) := carry hb1 (by simp [go_sem])
  have l3 : u1.cell? ⟨w.heap.size, 3, none⟩ = some (.int .i64 a2_3) := carry hb1 (by simp [go_sem])
  have hB := below_step (alloc_below w (.cells #[.int .i64 a2_0, .int .i64 a2_1, .int .i64 a2_2, .int .i64 a2_3] 22)) hb1
  clear hb1
  go_upto_region 2 with fail
  have sA0 := World.cell?_alloc_new (w := u1) #[.int .i64 s.r, .slice s.a s.n s.cap] 25 0
  have sA1 := World.cell?_alloc_new (w := u1) #[.int .i64 s.r, .slice s.a s.n s.cap] 25 1
  simp only [List.getElem?_toArray, List.getElem?_cons_zero, List.getElem?_cons_succ] at sA0 sA1
  have hb1 := alloc_below u1 (.cells #[.int .i64 s.r, .slice s.a s.n s.cap] 25)
  generalize u1.alloc (.cells #[.int .i64 s.r, .slice s.a s.n s.cap] 25) = v1 at *
  replace l0 := carry (hb1) l0
  replace l1 := carry (hb1) l1
  replace l2 := carry (hb1) l2
  replace l3 := carry (hb1) l3
  replace hB := below_step hB hb1
  replace hs := hs.carry hb1
  clear hb1
  go_wp2_with fail
  refine (shapes_any _ _ w1).mono ?_
  rintro e u2 ⟨t, rfl, ht, hb1⟩
  replace l0 := carry (hb1) l0
  replace l1 := carry (hb1) l1
  replace l2 := carry (hb1) l2
  replace l3 := carry (hb1) l3
  replace sA0 := carry (hb1) sA0
  replace sA1 := carry (hb1) sA1
  replace hB := below_step hB hb1
  replace hs := hs.carry hb1
  clear hb1
  go_upto_region 3 with fail
  have tA0 := World.cell?_alloc_new (w := u2) #[.int .i64 t.r, .slice t.a t.n t.cap] 25 0
  have tA1 := World.cell?_alloc_new (w := u2) #[.int .i64 t.r, .slice t.a t.n t.cap] 25 1
  simp only [List.getElem?_toArray, List.getElem?_cons_zero, List.getElem?_cons_succ] at tA0 tA1
  have hb1 := alloc_below u2 (.cells #[.int .i64 t.r, .slice t.a t.n t.cap] 25)
  generalize u2.alloc (.cells #[.int .i64 t.r, .slice t.a t.n t.cap] 25) = v2 at *
  replace l0 := carry (hb1) l0
  replace l1 := carry (hb1) l1
  replace l2 := carry (hb1) l2
  replace l3 := carry (hb1) l3
  replace sA0 := carry (hb1) sA0
  replace sA1 := carry (hb1) sA1
  replace hB := below_step hB hb1
  replace hs := hs.carry hb1
  replace ht := ht.carry hb1
  clear hb1
  go_wp2_with fail
  refine (place_any s t _ _ _ _ _ hs ht w2_0 w2_1 w2_2 w2_3).mono ?_
  rintro e u3 ⟨⟨p0, p1, q0, q1, ⟨bp0, bp1, bq0, bq1⟩, rfl⟩, hb1⟩
  replace sA0 := carry (hb1) sA0
  replace sA1 := carry (hb1) sA1
  replace tA0 := carry (hb1) tA0
  replace tA1 := carry (hb1) tA1
  replace hB := below_step hB hb1
  replace hs := hs.carry hb1
  replace ht := ht.carry hb1
  clear hb1 l0 l1 l2 l3
  go_upto_region 4 with fail
  have hb1 := below_step (alloc_below u3 (.cells #[.int .i64 p0, .int .i64 p1] 28)) (alloc_below _ (.cells #[.int .i64 q0, .int .i64 q1] 28))
  have vp0 : ((u3.alloc (.cells #[.int .i64 p0, .int .i64 p1] 28)).alloc (.cells #[.int .i64 q0, .int .i64 q1] 28)).cell? ⟨u3.heap.size, 0, none⟩ = some (.int .i64 p0) := by simp [go_sem]
  have vp1 : ((u3.alloc (.cells #[.int .i64 p0, .int .i64 p1] 28)).alloc (.cells #[.int .i64 q0, .int .i64 q1] 28)).cell? ⟨u3.heap.size, 1, none⟩ = some (.int .i64 p1) := by simp [go_sem]
  have vq0 : ((u3.alloc (.cells #[.int .i64 p0, .int .i64 p1] 28)).alloc (.cells #[.int .i64 q0, .int .i64 q1] 28)).cell? ⟨u3.heap.size + 1, 0, none⟩ = some (.int .i64 q0) := by simp [go_sem]
  have vq1 : ((u3.alloc (.cells #[.int .i64 p0, .int .i64 p1] 28)).alloc (.cells #[.int .i64 q0, .int .i64 q1] 28)).cell? ⟨u3.heap.size + 1, 1, none⟩ = some (.int .i64 q1) := by simp [go_sem]
  replace sA0 := carry (hb1) sA0
  replace sA1 := carry (hb1) sA1
  replace tA0 := carry (hb1) tA0
  replace tA1 := carry (hb1) tA1
  replace hB := below_step hB hb1
  replace hs := Lib.hid (hs.carry hb1)
  replace ht := Lib.hid (ht.carry hb1)
  generalize (u3.alloc (.cells #[.int .i64 p0, .int .i64 p1] 28)).alloc (.cells #[.int .i64 q0, .int .i64 q1] 28) = v3 at *
  clear hb1
  have ep0 : Be p0 := be_of (by omega) (by omega)
  have ep1 : Be p1 := be_of (by omega) (by omega)
  have eq0 : Be q0 := be_of (by omega) (by omega)
  have eq1 : Be q1 := be_of (by omega) (by omega)
  have hn1 : 0 < ndir s t := ndir_pos (t := t) hs.out
  have hn2 : 0 < ndir t s := ndir_pos (t := s) ht.out
  have hnA := Lib.hid (show ndir s t = (axesV s t (p0, p1) (q0, q1)).length ∧ ndir s t ≤ 1000 from ⟨(lst_len _ _).symm, by have := ndir_le hs.out ht.out; omega⟩)
  have hnB := Lib.hid (show ndir t s = (axesV t s (q0, q1) (p0, p1)).length ∧ ndir t s ≤ 1000 from ⟨(lst_len _ _).symm, by have := ndir_le ht.out hs.out; omega⟩)
  have k1 := fun w (h : Sh w s) (h' : Sh w t) => axesOf_any s t p0 p1 q0 q1 w h h' ep0 ep1 eq0 eq1
  have k2 := fun w (h : Sh w s) (h' : Sh w t) => refAxes_any s t p0 p1 q0 q1 w h h' ep0 ep1 eq0 eq1
  have k3 := fun w (h : Sh w t) (h' : Sh w s) => axesOf_any t s q0 q1 p0 p1 w h h' eq0 eq1 ep0 ep1
  have k4 := fun w (h : Sh w t) (h' : Sh w s) => refAxes_any t s q0 q1 p0 p1 w h h' eq0 eq1 ep0 ep1
  have c1 := fun w (h : Sh w s) (h' : Sh w t) => col_any s t p0 p1 q0 q1 w h h' ep0 ep1 eq0 eq1
  have c2 := fun w (h : Sh w s) (h' : Sh w t) => rcol_any s t p0 p1 q0 q1 w h h' ep0 ep1 eq0 eq1
  have c3 := fun w (h : Sh w t) (h' : Sh w s) => col_any t s q0 q1 p0 p1 w h h' eq0 eq1 ep0 ep1
  have c4 := fun w (h : Sh w t) (h' : Sh w s) => rcol_any t s q0 q1 p0 p1 w h h' eq0 eq1 ep0 ep1
  generalize axesV s t (p0, p1) (q0, q1) = AX at *
  generalize axesV t s (q0, q1) (p0, p1) = BX at *
  generalize ndir s t = nA at *
  generalize ndir t s = nB at *
  generalize colN s t (p0, p1) (q0, q1) = cN at *
  obtain ⟨c0, c1', c2'⟩ := cN
  generalize colB s t (p0, p1) (q0, q1) = cb at *
  generalize colN t s (q0, q1) (p0, p1) = dN at *
  obtain ⟨d0, d1', d2'⟩ := dN
  generalize colB t s (q0, q1) (p0, p1) = db at *
  simp only at c1 c2 c3 c4
  have hkk := Lib.hid (And.intro k1 (And.intro k2 (And.intro k3 (And.intro k4 equal_same))))
  have hcc := Lib.hid (And.intro c1 (And.intro c2 (And.intro c3 c4)))
  clear k1 k2 k3 k4 c1 c2 c3 c4 bp0 bp1 bq0 bq1 ep0 ep1 eq0 eq1
  have bD : Below v3.heap.size v3 v3.drew := (Below.refl _ v3).drew
  have mk := Lib.hid (fun w' (h : Below v3.heap.size v3 w') => (⟨carry h sA0, carry h sA1, carry h tA0, carry h tA1, carry h vp0, carry h vp1, carry h vq0, carry h vq1, h⟩ : w'.cell? ⟨u1.heap.size, 0, none⟩ = some (.int .i64 s.r) ∧ w'.cell? ⟨u1.heap.size, 1, none⟩ = some (.slice s.a s.n s.cap) ∧ w'.cell? ⟨u2.heap.size, 0, none⟩ = some (.int .i64 t.r) ∧ w'.cell? ⟨u2.heap.size, 1, none⟩ = some (.slice t.a t.n t.cap) ∧ w'.cell? ⟨u3.heap.size, 0, none⟩ = some (.int .i64 p0) ∧ w'.cell? ⟨u3.heap.size, 1, none⟩ = some (.int .i64 p1) ∧ w'.cell? ⟨u3.heap.size + 1, 0, none⟩ = some (.int .i64 q0) ∧ w'.cell? ⟨u3.heap.size + 1, 1, none⟩ = some (.int .i64 q1) ∧ Below v3.heap.size v3 w'))
  go_cut [55] (fun v W => v = .bool false ∧ Below v3.heap.size v3 W)
  case first =>
    go_region_held3 (fun w' => w'.cell? ⟨u1.heap.size, 0, none⟩ = some (.int .i64 s.r) ∧ w'.cell? ⟨u1.heap.size, 1, none⟩ = some (.slice s.a s.n s.cap) ∧ w'.cell? ⟨u2.heap.size, 0, none⟩ = some (.int .i64 t.r) ∧ w'.cell? ⟨u2.heap.size, 1, none⟩ = some (.slice t.a t.n t.cap) ∧ w'.cell? ⟨u3.heap.size, 0, none⟩ = some (.int .i64 p0) ∧ w'.cell? ⟨u3.heap.size, 1, none⟩ = some (.int .i64 p1) ∧ w'.cell? ⟨u3.heap.size + 1, 0, none⟩ = some (.int .i64 q0) ∧ w'.cell? ⟨u3.heap.size + 1, 1, none⟩ = some (.int .i64 q1) ∧ Below v3.heap.size v3 w')
      (first | (exact mk.out _ bD) | (exact mk.out _ B4) | (exact mk.out _ B5) | (exact mk.out _ B6) | (exact mk.out _ B7) | (exact mk.out _ B8) | (exact mk.out _ B9))
      (first
        | (go_at_call 15; with_reducible refine (hkk.out.2.2.2.2 _ _ _ _ _ _ _ _ R7 R8).mono ?_; rintro e x9 ⟨rfl, hb9⟩; have B9 := below_step B8 hb9)
        | (go_at_call 17; with_reducible refine (hkk.out.2.2.2.1 _ (ht.out.carry (by first | exact B7 | exact B7.drew)) (hs.out.carry (by first | exact B7 | exact B7.drew))).mono ?_; rintro e x8 ⟨⟨v8', rfl, hown⟩, hb8⟩; have B8 : Below v3.heap.size v3 x8 := below_step (by first | exact B7 | exact B7.drew) hb8; obtain ⟨g8, cap8, rfl⟩ := owned_shape hown hn2; have R8 := Vecs.owned hown hnB.out.1 hnB.out.2; replace R7 := R7.carry hb8)
        | (go_at_call 16; with_reducible refine (hkk.out.2.2.1 _ (ht.out.carry (by first | exact B6 | exact B6.drew)) (hs.out.carry (by first | exact B6 | exact B6.drew))).mono ?_; rintro e x7 ⟨g7, cap7, rfl, hown, hb7⟩; have B7 : Below v3.heap.size v3 x7 := below_step (by first | exact B6 | exact B6.drew) hb7; have R7 := Vecs.owned hown hnB.out.1 hnB.out.2)
        | (go_at_call 15; with_reducible refine (hkk.out.2.2.2.2 _ _ _ _ _ _ _ _ R4 R5).mono ?_; rintro e x6 ⟨rfl, hb6⟩; have B6 := below_step B5 hb6)
        | (go_at_call 17; with_reducible refine (hkk.out.2.1 _ (hs.out.carry (by first | exact B4 | exact B4.drew)) (ht.out.carry (by first | exact B4 | exact B4.drew))).mono ?_; rintro e x5 ⟨⟨v5', rfl, hown⟩, hb5⟩; have B5 : Below v3.heap.size v3 x5 := below_step (by first | exact B4 | exact B4.drew) hb5; obtain ⟨g5, cap5, rfl⟩ := owned_shape hown hn1; have R5 := Vecs.owned hown hnA.out.1 hnA.out.2; replace R4 := R4.carry hb5)
        | (go_at_call 16; with_reducible refine (hkk.out.1 _ (hs.out.carry (by first | exact bD | exact Below.refl _ _)) (ht.out.carry (by first | exact bD | exact Below.refl _ _))).mono ?_; rintro e x4 ⟨g4, cap4, rfl, hown, hb4⟩; have B4 : Below v3.heap.size v3 x4 := below_step (by first | exact bD | exact Below.refl _ _) hb4; have R4 := Vecs.owned hown hnA.out.1 hnA.out.2))
    all_goals
      rename_i hHeld
      have hHB := Lib.hid hHeld.2.2.2.2.2.2.2.2
      clear hHeld
      go_wp2_with fail
      go_meet
      exact ⟨rfl, hHB.out⟩
  obtain ⟨rfl, hb1⟩ := hcut
  clear mk bD
  replace sA0 := carry (hb1) sA0
  replace sA1 := carry (hb1) sA1
  replace tA0 := carry (hb1) tA0
  replace tA1 := carry (hb1) tA1
  replace vp0 := carry (hb1) vp0
  replace vp1 := carry (hb1) vp1
  replace vq0 := carry (hb1) vq0
  replace vq1 := carry (hb1) vq1
  replace hB := below_step hB hb1
  replace hs := Lib.hid (hs.out.carry hb1)
  replace ht := Lib.hid (ht.out.carry hb1)
  clear hb1
  go_wp2_with fail
  refine (hcc.out.1 _ hs.out ht.out).mono ?_
  rintro e w5 ⟨rfl, hb1⟩
  replace sA0 := carry (hb1) sA0
  replace sA1 := carry (hb1) sA1
  replace tA0 := carry (hb1) tA0
  replace tA1 := carry (hb1) tA1
  replace vp0 := carry (hb1) vp0
  replace vp1 := carry (hb1) vp1
  replace vq0 := carry (hb1) vq0
  replace vq1 := carry (hb1) vq1
  replace hB := below_step hB hb1
  replace hs := Lib.hid (hs.out.carry hb1)
  replace ht := Lib.hid (ht.out.carry hb1)
  clear hb1
  go_upto_region 7 with fail
  have vc0 := World.cell?_alloc_new (w := w5) #[.int .i64 (c0), .int .i64 (c1'), .int .i64 (c2')] 34 0
  have vc1 := World.cell?_alloc_new (w := w5) #[.int .i64 (c0), .int .i64 (c1'), .int .i64 (c2')] 34 1
  have vc2 := World.cell?_alloc_new (w := w5) #[.int .i64 (c0), .int .i64 (c1'), .int .i64 (c2')] 34 2
  simp only [List.getElem?_toArray, List.getElem?_cons_zero, List.getElem?_cons_succ] at vc0 vc1 vc2
  have hb1 := alloc_below w5 (.cells #[.int .i64 (c0), .int .i64 (c1'), .int .i64 (c2')] 34)
  generalize w5.alloc (.cells #[.int .i64 (c0), .int .i64 (c1'), .int .i64 (c2')] 34) = v5 at *
  replace sA0 := carry (hb1) sA0
  replace sA1 := carry (hb1) sA1
  replace tA0 := carry (hb1) tA0
  replace tA1 := carry (hb1) tA1
  replace vp0 := carry (hb1) vp0
  replace vp1 := carry (hb1) vp1
  replace vq0 := carry (hb1) vq0
  replace vq1 := carry (hb1) vq1
  replace hB := below_step hB hb1
  replace hs := Lib.hid (hs.out.carry hb1)
  replace ht := Lib.hid (ht.out.carry hb1)
  clear hb1
  go_wp2_with fail
  refine (hcc.out.2.1 _ hs.out ht.out).mono ?_
  rintro e w6 ⟨rfl, hb1⟩
  replace sA0 := carry (hb1) sA0
  replace sA1 := carry (hb1) sA1
  replace tA0 := carry (hb1) tA0
  replace tA1 := carry (hb1) tA1
  replace vp0 := carry (hb1) vp0
  replace vp1 := carry (hb1) vp1
  replace vq0 := carry (hb1) vq0
  replace vq1 := carry (hb1) vq1
  replace vc0 := carry (hb1) vc0
  replace vc1 := carry (hb1) vc1
  replace vc2 := carry (hb1) vc2
  replace hB := below_step hB hb1
  replace hs := Lib.hid (hs.out.carry hb1)
  replace ht := Lib.hid (ht.out.carry hb1)
  clear hb1
  go_upto_region 8 with fail
  have vd0 := World.cell?_alloc_new (w := w6) #[.int .i64 (c0), .int .i64 (c1'), .int .i64 (c2')] 34 0
  have vd1 := World.cell?_alloc_new (w := w6) #[.int .i64 (c0), .int .i64 (c1'), .int .i64 (c2')] 34 1
  have vd2 := World.cell?_alloc_new (w := w6) #[.int .i64 (c0), .int .i64 (c1'), .int .i64 (c2')] 34 2
  simp only [List.getElem?_toArray, List.getElem?_cons_zero, List.getElem?_cons_succ] at vd0 vd1 vd2
  have hb1 := alloc_below w6 (.cells #[.int .i64 (c0), .int .i64 (c1'), .int .i64 (c2')] 34)
  generalize w6.alloc (.cells #[.int .i64 (c0), .int .i64 (c1'), .int .i64 (c2')] 34) = v6 at *
  replace sA0 := carry (hb1) sA0
  replace sA1 := carry (hb1) sA1
  replace tA0 := carry (hb1) tA0
  replace tA1 := carry (hb1) tA1
  replace vp0 := carry (hb1) vp0
  replace vp1 := carry (hb1) vp1
  replace vq0 := carry (hb1) vq0
  replace vq1 := carry (hb1) vq1
  replace vc0 := carry (hb1) vc0
  replace vc1 := carry (hb1) vc1
  replace vc2 := carry (hb1) vc2
  replace hB := below_step hB hb1
  replace hs := Lib.hid (hs.out.carry hb1)
  replace ht := Lib.hid (ht.out.carry hb1)
  clear hb1
  go_wp2_with fail
  refine (hcc.out.2.2.1 _ ht.out hs.out).mono ?_
  rintro e w7 ⟨rfl, hb1⟩
  replace sA0 := carry (hb1) sA0
  replace sA1 := carry (hb1) sA1
  replace tA0 := carry (hb1) tA0
  replace tA1 := carry (hb1) tA1
  replace vp0 := carry (hb1) vp0
  replace vp1 := carry (hb1) vp1
  replace vq0 := carry (hb1) vq0
  replace vq1 := carry (hb1) vq1
  replace vc0 := carry (hb1) vc0
  replace vc1 := carry (hb1) vc1
  replace vc2 := carry (hb1) vc2
  replace vd0 := carry (hb1) vd0
  replace vd1 := carry (hb1) vd1
  replace vd2 := carry (hb1) vd2
  replace hB := below_step hB hb1
  replace hs := Lib.hid (hs.out.carry hb1)
  replace ht := Lib.hid (ht.out.carry hb1)
  clear hb1
  go_upto_region 9 with fail
  have ve0 := World.cell?_alloc_new (w := w7) #[.int .i64 (d0), .int .i64 (d1'), .int .i64 (d2')] 34 0
  have ve1 := World.cell?_alloc_new (w := w7) #[.int .i64 (d0), .int .i64 (d1'), .int .i64 (d2')] 34 1
  have ve2 := World.cell?_alloc_new (w := w7) #[.int .i64 (d0), .int .i64 (d1'), .int .i64 (d2')] 34 2
  simp only [List.getElem?_toArray, List.getElem?_cons_zero, List.getElem?_cons_succ] at ve0 ve1 ve2
  have hb1 := alloc_below w7 (.cells #[.int .i64 (d0), .int .i64 (d1'), .int .i64 (d2')] 34)
  generalize w7.alloc (.cells #[.int .i64 (d0), .int .i64 (d1'), .int .i64 (d2')] 34) = v7 at *
  replace sA0 := carry (hb1) sA0
  replace sA1 := carry (hb1) sA1
  replace tA0 := carry (hb1) tA0
  replace tA1 := carry (hb1) tA1
  replace vp0 := carry (hb1) vp0
  replace vp1 := carry (hb1) vp1
  replace vq0 := carry (hb1) vq0
  replace vq1 := carry (hb1) vq1
  replace vc0 := carry (hb1) vc0
  replace vc1 := carry (hb1) vc1
  replace vc2 := carry (hb1) vc2
  replace vd0 := carry (hb1) vd0
  replace vd1 := carry (hb1) vd1
  replace vd2 := carry (hb1) vd2
  replace hB := below_step hB hb1
  replace hs := Lib.hid (hs.out.carry hb1)
  replace ht := Lib.hid (ht.out.carry hb1)
  clear hb1
  go_wp2_with fail
  refine (hcc.out.2.2.2 _ ht.out hs.out).mono ?_
  rintro e w8 ⟨rfl, hb1⟩
  replace sA0 := carry (hb1) sA0
  replace sA1 := carry (hb1) sA1
  replace tA0 := carry (hb1) tA0
  replace tA1 := carry (hb1) tA1
  replace vp0 := carry (hb1) vp0
  replace vp1 := carry (hb1) vp1
  replace vq0 := carry (hb1) vq0
  replace vq1 := carry (hb1) vq1
  replace vc0 := carry (hb1) vc0
  replace vc1 := carry (hb1) vc1
  replace vc2 := carry (hb1) vc2
  replace vd0 := carry (hb1) vd0
  replace vd1 := carry (hb1) vd1
  replace vd2 := carry (hb1) vd2
  replace ve0 := carry (hb1) ve0
  replace ve1 := carry (hb1) ve1
  replace ve2 := carry (hb1) ve2
  replace hB := below_step hB hb1
  replace hs := Lib.hid (hs.out.carry hb1)
  replace ht := Lib.hid (ht.out.carry hb1)
  clear hb1
  go_upto_region 10 with fail
  have vf0 := World.cell?_alloc_new (w := w8) #[.int .i64 (d0), .int .i64 (d1'), .int .i64 (d2')] 34 0
  have vf1 := World.cell?_alloc_new (w := w8) #[.int .i64 (d0), .int .i64 (d1'), .int .i64 (d2')] 34 1
  have vf2 := World.cell?_alloc_new (w := w8) #[.int .i64 (d0), .int .i64 (d1'), .int .i64 (d2')] 34 2
  simp only [List.getElem?_toArray, List.getElem?_cons_zero, List.getElem?_cons_succ] at vf0 vf1 vf2
  have hb1 := alloc_below w8 (.cells #[.int .i64 (d0), .int .i64 (d1'), .int .i64 (d2')] 34)
  generalize w8.alloc (.cells #[.int .i64 (d0), .int .i64 (d1'), .int .i64 (d2')] 34) = v8 at *
  replace sA0 := carry (hb1) sA0
  replace sA1 := carry (hb1) sA1
  replace tA0 := carry (hb1) tA0
  replace tA1 := carry (hb1) tA1
  replace vp0 := carry (hb1) vp0
  replace vp1 := carry (hb1) vp1
  replace vq0 := carry (hb1) vq0
  replace vq1 := carry (hb1) vq1
  replace vc0 := carry (hb1) vc0
  replace vc1 := carry (hb1) vc1
  replace vc2 := carry (hb1) vc2
  replace vd0 := carry (hb1) vd0
  replace vd1 := carry (hb1) vd1
  replace vd2 := carry (hb1) vd2
  replace ve0 := carry (hb1) ve0
  replace ve1 := carry (hb1) ve1
  replace ve2 := carry (hb1) ve2
  replace hB := below_step hB hb1
  replace hs := Lib.hid (hs.out.carry hb1)
  replace ht := Lib.hid (ht.out.carry hb1)
  clear hb1
  clear sA0 sA1 tA0 tA1 vp0 vp1 vq0 vq1 hkk hcc
  have hbb : (cb == cb) = true := by simp
  have hbd : (db == db) = true := by simp
  go_wp2_with fail
  refine (lives5_any _).mono ?_
  rintro e w9 ⟨rfl, hb9⟩
  go_wp2_with fail
  go_ret
  exact ⟨rfl, below_step hB hb9⟩

set_option maxRecDepth 100000 in
theorem lifted (os : Os) (started : os.Started) (H : Type) (enc : TypeId × Value → H) :
    ReturnsInHanded {} Try.checked os 3 .any (Rows.collideMatchesSpec.pre6 enc Try.prog Try.f3 Rows.collideMatchesRow.domain false) (Rows.collideMatchesSpec.post enc Try.prog Try.f3 false true false false) := by
  refine returnsInHanded_of_change (C := Try.checked) own started (by kernel_rfl) Try.func3
    (ChangeSpec.witness6 (enc := enc) (C := Try.checked) false ⟨#[], #[.int .i64 0, .int .i64 0, .agg #[.int .i64 0, .int .i64 0, .int .i64 0, .int .i64 0]], []⟩ 8 (by kernel_rfl) (by kernel_rfl) (by kernel_rfl) (by kernel_rfl)) ?_
  intro W base args ds gs before hval0 hW hcnd _
  have hval : ∀ (j : Nat) t v, Try.f3.params[j]? = some t → args[j]? = some v → Value.okWide Try.prog W .any base t v := hval0
  have hW' := hW
  obtain ⟨p, q, hA0, hV, rfl, hfz, hnd⟩ := hW
  have hA : DataW.TrodAll enc Try.prog W 0 (fun _ => true) true Try.f3.params.toList args.toList ds p := hA0
  rw [Try.params3] at hA hval
  obtain ⟨v0, vs0, d0, ds0, p0, q0, hargs, rfl, rfl, h0, r0⟩ := trodAll_cons hA
  obtain ⟨v1, vs1, d1, ds1, p1, q1, rfl, rfl, rfl, h1, r1⟩ := trodAll_cons r0
  obtain ⟨v2, vs2, d2, ds2, p2, q2, rfl, rfl, rfl, h2, r2⟩ := trodAll_cons r1
  obtain ⟨rfl, rfl, rfl⟩ := trodAll_nil r2
  obtain rfl : args = #[v0, v1, v2] := by cases args; simp_all
  obtain ⟨rfl, rfl⟩ := trodVars_none hV
  obtain ⟨a0, rfl, rfl, rfl, w0⟩ := open_int Try.underlying3 (hval 0 3 v0 rfl rfl) h0
  obtain ⟨a1, rfl, rfl, rfl, w1⟩ := open_int Try.underlying3 (hval 1 3 v1 rfl rfl) h1
  obtain ⟨z2, l2, e2, rfl, rfl, y2⟩ := open_arr Try.underlying22 Try.underlying3 (by kernel_rfl) (by kernel_rfl) (hval 2 22 v2 rfl rfl) h2
  obtain ⟨a2_0, a2_1, a2_2, a2_3, rfl⟩ := list4 l2
  simp only [List.map_cons, List.map_nil] at e2
  subst e2
  clear hA0 hval0
  simp only [List.append_nil] at hW'
  refine (walk a0 w0 a1 w1 a2_0 a2_1 a2_2 a2_3 (y2 _ (by simp)) (y2 _ (by simp)) (y2 _ (by simp)) (y2 _ (by simp)) W).mono fun e W' ⟨he, hb⟩ => ?_
  subst he
  exact ⟨_, rfl, kept_post (pa := []) hW' (fun _ _ _ => (trodAll_cons_mk (shut_bool Try.underlying4 _) trodAll_mk0)) (fun sp _ => (trodAll_cons_mk (shut_int Try.underlying3 w0) (trodAll_cons_mk (shut_int Try.underlying3 w1) (trodAll_cons_mk (shut_arr Try.underlying22 Try.underlying3 (by kernel_rfl) (by kernel_rfl) rfl y2) trodAll_mk0)))) (fun _ => rfl) hb (ok_one (by kernel_rfl) rfl (okWide_bool_mk Try.underlying4 _))⟩

theorem over : Rows.collideMatchesRow.holds Try.pinned (OpenSpec.ofChange Rows.collideMatchesSpec) :=
  OpenClaim.holds_of_wide 3 Try.f3 rfl rfl rfl rfl rfl rfl rfl ⟨rfl, rfl, rfl, rfl, rfl⟩ rfl rfl rfl rfl rfl (by kernel_rfl) Try.func3 (by kernel_rfl)
    (of_decide_eq_true (by kernel_rfl)) (by unfold Func.isWrapper; first | (rw [if_pos (by decide +kernel)]; kernel_rfl) | (rw [if_neg (by decide +kernel)]; exact ⟨rfl, rfl⟩))
    (fun os started H enc _ => lifted os started H enc)

theorem proved : Rows.CollideMatchesSaid :=
  over
#print axioms proved
end Go.Proofs.Ytfbgghkkgmgnjaa.collideMatches
