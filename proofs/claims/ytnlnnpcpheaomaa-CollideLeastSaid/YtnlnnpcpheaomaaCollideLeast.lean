/-
  package collide, P5.1, P5.2, P5.5: for all pairs of generated shapes and positions, they collide exactly if their bounds overlap and the depth along every axis is positive; Depth is the least one, had along the normal or its opposite, and the normal does not point from the second shape to the first; and the section's example holds; whatever the arguments are.
-/
import Derived.Test.YtnlnnpcpheaomaaRows
import Derived.WalkKit
import Derived.ProofKit
import Derived.OpenShut
import Derived.Test.YtnlnnpcpheaomaaLawKit
import Derived.Test.YtnlnnpcpheaomaaCollM
import Derived.WalkLawsBesides
import Derived.Deep.DeepCutAuto
import Derived.Deep.CutBlock
namespace Go.Proofs.Ytnlnnpcpheaomaa.collideLeast
open Go.ChangeShapes Go.WideShapes Go.ChangeAt Go.RowKit
set_option linter.unusedVariables false
set_option linter.unusedSimpArgs false

open Fxm
theorem own : ownKnob Try.prog.godebug = none := by kernel_rfl

set_option maxRecDepth 100000 in
set_option maxHeartbeats 8000000 in
theorem walk (a0 : Int) (w0 : (Lit.int .i64 a0).wf = true) (a1 : Int) (w1 : (Lit.int .i64 a1).wf = true) (a2_0 : Int) (a2_1 : Int) (a2_2 : Int) (a2_3 : Int) (w2_0 : (Lit.int .i64 a2_0).wf = true) (w2_1 : (Lit.int .i64 a2_1).wf = true) (w2_2 : (Lit.int .i64 a2_2).wf = true) (w2_3 : (Lit.int .i64 a2_3).wf = true) (w : World) :
    Calls Try.prog 4 #[.int .i64 a0, .int .i64 a1, .agg #[.int .i64 a2_0, .int .i64 a2_1, .int .i64 a2_2, .int .i64 a2_3]] w fun e w' => e = .returned (.bool true) ∧ Below w.heap.size w w' := by
  go_enter Try.func4, Try.ntmps4
  go_wp2_with fail
  refine (shapes_any _ _ w0).mono ?_
  rintro e u1 ⟨s, rfl, hs, hb1⟩
  have l0 : u1.cell? ⟨w.heap.size, 0, none⟩ = some (.int .i64 a2_0) := carry hb1 (by simp [go_sem])
  have l1 : u1.cell? ⟨w.heap.size, 1, none⟩ = some (.int .i64 a2_1) := carry hb1 (by simp [go_sem])
  have l2 : u1.cell? ⟨w.heap.size, 2, none⟩ = some (.int .i64 a2_2) := carry hb1 (by simp [go_sem])
  have l3 : u1.cell? ⟨w.heap.size, 3, none⟩ = some (.int .i64 a2_3) := carry hb1 (by simp [go_sem])
  have hB := below_step (alloc_below w (.cells #[.int .i64 a2_0, .int .i64 a2_1, .int .i64 a2_2, .int .i64 a2_3] 22)) hb1
  clear hb1
  go_upto_region 2 with fail
  have sA0 := World.cell?_alloc_new (w := u1) #[.int .i64 s.r, .slice s.a s.n s.cap] 25 0
  have sA1 := World.cell?_alloc_new (w := u1) #[.int .i64 s.r, .slice s.a s.n s.cap] 25 1
  simp only [List.getElem?_toArray, List.getElem?_cons_zero, List.getElem?_cons_succ] at sA0 sA1
  have hb1 := alloc_below u1 (.cells #[.int .i64 s.r, .slice s.a s.n s.cap] 25)
  generalize u1.alloc (.cells #[.int .i64 s.r, .slice s.a s.n s.cap] 25) = v1 at *
  replace l0 := carry (hb1) l0
  replace l1 := carry (hb1) l1
  replace l2 := carry (hb1) l2
  replace l3 := carry (hb1) l3
  replace hB := below_step hB hb1
  replace hs := hs.carry hb1
  clear hb1
  go_wp2_with fail
  refine (shapes_any _ _ w1).mono ?_
  rintro e u2 ⟨t, rfl, ht, hb1⟩
  replace l0 := carry (hb1) l0
  replace l1 := carry (hb1) l1
  replace l2 := carry (hb1) l2
  replace l3 := carry (hb1) l3
  replace sA0 := carry (hb1) sA0
  replace sA1 := carry (hb1) sA1
  replace hB := below_step hB hb1
  replace hs := hs.carry hb1
  clear hb1
  go_upto_region 3 with fail
  have tA0 := World.cell?_alloc_new (w := u2) #[.int .i64 t.r, .slice t.a t.n t.cap] 25 0
  have tA1 := World.cell?_alloc_new (w := u2) #[.int .i64 t.r, .slice t.a t.n t.cap] 25 1
  simp only [List.getElem?_toArray, List.getElem?_cons_zero, List.getElem?_cons_succ] at tA0 tA1
  have hb1 := alloc_below u2 (.cells #[.int .i64 t.r, .slice t.a t.n t.cap] 25)
  generalize u2.alloc (.cells #[.int .i64 t.r, .slice t.a t.n t.cap] 25) = v2 at *
  replace l0 := carry (hb1) l0
  replace l1 := carry (hb1) l1
  replace l2 := carry (hb1) l2
  replace l3 := carry (hb1) l3
  replace sA0 := carry (hb1) sA0
  replace sA1 := carry (hb1) sA1
  replace hB := below_step hB hb1
  replace hs := hs.carry hb1
  replace ht := ht.carry hb1
  clear hb1
  go_wp2_with fail
  refine (place_any s t _ _ _ _ _ hs ht w2_0 w2_1 w2_2 w2_3).mono ?_
  rintro e u3 ⟨⟨p0, p1, q0, q1, ⟨bp0, bp1, bq0, bq1⟩, rfl⟩, hb1⟩
  replace sA0 := carry (hb1) sA0
  replace sA1 := carry (hb1) sA1
  replace tA0 := carry (hb1) tA0
  replace tA1 := carry (hb1) tA1
  replace hB := below_step hB hb1
  replace hs := hs.carry hb1
  replace ht := ht.carry hb1
  clear hb1 l0 l1 l2 l3
  go_upto_region 4 with fail
  have hb1 := below_step (alloc_below u3 (.cells #[.int .i64 p0, .int .i64 p1] 28)) (alloc_below _ (.cells #[.int .i64 q0, .int .i64 q1] 28))
  have vp0 : ((u3.alloc (.cells #[.int .i64 p0, .int .i64 p1] 28)).alloc (.cells #[.int .i64 q0, .int .i64 q1] 28)).cell? ⟨u3.heap.size, 0, none⟩ = some (.int .i64 p0) := by simp [go_sem]
  have vp1 : ((u3.alloc (.cells #[.int .i64 p0, .int .i64 p1] 28)).alloc (.cells #[.int .i64 q0, .int .i64 q1] 28)).cell? ⟨u3.heap.size, 1, none⟩ = some (.int .i64 p1) := by simp [go_sem]
  have vq0 : ((u3.alloc (.cells #[.int .i64 p0, .int .i64 p1] 28)).alloc (.cells #[.int .i64 q0, .int .i64 q1] 28)).cell? ⟨u3.heap.size + 1, 0, none⟩ = some (.int .i64 q0) := by simp [go_sem]
  have vq1 : ((u3.alloc (.cells #[.int .i64 p0, .int .i64 p1] 28)).alloc (.cells #[.int .i64 q0, .int .i64 q1] 28)).cell? ⟨u3.heap.size + 1, 1, none⟩ = some (.int .i64 q1) := by simp [go_sem]
  replace sA0 := carry (hb1) sA0
  replace sA1 := carry (hb1) sA1
  replace tA0 := carry (hb1) tA0
  replace tA1 := carry (hb1) tA1
  replace hB := below_step hB hb1
  replace hs := Lib.hid (hs.carry hb1)
  replace ht := Lib.hid (ht.carry hb1)
  generalize (u3.alloc (.cells #[.int .i64 p0, .int .i64 p1] 28)).alloc (.cells #[.int .i64 q0, .int .i64 q1] 28) = v3 at *
  clear hb1
  have ep0 : Be p0 := be_of (by omega) (by omega)
  have ep1 : Be p1 := be_of (by omega) (by omega)
  have eq0 : Be q0 := be_of (by omega) (by omega)
  have eq1 : Be q1 := be_of (by omega) (by omega)
  have K1 := fun w (h : Sh w s) => h.bounds p0 p1 ep0.bp ep1.bp
  have K2 := fun w (h : Sh w t) => h.bounds q0 q1 eq0.bp eq1.bp
  have K3 := fun w => ovl_any (p0 + s.xa) (p1 + s.ya) (p0 + s.xb) (p1 + s.yb) (q0 + t.xa) (q1 + t.ya) (q0 + t.xb) (q1 + t.yb) w
  obtain ⟨ob, hob⟩ : ∃ ob, ob = Bo.ov ⟨p0 + s.xa, p1 + s.ya, p0 + s.xb, p1 + s.yb⟩ ⟨q0 + t.xa, q1 + t.ya, q0 + t.xb, q1 + t.yb⟩ := ⟨_, rfl⟩
  rw [← hob] at K3
  have hob' := Lib.hid (show ob = true ↔ Bo.Ov (bxS s (p0, p1)) (bxS t (q0, q1)) from by rw [hob]; exact Bo.ov_iff)
  clear hob
  generalize p0 + s.xa = X0 at *
  generalize p1 + s.ya = X1 at *
  generalize p0 + s.xb = X2 at *
  generalize p1 + s.yb = X3 at *
  generalize q0 + t.xa = Y0 at *
  generalize q1 + t.ya = Y1 at *
  generalize q0 + t.xb = Y2 at *
  generalize q1 + t.yb = Y3 at *
  have hk := Lib.hid (And.intro K1 (And.intro K2 K3))
  clear K1 K2 K3
  have he := Lib.hid (And.intro ep0 (And.intro ep1 (And.intro eq0 eq1)))
  clear bp0 bp1 bq0 bq1 ep0 ep1 eq0 eq1
  refine wp_region_made (by kernel_rfl) (by kernel_rfl) ?_
  intro W hK
  have g_sA0 := fun x => carry ((hK.below x)) sA0
  have g_sA1 := fun x => carry ((hK.below x)) sA1
  have g_tA0 := fun x => carry ((hK.below x)) tA0
  have g_tA1 := fun x => carry ((hK.below x)) tA1
  have g_vp0 := fun x => carry ((hK.below x)) vp0
  have g_vp1 := fun x => carry ((hK.below x)) vp1
  have g_vq0 := fun x => carry ((hK.below x)) vq0
  have g_vq1 := fun x => carry ((hK.below x)) vq1
  repeat (go_big_quiet_step ((first | (go_at_call 20; with_reducible exact met_made (hk.out.1 _ (hs.out.carry (hK.below _)))) | (go_at_call 20; with_reducible exact met_made (hk.out.2.1 _ (ht.out.carry (hK.below _)))) | (go_at_call 19; with_reducible exact met_made (hk.out.2.2 _)))))
  refine wpQuiet_nil ?_
  intro wq hw'
  have hbq := kept_in hK hw'
  clear g_sA0 g_sA1 g_tA0 g_tA1 g_vp0 g_vp1 g_vq0 g_vq1
  clear hw' hK W
  replace sA0 := carry (hbq) sA0
  replace sA1 := carry (hbq) sA1
  replace tA0 := carry (hbq) tA0
  replace tA1 := carry (hbq) tA1
  replace vp0 := carry (hbq) vp0
  replace vp1 := carry (hbq) vp1
  replace vq0 := carry (hbq) vq0
  replace vq1 := carry (hbq) vq1
  replace hB := below_step hB hbq
  replace hs := Lib.hid (hs.out.carry hbq)
  replace ht := Lib.hid (ht.out.carry hbq)
  clear hbq hk
  go_wp2_with fail
  refine (axesOf_any s t p0 p1 q0 q1 _ hs.out ht.out he.out.1 he.out.2.1 he.out.2.2.1 he.out.2.2.2).mono ?_
  rintro e w4 ⟨g, cap, rfl, hown, hb1⟩
  have hlen : (axesV s t (p0, p1) (q0, q1)).length = ndir s t := lst_len _ _
  have hR := Row.owned hown hlen
  replace sA0 := carry (hb1) sA0
  replace sA1 := carry (hb1) sA1
  replace tA0 := carry (hb1) tA0
  replace tA1 := carry (hb1) tA1
  replace vp0 := carry (hb1) vp0
  replace vp1 := carry (hb1) vp1
  replace vq0 := carry (hb1) vq0
  replace vq1 := carry (hb1) vq1
  replace hB := below_step hB hb1
  replace hs := Lib.hid (hs.out.carry hb1)
  replace ht := Lib.hid (ht.out.carry hb1)
  clear hb1
  have hn1 := ndir_pos (t := t) hs.out
  have hn13 := ndir_le hs.out ht.out
  clear hown
  go_wp2_with fail
  refine (col_any s t p0 p1 q0 q1 _ hs.out ht.out he.out.1 he.out.2.1 he.out.2.2.1 he.out.2.2.2).mono ?_
  rintro e w5 ⟨rfl, hb1⟩
  replace hR := hR.carry hb1
  replace sA0 := carry (hb1) sA0
  replace sA1 := carry (hb1) sA1
  replace tA0 := carry (hb1) tA0
  replace tA1 := carry (hb1) tA1
  replace vp0 := carry (hb1) vp0
  replace vp1 := carry (hb1) vp1
  replace vq0 := carry (hb1) vq0
  replace vq1 := carry (hb1) vq1
  replace hB := below_step hB hb1
  replace hs := Lib.hid (hs.out.carry hb1)
  replace ht := Lib.hid (ht.out.carry hb1)
  clear hb1
  have hC := Lib.hid (col_facts (t := t) (p := (p0, p1)) (q := (q0, q1)) hs.out)
  have hax := Lib.hid (show ∀ k, k < ndir s t → at' (axesV s t (p0, p1) (q0, q1)) k = axisV s t (p0, p1) (q0, q1) k from fun k hk => lst_at _ hk)
  generalize (colN s t (p0, p1) (q0, q1)).1 = c0 at *
  generalize (colN s t (p0, p1) (q0, q1)).2.1 = c1 at *
  generalize (colN s t (p0, p1) (q0, q1)).2.2 = c2 at *
  generalize colB s t (p0, p1) (q0, q1) = cb at *
  generalize axesV s t (p0, p1) (q0, q1) = AX at *
  obtain ⟨D, hD⟩ : ∃ D, D = dpt s t (p0, p1) (q0, q1) := ⟨_, rfl⟩
  obtain ⟨ax, haxx⟩ : ∃ ax, ax = axisV s t (p0, p1) (q0, q1) := ⟨_, rfl⟩
  have hDA := Lib.hid (And.intro hD haxx)
  clear hD haxx
  obtain ⟨ND, hND⟩ : ∃ ND, ND = ndir s t := ⟨_, rfl⟩
  have hND' := Lib.hid hND
  rw [← hND] at hn1 hn13 hlen ⊢
  clear hND
  have hcp := hR.le
  have hcm := hR.max
  unfold maxLen at hcm
  rw [hlen] at hcp
  have hlen' := Lib.hid hlen
  clear hlen
  go_upto_region 7 with fail
  have vc0 := World.cell?_alloc_new (w := w5) #[.int .i64 c0, .int .i64 c1, .int .i64 c2] 34 0
  have vc1 := World.cell?_alloc_new (w := w5) #[.int .i64 c0, .int .i64 c1, .int .i64 c2] 34 1
  have vc2 := World.cell?_alloc_new (w := w5) #[.int .i64 c0, .int .i64 c1, .int .i64 c2] 34 2
  simp only [List.getElem?_toArray, List.getElem?_cons_zero, List.getElem?_cons_succ] at vc0 vc1 vc2
  have hb1 := alloc_below w5 (.cells #[.int .i64 c0, .int .i64 c1, .int .i64 c2] 34)
  generalize w5.alloc (.cells #[.int .i64 c0, .int .i64 c1, .int .i64 c2] 34) = v5 at *
  replace hR := Lib.hid (hR.carry hb1)
  replace sA0 := carry (hb1) sA0
  replace sA1 := carry (hb1) sA1
  replace tA0 := carry (hb1) tA0
  replace tA1 := carry (hb1) tA1
  replace vp0 := carry (hb1) vp0
  replace vp1 := carry (hb1) vp1
  replace vq0 := carry (hb1) vq0
  replace vq1 := carry (hb1) vq1
  replace hB := below_step hB hb1
  replace hs := Lib.hid (hs.out.carry hb1)
  replace ht := Lib.hid (ht.out.carry hb1)
  clear hb1
  go_wp2_with fail
  go_loopw [15, 16, 17] (fun l b i wr => ∃ (k : Nat) (bb : Bool), k ≤ ND ∧ i = .int .i64 k ∧ l = .int .i64 (leastV D k) ∧ b = .bool bb ∧ ((∃ j, j < k ∧ Met ax D c0 c1 c2 j) → bb = true) ∧ Below v5.heap.size v5 wr) (fun _ _ i _ => ND - (intOf i).toNat)
  case atStart => exact ⟨0, false, Nat.zero_le _, rfl, rfl, rfl, fun ⟨j, h, _⟩ => absurd h (Nat.not_lt_zero _), Below.refl _ _⟩
  case round =>
    obtain ⟨k, bb, hkl, rfl, rfl, rfl, hatt, hbl⟩ := hrel
    have hatt' := Lib.hid hatt
    clear hatt
    by_cases hlt : k < ND
    · skip
      replace sA0 := carry (hbl) sA0
      replace sA1 := carry (hbl) sA1
      replace tA0 := carry (hbl) tA0
      replace tA1 := carry (hbl) tA1
      replace vp0 := carry (hbl) vp0
      replace vp1 := carry (hbl) vp1
      replace vq0 := carry (hbl) vq0
      replace vq1 := carry (hbl) vq1
      replace vc0 := carry (hbl) vc0
      replace vc1 := carry (hbl) vc1
      replace vc2 := carry (hbl) vc2
      have hRr := hR.out.carry hbl
      have hsr := Lib.hid (hs.out.carry hbl)
      have htr := Lib.hid (ht.out.carry hbl)
      have hbl' := Lib.hid hbl
      obtain ⟨vx, vy⟩ := hRr.at (i := k) (by rw [hlen'.out]; exact hlt)
      rw [hax.out k (by rw [← hND'.out]; exact hlt)] at vx vy
      have hbd := axis_bd s t (p0, p1) (q0, q1) k
      have kP1 := fun w (h : Sh w s) => h.project p0 p1 (axisV s t (p0, p1) (q0, q1) k).1 (axisV s t (p0, p1) (q0, q1) k).2 he.out.1.bp he.out.2.1.bp (small_bd' hbd.1) (small_bd' hbd.2)
      have kP2 := fun w (h : Sh w t) => h.project q0 q1 (axisV s t (p0, p1) (q0, q1) k).1 (axisV s t (p0, p1) (q0, q1) k).2 he.out.2.2.1.bp he.out.2.2.2.bp (small_bd' hbd.1) (small_bd' hbd.2)
      have d1 := hs.out.proj_bd he.out.1.bp he.out.2.1.bp (small_bd' hbd.1) (small_bd' hbd.2)
      have d2 := ht.out.proj_bd he.out.2.2.1.bp he.out.2.2.2.bp (small_bd' hbd.1) (small_bd' hbd.2)
      have hdk : D k = min (s.ph p0 p1 (axisV s t (p0, p1) (q0, q1) k).1 (axisV s t (p0, p1) (q0, q1) k).2) (t.ph q0 q1 (axisV s t (p0, p1) (q0, q1) k).1 (axisV s t (p0, p1) (q0, q1) k).2) - max (s.pl p0 p1 (axisV s t (p0, p1) (q0, q1) k).1 (axisV s t (p0, p1) (q0, q1) k).2) (t.pl q0 q1 (axisV s t (p0, p1) (q0, q1) k).1 (axisV s t (p0, p1) (q0, q1) k).2) := by rw [hDA.out.1]; rfl
      have hA0 : (ax k).1 = (axisV s t (p0, p1) (q0, q1) k).1 := by rw [hDA.out.2]
      have hA1 : (ax k).2 = (axisV s t (p0, p1) (q0, q1) k).2 := by rw [hDA.out.2]
      have kN := fun w => neg_any (axisV s t (p0, p1) (q0, q1) k).1 (axisV s t (p0, p1) (q0, q1) k).2 w (small_bd' hbd.1) (small_bd' hbd.2)
      generalize (axisV s t (p0, p1) (q0, q1) k).1 = x0 at *
      generalize (axisV s t (p0, p1) (q0, q1) k).2 = x1 at *
      generalize s.pl p0 p1 x0 x1 = sl at *
      generalize s.ph p0 p1 x0 x1 = sh at *
      generalize t.pl q0 q1 x0 x1 = tl at *
      generalize t.ph q0 q1 x0 x1 = th at *
      have hmn := min_if sh th
      have hmx := max_if sl tl
      obtain ⟨mn, hmn'⟩ : ∃ m, m = min sh th := ⟨_, rfl⟩
      obtain ⟨mx, hmx'⟩ : ∃ m, m = max sl tl := ⟨_, rfl⟩
      rw [← hmn'] at hmn hdk
      rw [← hmx'] at hmx hdk
      have hb1 : -9223372036854775808 ≤ mn - mx := by omega
      have hb2 : mn - mx ≤ 9223372036854775807 := by omega
      obtain ⟨d, hd⟩ : ∃ d, d = mn - mx := ⟨_, rfl⟩
      rw [← hd] at hdk hb1 hb2
      have hd' := Lib.hid hd
      have hkk := Lib.hid (And.intro kP1 (And.intro kP2 kN))
      have hmm := Lib.hid (And.intro hmn hmx)
      have hN := Lib.hid (And.intro hdk (And.intro hA0 hA1))
      obtain ⟨lv, hlv⟩ : ∃ lv, lv = leastV D k := ⟨_, rfl⟩
      have hlv' := Lib.hid hlv
      rw [← hlv]
      have hkci : (k : Int) < (ND : Int) := by omega
      clear kP1 kP2 kN d1 d2 hmn' hmx' hmn hmx hdk hA0 hA1 hRr hbl hbd hd hlv
      go_wp2_with fail
      refine wp_region_made (by kernel_rfl) (by kernel_rfl) ?_
      intro W hK
      have g_sA0 := fun x => carry ((hK.below x)) sA0
      have g_sA1 := fun x => carry ((hK.below x)) sA1
      have g_tA0 := fun x => carry ((hK.below x)) tA0
      have g_tA1 := fun x => carry ((hK.below x)) tA1
      have g_vp0 := fun x => carry ((hK.below x)) vp0
      have g_vp1 := fun x => carry ((hK.below x)) vp1
      have g_vq0 := fun x => carry ((hK.below x)) vq0
      have g_vq1 := fun x => carry ((hK.below x)) vq1
      have g_vc0 := fun x => carry ((hK.below x)) vc0
      have g_vc1 := fun x => carry ((hK.below x)) vc1
      have g_vc2 := fun x => carry ((hK.below x)) vc2
      have g_vx := fun x => carry ((hK.below x)) vx
      have g_vy := fun x => carry ((hK.below x)) vy
      repeat (go_big_quiet_step ((go_at_call 21; with_reducible exact met_made (hkk.out.1 _ (hsr.out.carry (hK.below _))))))
      refine wpQuiet_nil ?_
      intro wq hw'
      have hbq := kept_in hK hw'
      clear g_sA0 g_sA1 g_tA0 g_tA1 g_vp0 g_vp1 g_vq0 g_vq1 g_vc0 g_vc1 g_vc2 g_vx g_vy
      clear hw' hK W
      replace sA0 := carry (hbq) sA0
      replace sA1 := carry (hbq) sA1
      replace tA0 := carry (hbq) tA0
      replace tA1 := carry (hbq) tA1
      replace vp0 := carry (hbq) vp0
      replace vp1 := carry (hbq) vp1
      replace vq0 := carry (hbq) vq0
      replace vq1 := carry (hbq) vq1
      replace vc0 := carry (hbq) vc0
      replace vc1 := carry (hbq) vc1
      replace vc2 := carry (hbq) vc2
      replace vx := carry (hbq) vx
      replace vy := carry (hbq) vy
      replace hsr := Lib.hid (hsr.out.carry hbq)
      replace htr := Lib.hid (htr.out.carry hbq)
      replace hbl' := Lib.hid (below_step hbl'.out hbq)
      clear hbq
      go_upto_region 13 with fail
      refine wp_region_made (by kernel_rfl) (by kernel_rfl) ?_
      intro W hK
      have g_sA0 := fun x => carry ((hK.below x)) sA0
      have g_sA1 := fun x => carry ((hK.below x)) sA1
      have g_tA0 := fun x => carry ((hK.below x)) tA0
      have g_tA1 := fun x => carry ((hK.below x)) tA1
      have g_vp0 := fun x => carry ((hK.below x)) vp0
      have g_vp1 := fun x => carry ((hK.below x)) vp1
      have g_vq0 := fun x => carry ((hK.below x)) vq0
      have g_vq1 := fun x => carry ((hK.below x)) vq1
      have g_vc0 := fun x => carry ((hK.below x)) vc0
      have g_vc1 := fun x => carry ((hK.below x)) vc1
      have g_vc2 := fun x => carry ((hK.below x)) vc2
      have g_vx := fun x => carry ((hK.below x)) vx
      have g_vy := fun x => carry ((hK.below x)) vy
      repeat (go_big_quiet_step ((go_at_call 21; with_reducible exact met_made (hkk.out.2.1 _ (htr.out.carry (hK.below _))))))
      refine wpQuiet_nil ?_
      intro wq hw'
      have hbq := kept_in hK hw'
      clear g_sA0 g_sA1 g_tA0 g_tA1 g_vp0 g_vp1 g_vq0 g_vq1 g_vc0 g_vc1 g_vc2 g_vx g_vy
      clear hw' hK W
      replace sA0 := carry (hbq) sA0
      replace sA1 := carry (hbq) sA1
      replace tA0 := carry (hbq) tA0
      replace tA1 := carry (hbq) tA1
      replace vp0 := carry (hbq) vp0
      replace vp1 := carry (hbq) vp1
      replace vq0 := carry (hbq) vq0
      replace vq1 := carry (hbq) vq1
      replace vc0 := carry (hbq) vc0
      replace vc1 := carry (hbq) vc1
      replace vc2 := carry (hbq) vc2
      replace vx := carry (hbq) vx
      replace vy := carry (hbq) vy
      replace hbl' := Lib.hid (below_step hbl'.out hbq)
      clear hbq
      have hmn := hmm.out.1
      have hmx := hmm.out.2
      go_upto_region 15 with fail
      rw [show wrap64 (mn - mx) = d from by rw [hd'.out]; exact IntWalk.wrap64_in _ ⟨by rw [← hd'.out]; exact hb1, by rw [← hd'.out]; exact hb2⟩]
      have hDd : D k = d := hN.out.1
      have hDd' := Lib.hid hDd
      clear hDd hb1 hb2 hmn hmx
      by_cases hk0 : k = 0
      · have h1 : ((k : Int) == 0) = true := by simp [hk0]
        have hnl := Lib.hid (show .int .i64 d = Value.int .i64 (leastV D (k + 1)) from by rw [least_new (.inl hk0), hDd'.out])
        have hk0' := Lib.hid hk0
        clear hk0
        go_upto_region 17 with fail
        have hbg := hbl'
        clear sA0 sA1 tA0 tA1 vp0 vp1 vq0 vq1
        rcases Bool.eq_false_or_eq_true bb with hbb | hbb
        · subst hbb
          refine wp_region_made (by kernel_rfl) (by kernel_rfl) ?_
          intro W hK
          have g_vc0 := fun x => carry ((hK.below x)) vc0
          have g_vc1 := fun x => carry ((hK.below x)) vc1
          have g_vc2 := fun x => carry ((hK.below x)) vc2
          have g_vx := fun x => carry ((hK.below x)) vx
          have g_vy := fun x => carry ((hK.below x)) vy
          repeat (go_big_quiet_step (((go_at_call 22; with_reducible exact met_made (hkk.out.2.2 _)))))
          refine wpQuiet_nil ?_
          intro wq hw'
          have hbq := kept_in hK hw'
          clear g_vc0 g_vc1 g_vc2 g_vx g_vy
          clear hw' hK W
          replace vc0 := carry (hbq) vc0
          replace vc1 := carry (hbq) vc1
          replace vc2 := carry (hbq) vc2
          replace vx := carry (hbq) vx
          replace vy := carry (hbq) vy
          have hbw' := Lib.hid (below_step hbg.out hbq)
          have hat := Lib.hid (att_succ (b' := true) hatt'.out (fun _ => rfl) (fun _ => rfl))
          clear hbq
          go_wp2
          go_roundw
          case rel => exact ⟨k + 1, true, by omega, by go_num, hnl.out, rfl, hat.out, hbw'.out⟩
          case measure => simp [intOf]; omega
        · subst hbb
          by_cases hdc : d = c2
          · have hdh := Lib.hid hdc
            rw [← hdc] at vc2
            clear hdc
            by_cases e0 : x0 = c0 ∧ x1 = c1
            · have eh := Lib.hid e0
              rw [← e0.1] at vc0
              rw [← e0.2] at vc1
              clear e0
              refine wp_region_made (by kernel_rfl) (by kernel_rfl) ?_
              intro W hK
              have g_vc0 := fun x => carry ((hK.below x)) vc0
              have g_vc1 := fun x => carry ((hK.below x)) vc1
              have g_vc2 := fun x => carry ((hK.below x)) vc2
              have g_vx := fun x => carry ((hK.below x)) vx
              have g_vy := fun x => carry ((hK.below x)) vy
              repeat (go_big_quiet_step (((go_at_call 22; with_reducible exact met_made (hkk.out.2.2 _)))))
              refine wpQuiet_nil ?_
              intro wq hw'
              have hbq := kept_in hK hw'
              clear g_vc0 g_vc1 g_vc2 g_vx g_vy
              clear hw' hK W
              replace vc0 := carry (hbq) vc0
              replace vc1 := carry (hbq) vc1
              replace vc2 := carry (hbq) vc2
              replace vx := carry (hbq) vx
              replace vy := carry (hbq) vy
              have hbw' := Lib.hid (below_step hbg.out hbq)
              have hat := Lib.hid (att_succ (b' := true) hatt'.out (fun _ => rfl) (fun _ => rfl))
              clear hbq
              go_wp2
              go_roundw
              case rel => exact ⟨k + 1, true, by omega, by go_num, hnl.out, rfl, hat.out, hbw'.out⟩
              case measure => simp [intOf]; omega
            · by_cases e2 : -x0 = c0 ∧ -x1 = c1
              · have eh := Lib.hid e2
                have e0' : ¬ (x0 = -x0 ∧ x1 = -x1) := fun h => e0 ⟨by omega, by omega⟩
                rw [← e2.1] at vc0
                rw [← e2.2] at vc1
                clear e0 e2
                rcases (by omega : x0 ≠ -x0 ∨ (x0 = 0 ∧ x1 ≠ -x1)) with h0 | ⟨h0, h0'⟩
                · have f0 : decide (x0 = -x0) = false := decide_eq_false h0
                  clear e0'
                  refine wp_region_made (by kernel_rfl) (by kernel_rfl) ?_
                  intro W hK
                  have g_vc0 := fun x => carry ((hK.below x)) vc0
                  have g_vc1 := fun x => carry ((hK.below x)) vc1
                  have g_vc2 := fun x => carry ((hK.below x)) vc2
                  have g_vx := fun x => carry ((hK.below x)) vx
                  have g_vy := fun x => carry ((hK.below x)) vy
                  repeat (go_big_quiet_step (((go_at_call 22; with_reducible exact met_made (hkk.out.2.2 _)))))
                  refine wpQuiet_nil ?_
                  intro wq hw'
                  have hbq := kept_in hK hw'
                  clear g_vc0 g_vc1 g_vc2 g_vx g_vy
                  clear hw' hK W
                  replace vc0 := carry (hbq) vc0
                  replace vc1 := carry (hbq) vc1
                  replace vc2 := carry (hbq) vc2
                  replace vx := carry (hbq) vx
                  replace vy := carry (hbq) vy
                  have hbw' := Lib.hid (below_step hbg.out hbq)
                  have hat := Lib.hid (att_succ (b' := true) hatt'.out (fun _ => rfl) (fun _ => rfl))
                  clear hbq
                  go_wp2
                  go_roundw
                  case rel => exact ⟨k + 1, true, by omega, by go_num, hnl.out, rfl, hat.out, hbw'.out⟩
                  case measure => simp [intOf]; omega
                · have f1 : decide (x1 = -x1) = false := decide_eq_false h0'
                  have hz := Lib.hid h0
                  have g0 : x0 = -x0 := by omega
                  rw [← g0] at vc0
                  clear e0' g0 h0
                  have f3 : -x0 = x0 := by have := hz.out; omega
                  refine wp_region_made (by kernel_rfl) (by kernel_rfl) ?_
                  intro W hK
                  have g_vc0 := fun x => carry ((hK.below x)) vc0
                  have g_vc1 := fun x => carry ((hK.below x)) vc1
                  have g_vc2 := fun x => carry ((hK.below x)) vc2
                  have g_vx := fun x => carry ((hK.below x)) vx
                  have g_vy := fun x => carry ((hK.below x)) vy
                  repeat (go_big_quiet_step (((go_at_call 22; with_reducible exact met_made (hkk.out.2.2 _)))))
                  refine wpQuiet_nil ?_
                  intro wq hw'
                  have hbq := kept_in hK hw'
                  clear g_vc0 g_vc1 g_vc2 g_vx g_vy
                  clear hw' hK W
                  replace vc0 := carry (hbq) vc0
                  replace vc1 := carry (hbq) vc1
                  replace vc2 := carry (hbq) vc2
                  replace vx := carry (hbq) vx
                  replace vy := carry (hbq) vy
                  have hbw' := Lib.hid (below_step hbg.out hbq)
                  have hat := Lib.hid (att_succ (b' := true) hatt'.out (fun _ => rfl) (fun _ => rfl))
                  clear hbq
                  go_wp2
                  go_roundw
                  case rel => exact ⟨k + 1, true, by omega, by go_num, hnl.out, rfl, hat.out, hbw'.out⟩
                  case measure => simp [intOf]; omega
              · have hno := Lib.hid (show Met ax D c0 c1 c2 k → False from fun ⟨_, h⟩ => by rw [hN.out.2.1, hN.out.2.2] at h; omega)
                rcases (by omega : x0 ≠ c0 ∨ (x0 = c0 ∧ x1 ≠ c1)) with h0 | ⟨h0, h0'⟩
                · have f0 : decide (x0 = c0) = false := decide_eq_false h0
                  rcases (by omega : -x0 ≠ c0 ∨ (-x0 = c0 ∧ -x1 ≠ c1)) with h2 | ⟨h2, h2'⟩
                  · have f2 : decide (-x0 = c0) = false := decide_eq_false h2
                    clear e0 e2
                    refine wp_region_made (by kernel_rfl) (by kernel_rfl) ?_
                    intro W hK
                    have g_vc0 := fun x => carry ((hK.below x)) vc0
                    have g_vc1 := fun x => carry ((hK.below x)) vc1
                    have g_vc2 := fun x => carry ((hK.below x)) vc2
                    have g_vx := fun x => carry ((hK.below x)) vx
                    have g_vy := fun x => carry ((hK.below x)) vy
                    repeat (go_big_quiet_step (((go_at_call 22; with_reducible exact met_made (hkk.out.2.2 _)))))
                    refine wpQuiet_nil ?_
                    intro wq hw'
                    have hbq := kept_in hK hw'
                    clear g_vc0 g_vc1 g_vc2 g_vx g_vy
                    clear hw' hK W
                    replace vc0 := carry (hbq) vc0
                    replace vc1 := carry (hbq) vc1
                    replace vc2 := carry (hbq) vc2
                    replace vx := carry (hbq) vx
                    replace vy := carry (hbq) vy
                    have hbw' := Lib.hid (below_step hbg.out hbq)
                    have hat := Lib.hid (att_succ (b' := false) hatt'.out (fun h => absurd h (by decide)) (fun h => (hno.out h).elim))
                    clear hbq
                    go_wp2
                    go_roundw
                    case rel => exact ⟨k + 1, false, by omega, by go_num, hnl.out, rfl, hat.out, hbw'.out⟩
                    case measure => simp [intOf]; omega
                  · have f2 : decide (-x1 = c1) = false := decide_eq_false h2'
                    have h0' : x0 ≠ -x0 := by omega
                    have f0' : decide (x0 = -x0) = false := decide_eq_false h0'
                    rw [← h2] at vc0
                    have eh := Lib.hid h2
                    clear e0 e2 h2 h0 f0
                    refine wp_region_made (by kernel_rfl) (by kernel_rfl) ?_
                    intro W hK
                    have g_vc0 := fun x => carry ((hK.below x)) vc0
                    have g_vc1 := fun x => carry ((hK.below x)) vc1
                    have g_vc2 := fun x => carry ((hK.below x)) vc2
                    have g_vx := fun x => carry ((hK.below x)) vx
                    have g_vy := fun x => carry ((hK.below x)) vy
                    repeat (go_big_quiet_step (((go_at_call 22; with_reducible exact met_made (hkk.out.2.2 _)))))
                    refine wpQuiet_nil ?_
                    intro wq hw'
                    have hbq := kept_in hK hw'
                    clear g_vc0 g_vc1 g_vc2 g_vx g_vy
                    clear hw' hK W
                    replace vc0 := carry (hbq) vc0
                    replace vc1 := carry (hbq) vc1
                    replace vc2 := carry (hbq) vc2
                    replace vx := carry (hbq) vx
                    replace vy := carry (hbq) vy
                    have hbw' := Lib.hid (below_step hbg.out hbq)
                    have hat := Lib.hid (att_succ (b' := false) hatt'.out (fun h => absurd h (by decide)) (fun h => (hno.out h).elim))
                    clear hbq
                    go_wp2
                    go_roundw
                    case rel => exact ⟨k + 1, false, by omega, by go_num, hnl.out, rfl, hat.out, hbw'.out⟩
                    case measure => simp [intOf]; omega
                · have f0 : decide (x1 = c1) = false := decide_eq_false h0'
                  have eh := Lib.hid h0
                  rcases (by omega : -x0 ≠ x0 ∨ (-x0 = x0 ∧ -x1 ≠ c1)) with h2 | ⟨h2, h2'⟩
                  · have f2 : decide (-x0 = x0) = false := decide_eq_false h2
                    rw [← h0] at vc0
                    clear e0 e2 h0
                    refine wp_region_made (by kernel_rfl) (by kernel_rfl) ?_
                    intro W hK
                    have g_vc0 := fun x => carry ((hK.below x)) vc0
                    have g_vc1 := fun x => carry ((hK.below x)) vc1
                    have g_vc2 := fun x => carry ((hK.below x)) vc2
                    have g_vx := fun x => carry ((hK.below x)) vx
                    have g_vy := fun x => carry ((hK.below x)) vy
                    repeat (go_big_quiet_step (((go_at_call 22; with_reducible exact met_made (hkk.out.2.2 _)))))
                    refine wpQuiet_nil ?_
                    intro wq hw'
                    have hbq := kept_in hK hw'
                    clear g_vc0 g_vc1 g_vc2 g_vx g_vy
                    clear hw' hK W
                    replace vc0 := carry (hbq) vc0
                    replace vc1 := carry (hbq) vc1
                    replace vc2 := carry (hbq) vc2
                    replace vx := carry (hbq) vx
                    replace vy := carry (hbq) vy
                    have hbw' := Lib.hid (below_step hbg.out hbq)
                    have hat := Lib.hid (att_succ (b' := false) hatt'.out (fun h => absurd h (by decide)) (fun h => (hno.out h).elim))
                    clear hbq
                    go_wp2
                    go_roundw
                    case rel => exact ⟨k + 1, false, by omega, by go_num, hnl.out, rfl, hat.out, hbw'.out⟩
                    case measure => simp [intOf]; omega
                  · have f2 : decide (-x1 = c1) = false := decide_eq_false h2'
                    rw [← h0] at vc0
                    have eh2 := Lib.hid h2
                    clear e0 e2 h0 h2
                    refine wp_region_made (by kernel_rfl) (by kernel_rfl) ?_
                    intro W hK
                    have g_vc0 := fun x => carry ((hK.below x)) vc0
                    have g_vc1 := fun x => carry ((hK.below x)) vc1
                    have g_vc2 := fun x => carry ((hK.below x)) vc2
                    have g_vx := fun x => carry ((hK.below x)) vx
                    have g_vy := fun x => carry ((hK.below x)) vy
                    repeat (go_big_quiet_step (((go_at_call 22; with_reducible exact met_made (hkk.out.2.2 _)))))
                    refine wpQuiet_nil ?_
                    intro wq hw'
                    have hbq := kept_in hK hw'
                    clear g_vc0 g_vc1 g_vc2 g_vx g_vy
                    clear hw' hK W
                    replace vc0 := carry (hbq) vc0
                    replace vc1 := carry (hbq) vc1
                    replace vc2 := carry (hbq) vc2
                    replace vx := carry (hbq) vx
                    replace vy := carry (hbq) vy
                    have hbw' := Lib.hid (below_step hbg.out hbq)
                    have hat := Lib.hid (att_succ (b' := false) hatt'.out (fun h => absurd h (by decide)) (fun h => (hno.out h).elim))
                    clear hbq
                    go_wp2
                    go_roundw
                    case rel => exact ⟨k + 1, false, by omega, by go_num, hnl.out, rfl, hat.out, hbw'.out⟩
                    case measure => simp [intOf]; omega
          · have hdd : decide (d = c2) = false := decide_eq_false hdc
            have hdd2 : (d == c2) = false := by simp only [beq_eq_false_iff_ne, ne_eq]; exact hdc
            have hno := Lib.hid (show Met ax D c0 c1 c2 k → False from fun ⟨h, _⟩ => by rw [hN.out.1] at h; exact hdc h)
            clear hdc
            refine wp_region_made (by kernel_rfl) (by kernel_rfl) ?_
            intro W hK
            have g_vc0 := fun x => carry ((hK.below x)) vc0
            have g_vc1 := fun x => carry ((hK.below x)) vc1
            have g_vc2 := fun x => carry ((hK.below x)) vc2
            have g_vx := fun x => carry ((hK.below x)) vx
            have g_vy := fun x => carry ((hK.below x)) vy
            repeat (go_big_quiet_step (((go_at_call 22; with_reducible exact met_made (hkk.out.2.2 _)))))
            refine wpQuiet_nil ?_
            intro wq hw'
            have hbq := kept_in hK hw'
            clear g_vc0 g_vc1 g_vc2 g_vx g_vy
            clear hw' hK W
            replace vc0 := carry (hbq) vc0
            replace vc1 := carry (hbq) vc1
            replace vc2 := carry (hbq) vc2
            replace vx := carry (hbq) vx
            replace vy := carry (hbq) vy
            have hbw' := Lib.hid (below_step hbg.out hbq)
            have hat := Lib.hid (att_succ (b' := false) hatt'.out (fun h => absurd h (by decide)) (fun h => (hno.out h).elim))
            clear hbq
            go_wp2
            go_roundw
            case rel => exact ⟨k + 1, false, by omega, by go_num, hnl.out, rfl, hat.out, hbw'.out⟩
            case measure => simp [intOf]; omega
      · have h1 : ((k : Int) == 0) = false := by simp only [beq_eq_false_iff_ne, ne_eq]; omega
        have hk0' := Lib.hid hk0
        clear hk0
        by_cases hdl : d < lv
        · have hnl := Lib.hid (show .int .i64 d = Value.int .i64 (leastV D (k + 1)) from by rw [least_new (.inr (by rw [hDd'.out, ← hlv'.out]; exact hdl)), hDd'.out])
          go_upto_region 17 with fail
          have hbg := hbl'
          clear sA0 sA1 tA0 tA1 vp0 vp1 vq0 vq1
          rcases Bool.eq_false_or_eq_true bb with hbb | hbb
          · subst hbb
            refine wp_region_made (by kernel_rfl) (by kernel_rfl) ?_
            intro W hK
            have g_vc0 := fun x => carry ((hK.below x)) vc0
            have g_vc1 := fun x => carry ((hK.below x)) vc1
            have g_vc2 := fun x => carry ((hK.below x)) vc2
            have g_vx := fun x => carry ((hK.below x)) vx
            have g_vy := fun x => carry ((hK.below x)) vy
            repeat (go_big_quiet_step (((go_at_call 22; with_reducible exact met_made (hkk.out.2.2 _)))))
            refine wpQuiet_nil ?_
            intro wq hw'
            have hbq := kept_in hK hw'
            clear g_vc0 g_vc1 g_vc2 g_vx g_vy
            clear hw' hK W
            replace vc0 := carry (hbq) vc0
            replace vc1 := carry (hbq) vc1
            replace vc2 := carry (hbq) vc2
            replace vx := carry (hbq) vx
            replace vy := carry (hbq) vy
            have hbw' := Lib.hid (below_step hbg.out hbq)
            have hat := Lib.hid (att_succ (b' := true) hatt'.out (fun _ => rfl) (fun _ => rfl))
            clear hbq
            go_wp2
            go_roundw
            case rel => exact ⟨k + 1, true, by omega, by go_num, hnl.out, rfl, hat.out, hbw'.out⟩
            case measure => simp [intOf]; omega
          · subst hbb
            by_cases hdc : d = c2
            · have hdh := Lib.hid hdc
              rw [← hdc] at vc2
              clear hdc
              by_cases e0 : x0 = c0 ∧ x1 = c1
              · have eh := Lib.hid e0
                rw [← e0.1] at vc0
                rw [← e0.2] at vc1
                clear e0
                refine wp_region_made (by kernel_rfl) (by kernel_rfl) ?_
                intro W hK
                have g_vc0 := fun x => carry ((hK.below x)) vc0
                have g_vc1 := fun x => carry ((hK.below x)) vc1
                have g_vc2 := fun x => carry ((hK.below x)) vc2
                have g_vx := fun x => carry ((hK.below x)) vx
                have g_vy := fun x => carry ((hK.below x)) vy
                repeat (go_big_quiet_step (((go_at_call 22; with_reducible exact met_made (hkk.out.2.2 _)))))
                refine wpQuiet_nil ?_
                intro wq hw'
                have hbq := kept_in hK hw'
                clear g_vc0 g_vc1 g_vc2 g_vx g_vy
                clear hw' hK W
                replace vc0 := carry (hbq) vc0
                replace vc1 := carry (hbq) vc1
                replace vc2 := carry (hbq) vc2
                replace vx := carry (hbq) vx
                replace vy := carry (hbq) vy
                have hbw' := Lib.hid (below_step hbg.out hbq)
                have hat := Lib.hid (att_succ (b' := true) hatt'.out (fun _ => rfl) (fun _ => rfl))
                clear hbq
                go_wp2
                go_roundw
                case rel => exact ⟨k + 1, true, by omega, by go_num, hnl.out, rfl, hat.out, hbw'.out⟩
                case measure => simp [intOf]; omega
              · by_cases e2 : -x0 = c0 ∧ -x1 = c1
                · have eh := Lib.hid e2
                  have e0' : ¬ (x0 = -x0 ∧ x1 = -x1) := fun h => e0 ⟨by omega, by omega⟩
                  rw [← e2.1] at vc0
                  rw [← e2.2] at vc1
                  clear e0 e2
                  rcases (by omega : x0 ≠ -x0 ∨ (x0 = 0 ∧ x1 ≠ -x1)) with h0 | ⟨h0, h0'⟩
                  · have f0 : decide (x0 = -x0) = false := decide_eq_false h0
                    clear e0'
                    refine wp_region_made (by kernel_rfl) (by kernel_rfl) ?_
                    intro W hK
                    have g_vc0 := fun x => carry ((hK.below x)) vc0
                    have g_vc1 := fun x => carry ((hK.below x)) vc1
                    have g_vc2 := fun x => carry ((hK.below x)) vc2
                    have g_vx := fun x => carry ((hK.below x)) vx
                    have g_vy := fun x => carry ((hK.below x)) vy
                    repeat (go_big_quiet_step (((go_at_call 22; with_reducible exact met_made (hkk.out.2.2 _)))))
                    refine wpQuiet_nil ?_
                    intro wq hw'
                    have hbq := kept_in hK hw'
                    clear g_vc0 g_vc1 g_vc2 g_vx g_vy
                    clear hw' hK W
                    replace vc0 := carry (hbq) vc0
                    replace vc1 := carry (hbq) vc1
                    replace vc2 := carry (hbq) vc2
                    replace vx := carry (hbq) vx
                    replace vy := carry (hbq) vy
                    have hbw' := Lib.hid (below_step hbg.out hbq)
                    have hat := Lib.hid (att_succ (b' := true) hatt'.out (fun _ => rfl) (fun _ => rfl))
                    clear hbq
                    go_wp2
                    go_roundw
                    case rel => exact ⟨k + 1, true, by omega, by go_num, hnl.out, rfl, hat.out, hbw'.out⟩
                    case measure => simp [intOf]; omega
                  · have f1 : decide (x1 = -x1) = false := decide_eq_false h0'
                    have hz := Lib.hid h0
                    have g0 : x0 = -x0 := by omega
                    rw [← g0] at vc0
                    clear e0' g0 h0
                    have f3 : -x0 = x0 := by have := hz.out; omega
                    refine wp_region_made (by kernel_rfl) (by kernel_rfl) ?_
                    intro W hK
                    have g_vc0 := fun x => carry ((hK.below x)) vc0
                    have g_vc1 := fun x => carry ((hK.below x)) vc1
                    have g_vc2 := fun x => carry ((hK.below x)) vc2
                    have g_vx := fun x => carry ((hK.below x)) vx
                    have g_vy := fun x => carry ((hK.below x)) vy
                    repeat (go_big_quiet_step (((go_at_call 22; with_reducible exact met_made (hkk.out.2.2 _)))))
                    refine wpQuiet_nil ?_
                    intro wq hw'
                    have hbq := kept_in hK hw'
                    clear g_vc0 g_vc1 g_vc2 g_vx g_vy
                    clear hw' hK W
                    replace vc0 := carry (hbq) vc0
                    replace vc1 := carry (hbq) vc1
                    replace vc2 := carry (hbq) vc2
                    replace vx := carry (hbq) vx
                    replace vy := carry (hbq) vy
                    have hbw' := Lib.hid (below_step hbg.out hbq)
                    have hat := Lib.hid (att_succ (b' := true) hatt'.out (fun _ => rfl) (fun _ => rfl))
                    clear hbq
                    go_wp2
                    go_roundw
                    case rel => exact ⟨k + 1, true, by omega, by go_num, hnl.out, rfl, hat.out, hbw'.out⟩
                    case measure => simp [intOf]; omega
                · have hno := Lib.hid (show Met ax D c0 c1 c2 k → False from fun ⟨_, h⟩ => by rw [hN.out.2.1, hN.out.2.2] at h; omega)
                  rcases (by omega : x0 ≠ c0 ∨ (x0 = c0 ∧ x1 ≠ c1)) with h0 | ⟨h0, h0'⟩
                  · have f0 : decide (x0 = c0) = false := decide_eq_false h0
                    rcases (by omega : -x0 ≠ c0 ∨ (-x0 = c0 ∧ -x1 ≠ c1)) with h2 | ⟨h2, h2'⟩
                    · have f2 : decide (-x0 = c0) = false := decide_eq_false h2
                      clear e0 e2
                      refine wp_region_made (by kernel_rfl) (by kernel_rfl) ?_
                      intro W hK
                      have g_vc0 := fun x => carry ((hK.below x)) vc0
                      have g_vc1 := fun x => carry ((hK.below x)) vc1
                      have g_vc2 := fun x => carry ((hK.below x)) vc2
                      have g_vx := fun x => carry ((hK.below x)) vx
                      have g_vy := fun x => carry ((hK.below x)) vy
                      repeat (go_big_quiet_step (((go_at_call 22; with_reducible exact met_made (hkk.out.2.2 _)))))
                      refine wpQuiet_nil ?_
                      intro wq hw'
                      have hbq := kept_in hK hw'
                      clear g_vc0 g_vc1 g_vc2 g_vx g_vy
                      clear hw' hK W
                      replace vc0 := carry (hbq) vc0
                      replace vc1 := carry (hbq) vc1
                      replace vc2 := carry (hbq) vc2
                      replace vx := carry (hbq) vx
                      replace vy := carry (hbq) vy
                      have hbw' := Lib.hid (below_step hbg.out hbq)
                      have hat := Lib.hid (att_succ (b' := false) hatt'.out (fun h => absurd h (by decide)) (fun h => (hno.out h).elim))
                      clear hbq
                      go_wp2
                      go_roundw
                      case rel => exact ⟨k + 1, false, by omega, by go_num, hnl.out, rfl, hat.out, hbw'.out⟩
                      case measure => simp [intOf]; omega
                    · have f2 : decide (-x1 = c1) = false := decide_eq_false h2'
                      have h0' : x0 ≠ -x0 := by omega
                      have f0' : decide (x0 = -x0) = false := decide_eq_false h0'
                      rw [← h2] at vc0
                      have eh := Lib.hid h2
                      clear e0 e2 h2 h0 f0
                      refine wp_region_made (by kernel_rfl) (by kernel_rfl) ?_
                      intro W hK
                      have g_vc0 := fun x => carry ((hK.below x)) vc0
                      have g_vc1 := fun x => carry ((hK.below x)) vc1
                      have g_vc2 := fun x => carry ((hK.below x)) vc2
                      have g_vx := fun x => carry ((hK.below x)) vx
                      have g_vy := fun x => carry ((hK.below x)) vy
                      repeat (go_big_quiet_step (((go_at_call 22; with_reducible exact met_made (hkk.out.2.2 _)))))
                      refine wpQuiet_nil ?_
                      intro wq hw'
                      have hbq := kept_in hK hw'
                      clear g_vc0 g_vc1 g_vc2 g_vx g_vy
                      clear hw' hK W
                      replace vc0 := carry (hbq) vc0
                      replace vc1 := carry (hbq) vc1
                      replace vc2 := carry (hbq) vc2
                      replace vx := carry (hbq) vx
                      replace vy := carry (hbq) vy
                      have hbw' := Lib.hid (below_step hbg.out hbq)
                      have hat := Lib.hid (att_succ (b' := false) hatt'.out (fun h => absurd h (by decide)) (fun h => (hno.out h).elim))
                      clear hbq
                      go_wp2
                      go_roundw
                      case rel => exact ⟨k + 1, false, by omega, by go_num, hnl.out, rfl, hat.out, hbw'.out⟩
                      case measure => simp [intOf]; omega
                  · have f0 : decide (x1 = c1) = false := decide_eq_false h0'
                    have eh := Lib.hid h0
                    rcases (by omega : -x0 ≠ x0 ∨ (-x0 = x0 ∧ -x1 ≠ c1)) with h2 | ⟨h2, h2'⟩
                    · have f2 : decide (-x0 = x0) = false := decide_eq_false h2
                      rw [← h0] at vc0
                      clear e0 e2 h0
                      refine wp_region_made (by kernel_rfl) (by kernel_rfl) ?_
                      intro W hK
                      have g_vc0 := fun x => carry ((hK.below x)) vc0
                      have g_vc1 := fun x => carry ((hK.below x)) vc1
                      have g_vc2 := fun x => carry ((hK.below x)) vc2
                      have g_vx := fun x => carry ((hK.below x)) vx
                      have g_vy := fun x => carry ((hK.below x)) vy
                      repeat (go_big_quiet_step (((go_at_call 22; with_reducible exact met_made (hkk.out.2.2 _)))))
                      refine wpQuiet_nil ?_
                      intro wq hw'
                      have hbq := kept_in hK hw'
                      clear g_vc0 g_vc1 g_vc2 g_vx g_vy
                      clear hw' hK W
                      replace vc0 := carry (hbq) vc0
                      replace vc1 := carry (hbq) vc1
                      replace vc2 := carry (hbq) vc2
                      replace vx := carry (hbq) vx
                      replace vy := carry (hbq) vy
                      have hbw' := Lib.hid (below_step hbg.out hbq)
                      have hat := Lib.hid (att_succ (b' := false) hatt'.out (fun h => absurd h (by decide)) (fun h => (hno.out h).elim))
                      clear hbq
                      go_wp2
                      go_roundw
                      case rel => exact ⟨k + 1, false, by omega, by go_num, hnl.out, rfl, hat.out, hbw'.out⟩
                      case measure => simp [intOf]; omega
                    · have f2 : decide (-x1 = c1) = false := decide_eq_false h2'
                      rw [← h0] at vc0
                      have eh2 := Lib.hid h2
                      clear e0 e2 h0 h2
                      refine wp_region_made (by kernel_rfl) (by kernel_rfl) ?_
                      intro W hK
                      have g_vc0 := fun x => carry ((hK.below x)) vc0
                      have g_vc1 := fun x => carry ((hK.below x)) vc1
                      have g_vc2 := fun x => carry ((hK.below x)) vc2
                      have g_vx := fun x => carry ((hK.below x)) vx
                      have g_vy := fun x => carry ((hK.below x)) vy
                      repeat (go_big_quiet_step (((go_at_call 22; with_reducible exact met_made (hkk.out.2.2 _)))))
                      refine wpQuiet_nil ?_
                      intro wq hw'
                      have hbq := kept_in hK hw'
                      clear g_vc0 g_vc1 g_vc2 g_vx g_vy
                      clear hw' hK W
                      replace vc0 := carry (hbq) vc0
                      replace vc1 := carry (hbq) vc1
                      replace vc2 := carry (hbq) vc2
                      replace vx := carry (hbq) vx
                      replace vy := carry (hbq) vy
                      have hbw' := Lib.hid (below_step hbg.out hbq)
                      have hat := Lib.hid (att_succ (b' := false) hatt'.out (fun h => absurd h (by decide)) (fun h => (hno.out h).elim))
                      clear hbq
                      go_wp2
                      go_roundw
                      case rel => exact ⟨k + 1, false, by omega, by go_num, hnl.out, rfl, hat.out, hbw'.out⟩
                      case measure => simp [intOf]; omega
            · have hdd : decide (d = c2) = false := decide_eq_false hdc
              have hdd2 : (d == c2) = false := by simp only [beq_eq_false_iff_ne, ne_eq]; exact hdc
              have hno := Lib.hid (show Met ax D c0 c1 c2 k → False from fun ⟨h, _⟩ => by rw [hN.out.1] at h; exact hdc h)
              clear hdc
              refine wp_region_made (by kernel_rfl) (by kernel_rfl) ?_
              intro W hK
              have g_vc0 := fun x => carry ((hK.below x)) vc0
              have g_vc1 := fun x => carry ((hK.below x)) vc1
              have g_vc2 := fun x => carry ((hK.below x)) vc2
              have g_vx := fun x => carry ((hK.below x)) vx
              have g_vy := fun x => carry ((hK.below x)) vy
              repeat (go_big_quiet_step (((go_at_call 22; with_reducible exact met_made (hkk.out.2.2 _)))))
              refine wpQuiet_nil ?_
              intro wq hw'
              have hbq := kept_in hK hw'
              clear g_vc0 g_vc1 g_vc2 g_vx g_vy
              clear hw' hK W
              replace vc0 := carry (hbq) vc0
              replace vc1 := carry (hbq) vc1
              replace vc2 := carry (hbq) vc2
              replace vx := carry (hbq) vx
              replace vy := carry (hbq) vy
              have hbw' := Lib.hid (below_step hbg.out hbq)
              have hat := Lib.hid (att_succ (b' := false) hatt'.out (fun h => absurd h (by decide)) (fun h => (hno.out h).elim))
              clear hbq
              go_wp2
              go_roundw
              case rel => exact ⟨k + 1, false, by omega, by go_num, hnl.out, rfl, hat.out, hbw'.out⟩
              case measure => simp [intOf]; omega
        · have hnl := Lib.hid (show .int .i64 lv = Value.int .i64 (leastV D (k + 1)) from by rw [least_same hk0'.out (by rw [hDd'.out, ← hlv'.out]; exact hdl), hlv'.out])
          go_upto_region 17 with fail
          have hbg := hbl'
          clear sA0 sA1 tA0 tA1 vp0 vp1 vq0 vq1
          rcases Bool.eq_false_or_eq_true bb with hbb | hbb
          · subst hbb
            refine wp_region_made (by kernel_rfl) (by kernel_rfl) ?_
            intro W hK
            have g_vc0 := fun x => carry ((hK.below x)) vc0
            have g_vc1 := fun x => carry ((hK.below x)) vc1
            have g_vc2 := fun x => carry ((hK.below x)) vc2
            have g_vx := fun x => carry ((hK.below x)) vx
            have g_vy := fun x => carry ((hK.below x)) vy
            repeat (go_big_quiet_step (((go_at_call 22; with_reducible exact met_made (hkk.out.2.2 _)))))
            refine wpQuiet_nil ?_
            intro wq hw'
            have hbq := kept_in hK hw'
            clear g_vc0 g_vc1 g_vc2 g_vx g_vy
            clear hw' hK W
            replace vc0 := carry (hbq) vc0
            replace vc1 := carry (hbq) vc1
            replace vc2 := carry (hbq) vc2
            replace vx := carry (hbq) vx
            replace vy := carry (hbq) vy
            have hbw' := Lib.hid (below_step hbg.out hbq)
            have hat := Lib.hid (att_succ (b' := true) hatt'.out (fun _ => rfl) (fun _ => rfl))
            clear hbq
            go_wp2
            go_roundw
            case rel => exact ⟨k + 1, true, by omega, by go_num, hnl.out, rfl, hat.out, hbw'.out⟩
            case measure => simp [intOf]; omega
          · subst hbb
            by_cases hdc : d = c2
            · have hdh := Lib.hid hdc
              rw [← hdc] at vc2
              clear hdc
              by_cases e0 : x0 = c0 ∧ x1 = c1
              · have eh := Lib.hid e0
                rw [← e0.1] at vc0
                rw [← e0.2] at vc1
                clear e0
                refine wp_region_made (by kernel_rfl) (by kernel_rfl) ?_
                intro W hK
                have g_vc0 := fun x => carry ((hK.below x)) vc0
                have g_vc1 := fun x => carry ((hK.below x)) vc1
                have g_vc2 := fun x => carry ((hK.below x)) vc2
                have g_vx := fun x => carry ((hK.below x)) vx
                have g_vy := fun x => carry ((hK.below x)) vy
                repeat (go_big_quiet_step (((go_at_call 22; with_reducible exact met_made (hkk.out.2.2 _)))))
                refine wpQuiet_nil ?_
                intro wq hw'
                have hbq := kept_in hK hw'
                clear g_vc0 g_vc1 g_vc2 g_vx g_vy
                clear hw' hK W
                replace vc0 := carry (hbq) vc0
                replace vc1 := carry (hbq) vc1
                replace vc2 := carry (hbq) vc2
                replace vx := carry (hbq) vx
                replace vy := carry (hbq) vy
                have hbw' := Lib.hid (below_step hbg.out hbq)
                have hat := Lib.hid (att_succ (b' := true) hatt'.out (fun _ => rfl) (fun _ => rfl))
                clear hbq
                go_wp2
                go_roundw
                case rel => exact ⟨k + 1, true, by omega, by go_num, hnl.out, rfl, hat.out, hbw'.out⟩
                case measure => simp [intOf]; omega
              · by_cases e2 : -x0 = c0 ∧ -x1 = c1
                · have eh := Lib.hid e2
                  have e0' : ¬ (x0 = -x0 ∧ x1 = -x1) := fun h => e0 ⟨by omega, by omega⟩
                  rw [← e2.1] at vc0
                  rw [← e2.2] at vc1
                  clear e0 e2
                  rcases (by omega : x0 ≠ -x0 ∨ (x0 = 0 ∧ x1 ≠ -x1)) with h0 | ⟨h0, h0'⟩
                  · have f0 : decide (x0 = -x0) = false := decide_eq_false h0
                    clear e0'
                    refine wp_region_made (by kernel_rfl) (by kernel_rfl) ?_
                    intro W hK
                    have g_vc0 := fun x => carry ((hK.below x)) vc0
                    have g_vc1 := fun x => carry ((hK.below x)) vc1
                    have g_vc2 := fun x => carry ((hK.below x)) vc2
                    have g_vx := fun x => carry ((hK.below x)) vx
                    have g_vy := fun x => carry ((hK.below x)) vy
                    repeat (go_big_quiet_step (((go_at_call 22; with_reducible exact met_made (hkk.out.2.2 _)))))
                    refine wpQuiet_nil ?_
                    intro wq hw'
                    have hbq := kept_in hK hw'
                    clear g_vc0 g_vc1 g_vc2 g_vx g_vy
                    clear hw' hK W
                    replace vc0 := carry (hbq) vc0
                    replace vc1 := carry (hbq) vc1
                    replace vc2 := carry (hbq) vc2
                    replace vx := carry (hbq) vx
                    replace vy := carry (hbq) vy
                    have hbw' := Lib.hid (below_step hbg.out hbq)
                    have hat := Lib.hid (att_succ (b' := true) hatt'.out (fun _ => rfl) (fun _ => rfl))
                    clear hbq
                    go_wp2
                    go_roundw
                    case rel => exact ⟨k + 1, true, by omega, by go_num, hnl.out, rfl, hat.out, hbw'.out⟩
                    case measure => simp [intOf]; omega
                  · have f1 : decide (x1 = -x1) = false := decide_eq_false h0'
                    have hz := Lib.hid h0
                    have g0 : x0 = -x0 := by omega
                    rw [← g0] at vc0
                    clear e0' g0 h0
                    have f3 : -x0 = x0 := by have := hz.out; omega
                    refine wp_region_made (by kernel_rfl) (by kernel_rfl) ?_
                    intro W hK
                    have g_vc0 := fun x => carry ((hK.below x)) vc0
                    have g_vc1 := fun x => carry ((hK.below x)) vc1
                    have g_vc2 := fun x => carry ((hK.below x)) vc2
                    have g_vx := fun x => carry ((hK.below x)) vx
                    have g_vy := fun x => carry ((hK.below x)) vy
                    repeat (go_big_quiet_step (((go_at_call 22; with_reducible exact met_made (hkk.out.2.2 _)))))
                    refine wpQuiet_nil ?_
                    intro wq hw'
                    have hbq := kept_in hK hw'
                    clear g_vc0 g_vc1 g_vc2 g_vx g_vy
                    clear hw' hK W
                    replace vc0 := carry (hbq) vc0
                    replace vc1 := carry (hbq) vc1
                    replace vc2 := carry (hbq) vc2
                    replace vx := carry (hbq) vx
                    replace vy := carry (hbq) vy
                    have hbw' := Lib.hid (below_step hbg.out hbq)
                    have hat := Lib.hid (att_succ (b' := true) hatt'.out (fun _ => rfl) (fun _ => rfl))
                    clear hbq
                    go_wp2
                    go_roundw
                    case rel => exact ⟨k + 1, true, by omega, by go_num, hnl.out, rfl, hat.out, hbw'.out⟩
                    case measure => simp [intOf]; omega
                · have hno := Lib.hid (show Met ax D c0 c1 c2 k → False from fun ⟨_, h⟩ => by rw [hN.out.2.1, hN.out.2.2] at h; omega)
                  rcases (by omega : x0 ≠ c0 ∨ (x0 = c0 ∧ x1 ≠ c1)) with h0 | ⟨h0, h0'⟩
                  · have f0 : decide (x0 = c0) = false := decide_eq_false h0
                    rcases (by omega : -x0 ≠ c0 ∨ (-x0 = c0 ∧ -x1 ≠ c1)) with h2 | ⟨h2, h2'⟩
                    · have f2 : decide (-x0 = c0) = false := decide_eq_false h2
                      clear e0 e2
                      refine wp_region_made (by kernel_rfl) (by kernel_rfl) ?_
                      intro W hK
                      have g_vc0 := fun x => carry ((hK.below x)) vc0
                      have g_vc1 := fun x => carry ((hK.below x)) vc1
                      have g_vc2 := fun x => carry ((hK.below x)) vc2
                      have g_vx := fun x => carry ((hK.below x)) vx
                      have g_vy := fun x => carry ((hK.below x)) vy
                      repeat (go_big_quiet_step (((go_at_call 22; with_reducible exact met_made (hkk.out.2.2 _)))))
                      refine wpQuiet_nil ?_
                      intro wq hw'
                      have hbq := kept_in hK hw'
                      clear g_vc0 g_vc1 g_vc2 g_vx g_vy
                      clear hw' hK W
                      replace vc0 := carry (hbq) vc0
                      replace vc1 := carry (hbq) vc1
                      replace vc2 := carry (hbq) vc2
                      replace vx := carry (hbq) vx
                      replace vy := carry (hbq) vy
                      have hbw' := Lib.hid (below_step hbg.out hbq)
                      have hat := Lib.hid (att_succ (b' := false) hatt'.out (fun h => absurd h (by decide)) (fun h => (hno.out h).elim))
                      clear hbq
                      go_wp2
                      go_roundw
                      case rel => exact ⟨k + 1, false, by omega, by go_num, hnl.out, rfl, hat.out, hbw'.out⟩
                      case measure => simp [intOf]; omega
                    · have f2 : decide (-x1 = c1) = false := decide_eq_false h2'
                      have h0' : x0 ≠ -x0 := by omega
                      have f0' : decide (x0 = -x0) = false := decide_eq_false h0'
                      rw [← h2] at vc0
                      have eh := Lib.hid h2
                      clear e0 e2 h2 h0 f0
                      refine wp_region_made (by kernel_rfl) (by kernel_rfl) ?_
                      intro W hK
                      have g_vc0 := fun x => carry ((hK.below x)) vc0
                      have g_vc1 := fun x => carry ((hK.below x)) vc1
                      have g_vc2 := fun x => carry ((hK.below x)) vc2
                      have g_vx := fun x => carry ((hK.below x)) vx
                      have g_vy := fun x => carry ((hK.below x)) vy
                      repeat (go_big_quiet_step (((go_at_call 22; with_reducible exact met_made (hkk.out.2.2 _)))))
                      refine wpQuiet_nil ?_
                      intro wq hw'
                      have hbq := kept_in hK hw'
                      clear g_vc0 g_vc1 g_vc2 g_vx g_vy
                      clear hw' hK W
                      replace vc0 := carry (hbq) vc0
                      replace vc1 := carry (hbq) vc1
                      replace vc2 := carry (hbq) vc2
                      replace vx := carry (hbq) vx
                      replace vy := carry (hbq) vy
                      have hbw' := Lib.hid (below_step hbg.out hbq)
                      have hat := Lib.hid (att_succ (b' := false) hatt'.out (fun h => absurd h (by decide)) (fun h => (hno.out h).elim))
                      clear hbq
                      go_wp2
                      go_roundw
                      case rel => exact ⟨k + 1, false, by omega, by go_num, hnl.out, rfl, hat.out, hbw'.out⟩
                      case measure => simp [intOf]; omega
                  · have f0 : decide (x1 = c1) = false := decide_eq_false h0'
                    have eh := Lib.hid h0
                    rcases (by omega : -x0 ≠ x0 ∨ (-x0 = x0 ∧ -x1 ≠ c1)) with h2 | ⟨h2, h2'⟩
                    · have f2 : decide (-x0 = x0) = false := decide_eq_false h2
                      rw [← h0] at vc0
                      clear e0 e2 h0
                      refine wp_region_made (by kernel_rfl) (by kernel_rfl) ?_
                      intro W hK
                      have g_vc0 := fun x => carry ((hK.below x)) vc0
                      have g_vc1 := fun x => carry ((hK.below x)) vc1
                      have g_vc2 := fun x => carry ((hK.below x)) vc2
                      have g_vx := fun x => carry ((hK.below x)) vx
                      have g_vy := fun x => carry ((hK.below x)) vy
                      repeat (go_big_quiet_step (((go_at_call 22; with_reducible exact met_made (hkk.out.2.2 _)))))
                      refine wpQuiet_nil ?_
                      intro wq hw'
                      have hbq := kept_in hK hw'
                      clear g_vc0 g_vc1 g_vc2 g_vx g_vy
                      clear hw' hK W
                      replace vc0 := carry (hbq) vc0
                      replace vc1 := carry (hbq) vc1
                      replace vc2 := carry (hbq) vc2
                      replace vx := carry (hbq) vx
                      replace vy := carry (hbq) vy
                      have hbw' := Lib.hid (below_step hbg.out hbq)
                      have hat := Lib.hid (att_succ (b' := false) hatt'.out (fun h => absurd h (by decide)) (fun h => (hno.out h).elim))
                      clear hbq
                      go_wp2
                      go_roundw
                      case rel => exact ⟨k + 1, false, by omega, by go_num, hnl.out, rfl, hat.out, hbw'.out⟩
                      case measure => simp [intOf]; omega
                    · have f2 : decide (-x1 = c1) = false := decide_eq_false h2'
                      rw [← h0] at vc0
                      have eh2 := Lib.hid h2
                      clear e0 e2 h0 h2
                      refine wp_region_made (by kernel_rfl) (by kernel_rfl) ?_
                      intro W hK
                      have g_vc0 := fun x => carry ((hK.below x)) vc0
                      have g_vc1 := fun x => carry ((hK.below x)) vc1
                      have g_vc2 := fun x => carry ((hK.below x)) vc2
                      have g_vx := fun x => carry ((hK.below x)) vx
                      have g_vy := fun x => carry ((hK.below x)) vy
                      repeat (go_big_quiet_step (((go_at_call 22; with_reducible exact met_made (hkk.out.2.2 _)))))
                      refine wpQuiet_nil ?_
                      intro wq hw'
                      have hbq := kept_in hK hw'
                      clear g_vc0 g_vc1 g_vc2 g_vx g_vy
                      clear hw' hK W
                      replace vc0 := carry (hbq) vc0
                      replace vc1 := carry (hbq) vc1
                      replace vc2 := carry (hbq) vc2
                      replace vx := carry (hbq) vx
                      replace vy := carry (hbq) vy
                      have hbw' := Lib.hid (below_step hbg.out hbq)
                      have hat := Lib.hid (att_succ (b' := false) hatt'.out (fun h => absurd h (by decide)) (fun h => (hno.out h).elim))
                      clear hbq
                      go_wp2
                      go_roundw
                      case rel => exact ⟨k + 1, false, by omega, by go_num, hnl.out, rfl, hat.out, hbw'.out⟩
                      case measure => simp [intOf]; omega
            · have hdd : decide (d = c2) = false := decide_eq_false hdc
              have hdd2 : (d == c2) = false := by simp only [beq_eq_false_iff_ne, ne_eq]; exact hdc
              have hno := Lib.hid (show Met ax D c0 c1 c2 k → False from fun ⟨h, _⟩ => by rw [hN.out.1] at h; exact hdc h)
              clear hdc
              refine wp_region_made (by kernel_rfl) (by kernel_rfl) ?_
              intro W hK
              have g_vc0 := fun x => carry ((hK.below x)) vc0
              have g_vc1 := fun x => carry ((hK.below x)) vc1
              have g_vc2 := fun x => carry ((hK.below x)) vc2
              have g_vx := fun x => carry ((hK.below x)) vx
              have g_vy := fun x => carry ((hK.below x)) vy
              repeat (go_big_quiet_step (((go_at_call 22; with_reducible exact met_made (hkk.out.2.2 _)))))
              refine wpQuiet_nil ?_
              intro wq hw'
              have hbq := kept_in hK hw'
              clear g_vc0 g_vc1 g_vc2 g_vx g_vy
              clear hw' hK W
              replace vc0 := carry (hbq) vc0
              replace vc1 := carry (hbq) vc1
              replace vc2 := carry (hbq) vc2
              replace vx := carry (hbq) vx
              replace vy := carry (hbq) vy
              have hbw' := Lib.hid (below_step hbg.out hbq)
              have hat := Lib.hid (att_succ (b' := false) hatt'.out (fun h => absurd h (by decide)) (fun h => (hno.out h).elim))
              clear hbq
              go_wp2
              go_roundw
              case rel => exact ⟨k + 1, false, by omega, by go_num, hnl.out, rfl, hat.out, hbw'.out⟩
              case measure => simp [intOf]; omega
    · obtain rfl : k = ND := by omega
      have hni : ¬ ((k : Int) < (k : Int)) := by omega
      have hbl' := Lib.hid hbl
      have hsr := Lib.hid (hs.out.carry hbl)
      replace vp0 := carry (hbl) vp0
      replace vp1 := carry (hbl) vp1
      replace vq0 := carry (hbl) vq0
      replace vq1 := carry (hbl) vq1
      replace vc0 := carry (hbl) vc0
      replace vc1 := carry (hbl) vc1
      replace vc2 := carry (hbl) vc2
      clear hbl sA0 sA1 tA0 tA1
      have hk1 : ((k : Int) == 0) = false := by simp only [beq_eq_false_iff_ne, ne_eq]; omega
      have hBB := Lib.hid (below_step hB hbl'.out)
      clear hbl'
      rcases hC.out with ⟨rfl, rfl, rfl, rfl, hle⟩ | ⟨rfl, hyes⟩
      · have hlv : ob = true → leastV D k ≤ 0 := fun h => by
          rw [hDA.out.1, hND'.out]
          exact hle (hob'.out.1 h)
        generalize leastV D k = lv at *
        clear hle
        rcases Bool.eq_false_or_eq_true ob with h | h
        · have hlv' := hlv h
          subst h
          have f1 : decide (0 < lv) = false := decide_eq_false (by omega)
          clear hlv
          go_wp2_with fail
          refine (lives5_any _).mono ?_
          rintro e w7 ⟨rfl, hb1⟩
          go_wp2
          go_ret
          exact ⟨rfl, below_step hBB.out hb1⟩
        · subst h
          clear hlv
          go_wp2_with fail
          refine (lives5_any _).mono ?_
          rintro e w7 ⟨rfl, hb1⟩
          go_wp2
          go_ret
          exact ⟨rfl, below_step hBB.out hb1⟩
      · have hob1 : ob = true := hob'.out.2 hyes.ov
        have hlv : leastV D k = c2 := by rw [hDA.out.1, hND'.out]; exact hyes.least.symm
        have hbb : bb = true := by
          obtain ⟨j, hj, hm⟩ := hyes.met
          rw [← hDA.out.1, ← hDA.out.2] at hm
          exact hatt'.out ⟨j, by rw [hND'.out]; exact hj, hm⟩
        have hlow := hyes.low
        have hsg := hyes.sign
        have hcb := hyes.bd
        simp only at hsg
        have ks := fun w => sub_any q0 q1 p0 p1 w he.out.2.2.1.bd he.out.2.2.2.bd he.out.1.bd he.out.2.1.bd
        have kd := fun w => dot_any (q0 - p0) (q1 - p1) c0 c1 w (by have := he.out; unfold Be at this; unfold Bd; omega) (by have := he.out; unfold Be at this; unfold Bd; omega) (small_bd' hcb.1) (small_bd' hcb.2)
        generalize flr ((q0 - p0) * c0 + (q1 - p1) * c1) 1024 = dt at *
        generalize q0 - p0 = z0 at *
        generalize q1 - p1 = z1 at *
        have hkk := Lib.hid (And.intro ks kd)
        subst hob1
        subst hbb
        rw [hlv]
        have f1 : decide (0 < c2) = true := decide_eq_true hlow
        have f2 : decide (0 ≤ dt) = true := decide_eq_true hsg
        clear ks kd hyes hlv hcb
        go_upto_region 22 with fail
        refine wp_region_made (by kernel_rfl) (by kernel_rfl) ?_
        intro W hK
        have g_vp0 := fun x => carry ((hK.below x)) vp0
        have g_vp1 := fun x => carry ((hK.below x)) vp1
        have g_vq0 := fun x => carry ((hK.below x)) vq0
        have g_vq1 := fun x => carry ((hK.below x)) vq1
        have g_vc0 := fun x => carry ((hK.below x)) vc0
        have g_vc1 := fun x => carry ((hK.below x)) vc1
        have g_vc2 := fun x => carry ((hK.below x)) vc2
        repeat (go_big_quiet_step ((first | (go_at_call 24; with_reducible exact met_made (hkk.out.1 _)) | (go_at_call 23; with_reducible exact met_made (hkk.out.2 _)) | (go_at_call 18; with_reducible exact met_made (lives5_any _)))))
        refine wpQuiet_nil ?_
        intro wq hw'
        have hbq := kept_in hK hw'
        clear g_vp0 g_vp1 g_vq0 g_vq1 g_vc0 g_vc1 g_vc2
        clear hw' hK W
        replace vp0 := carry (hbq) vp0
        replace vp1 := carry (hbq) vp1
        replace vq0 := carry (hbq) vq0
        replace vq1 := carry (hbq) vq1
        replace vc0 := carry (hbq) vc0
        replace vc1 := carry (hbq) vc1
        replace vc2 := carry (hbq) vc2
        go_wp2
        go_ret
        exact ⟨rfl, below_step hBB.out hbq⟩

set_option maxRecDepth 100000 in
theorem lifted (os : Os) (started : os.Started) (H : Type) (enc : TypeId × Value → H) :
    ReturnsInHanded {} Try.checked os 4 .any (Rows.collideLeastSpec.pre6 enc Try.prog Try.f4 Rows.collideLeastRow.domain false) (Rows.collideLeastSpec.post enc Try.prog Try.f4 false true false false) := by
  refine returnsInHanded_of_change (C := Try.checked) own started (by kernel_rfl) Try.func4
    (ChangeSpec.witness6 (enc := enc) (C := Try.checked) false ⟨#[], #[.int .i64 0, .int .i64 0, .agg #[.int .i64 0, .int .i64 0, .int .i64 0, .int .i64 0]], []⟩ 8 (by kernel_rfl) (by kernel_rfl) (by kernel_rfl) (by kernel_rfl)) ?_
  intro W base args ds gs before hval0 hW hcnd _
  have hval : ∀ (j : Nat) t v, Try.f4.params[j]? = some t → args[j]? = some v → Value.okWide Try.prog W .any base t v := hval0
  have hW' := hW
  obtain ⟨p, q, hA0, hV, rfl, hfz, hnd⟩ := hW
  have hA : DataW.TrodAll enc Try.prog W 0 (fun _ => true) true Try.f4.params.toList args.toList ds p := hA0
  rw [Try.params4] at hA hval
  obtain ⟨v0, vs0, d0, ds0, p0, q0, hargs, rfl, rfl, h0, r0⟩ := trodAll_cons hA
  obtain ⟨v1, vs1, d1, ds1, p1, q1, rfl, rfl, rfl, h1, r1⟩ := trodAll_cons r0
  obtain ⟨v2, vs2, d2, ds2, p2, q2, rfl, rfl, rfl, h2, r2⟩ := trodAll_cons r1
  obtain ⟨rfl, rfl, rfl⟩ := trodAll_nil r2
  obtain rfl : args = #[v0, v1, v2] := by cases args; simp_all
  obtain ⟨rfl, rfl⟩ := trodVars_none hV
  obtain ⟨a0, rfl, rfl, rfl, w0⟩ := open_int Try.underlying3 (hval 0 3 v0 rfl rfl) h0
  obtain ⟨a1, rfl, rfl, rfl, w1⟩ := open_int Try.underlying3 (hval 1 3 v1 rfl rfl) h1
  obtain ⟨z2, l2, e2, rfl, rfl, y2⟩ := open_arr Try.underlying22 Try.underlying3 (by kernel_rfl) (by kernel_rfl) (hval 2 22 v2 rfl rfl) h2
  obtain ⟨a2_0, a2_1, a2_2, a2_3, rfl⟩ := list4 l2
  simp only [List.map_cons, List.map_nil] at e2
  subst e2
  clear hA0 hval0
  simp only [List.append_nil] at hW'
  refine (walk a0 w0 a1 w1 a2_0 a2_1 a2_2 a2_3 (y2 _ (by simp)) (y2 _ (by simp)) (y2 _ (by simp)) (y2 _ (by simp)) W).mono fun e W' ⟨he, hb⟩ => ?_
  subst he
  exact ⟨_, rfl, kept_post (pa := []) hW' (fun _ _ _ => (trodAll_cons_mk (shut_bool Try.underlying4 _) trodAll_mk0)) (fun sp _ => (trodAll_cons_mk (shut_int Try.underlying3 w0) (trodAll_cons_mk (shut_int Try.underlying3 w1) (trodAll_cons_mk (shut_arr Try.underlying22 Try.underlying3 (by kernel_rfl) (by kernel_rfl) rfl y2) trodAll_mk0)))) (fun _ => rfl) hb (ok_one (by kernel_rfl) rfl (okWide_bool_mk Try.underlying4 _))⟩

theorem over : Rows.collideLeastRow.holds Try.pinned (OpenSpec.ofChange Rows.collideLeastSpec) :=
  OpenClaim.holds_of_wide 4 Try.f4 rfl rfl rfl rfl rfl rfl rfl ⟨rfl, rfl, rfl, rfl, rfl⟩ rfl rfl rfl rfl rfl (by kernel_rfl) Try.func4 (by kernel_rfl)
    (of_decide_eq_true (by kernel_rfl)) (by unfold Func.isWrapper; first | (rw [if_pos (by decide +kernel)]; kernel_rfl) | (rw [if_neg (by decide +kernel)]; exact ⟨rfl, rfl⟩))
    (fun os started H enc _ => lifted os started H enc)

theorem proved : Rows.CollideLeastSaid :=
  over
#print axioms proved
end Go.Proofs.Ytnlnnpcpheaomaa.collideLeast
