/-
  package collide, P5.3: for all pairs of generated polygons and positions, exchanging them changes neither whether they collide nor Depth, nor does the choice of the first vertex; and the section's example holds; whatever the arguments are.
-/
import Derived.Test.YtnlnnpcpheaomaaRows
import Derived.WalkKit
import Derived.ProofKit
import Derived.OpenShut
import Derived.Test.YtnlnnpcpheaomaaLawKit
import Derived.Test.YtnlnnpcpheaomaaCollQ
import Derived.WalkLawsBesides
import Derived.Deep.DeepCutAuto
import Derived.Deep.CutBlock
import Derived.Deep.RegionHeld3
namespace Go.Proofs.Ytnlnnpcpheaomaa.collideSwap
open Go.ChangeShapes Go.WideShapes Go.ChangeAt Go.RowKit
set_option linter.unusedVariables false
set_option linter.unusedSimpArgs false

open Fxm
theorem own : ownKnob Try.prog.godebug = none := by kernel_rfl

set_option maxRecDepth 100000 in
set_option maxHeartbeats 8000000 in
theorem walk (a0 : Int) (w0 : (Lit.int .i64 a0).wf = true) (a1 : Int) (w1 : (Lit.int .i64 a1).wf = true) (a2_0 : Int) (a2_1 : Int) (a2_2 : Int) (a2_3 : Int) (w2_0 : (Lit.int .i64 a2_0).wf = true) (w2_1 : (Lit.int .i64 a2_1).wf = true) (w2_2 : (Lit.int .i64 a2_2).wf = true) (w2_3 : (Lit.int .i64 a2_3).wf = true) (a3 : Int) (w3 : (Lit.int .i64 a3).wf = true) (w : World) :
    Calls Try.prog 6 #[.int .i64 a0, .int .i64 a1, .agg #[.int .i64 a2_0, .int .i64 a2_1, .int .i64 a2_2, .int .i64 a2_3], .int .i64 a3] w fun e w' => e = .returned (.bool true) ∧ Below w.heap.size w w' := by
  go_enter Try.func6, Try.ntmps6
  go_wp2_with fail
  refine (shapes_any _ _ w0).mono ?_
  rintro e u1 ⟨s, rfl, hs, hb1⟩
  have l0 : u1.cell? ⟨w.heap.size, 0, none⟩ = some (.int .i64 a2_0) := carry hb1 (by simp [go_sem])
  have l1 : u1.cell? ⟨w.heap.size, 1, none⟩ = some (.int .i64 a2_1) := carry hb1 (by simp [go_sem])
  have l2 : u1.cell? ⟨w.heap.size, 2, none⟩ = some (.int .i64 a2_2) := carry hb1 (by simp [go_sem])
  have l3 : u1.cell? ⟨w.heap.size, 3, none⟩ = some (.int .i64 a2_3) := carry hb1 (by simp [go_sem])
  have hB := below_step (alloc_below w (.cells #[.int .i64 a2_0, .int .i64 a2_1, .int .i64 a2_2, .int .i64 a2_3] 22)) hb1
  clear hb1
  go_upto_region 2 with fail
  have sA0 := World.cell?_alloc_new (w := u1) #[.int .i64 s.r, .slice s.a s.n s.cap] 25 0
  have sA1 := World.cell?_alloc_new (w := u1) #[.int .i64 s.r, .slice s.a s.n s.cap] 25 1
  simp only [List.getElem?_toArray, List.getElem?_cons_zero, List.getElem?_cons_succ] at sA0 sA1
  have hb1 := alloc_below u1 (.cells #[.int .i64 s.r, .slice s.a s.n s.cap] 25)
  generalize u1.alloc (.cells #[.int .i64 s.r, .slice s.a s.n s.cap] 25) = v1 at *
  replace l0 := carry (hb1) l0
  replace l1 := carry (hb1) l1
  replace l2 := carry (hb1) l2
  replace l3 := carry (hb1) l3
  replace hB := below_step hB hb1
  replace hs := hs.carry hb1
  clear hb1
  go_wp2_with fail
  refine (shapes_any _ _ w1).mono ?_
  rintro e u2 ⟨t, rfl, ht, hb1⟩
  replace l0 := carry (hb1) l0
  replace l1 := carry (hb1) l1
  replace l2 := carry (hb1) l2
  replace l3 := carry (hb1) l3
  replace sA0 := carry (hb1) sA0
  replace sA1 := carry (hb1) sA1
  replace hB := below_step hB hb1
  replace hs := hs.carry hb1
  clear hb1
  go_upto_region 3 with fail
  have tA0 := World.cell?_alloc_new (w := u2) #[.int .i64 t.r, .slice t.a t.n t.cap] 25 0
  have tA1 := World.cell?_alloc_new (w := u2) #[.int .i64 t.r, .slice t.a t.n t.cap] 25 1
  simp only [List.getElem?_toArray, List.getElem?_cons_zero, List.getElem?_cons_succ] at tA0 tA1
  have hb1 := alloc_below u2 (.cells #[.int .i64 t.r, .slice t.a t.n t.cap] 25)
  generalize u2.alloc (.cells #[.int .i64 t.r, .slice t.a t.n t.cap] 25) = v2 at *
  replace l0 := carry (hb1) l0
  replace l1 := carry (hb1) l1
  replace l2 := carry (hb1) l2
  replace l3 := carry (hb1) l3
  replace sA0 := carry (hb1) sA0
  replace sA1 := carry (hb1) sA1
  replace hB := below_step hB hb1
  replace hs := hs.carry hb1
  replace ht := ht.carry hb1
  clear hb1
  by_cases hsn : s.n = 0
  · have h1 : ((s.n : Int) == 0) = true := by simp [hsn]
    clear hsn
    go_wp2_with fail
    refine (lives5_any _).mono ?_
    rintro e u3 ⟨rfl, hb1⟩
    go_wp2
    go_ret
    exact ⟨rfl, below_step hB hb1⟩
  · have h1 : ((s.n : Int) == 0) = false := by simp only [beq_eq_false_iff_ne, ne_eq]; omega
    have hsn' := Lib.hid (show 1 ≤ s.n by omega)
    clear hsn
    by_cases htn : t.n = 0
    · have h2 : ((t.n : Int) == 0) = true := by simp [htn]
      clear htn
      go_wp2_with fail
      refine (lives5_any _).mono ?_
      rintro e u3 ⟨rfl, hb1⟩
      go_wp2
      go_ret
      exact ⟨rfl, below_step hB hb1⟩
    · have h2 : ((t.n : Int) == 0) = false := by simp only [beq_eq_false_iff_ne, ne_eq]; omega
      have htn' := Lib.hid (show 1 ≤ t.n by omega)
      clear htn
      go_wp2_with fail
      refine (place_any s t _ _ _ _ _ hs ht w2_0 w2_1 w2_2 w2_3).mono ?_
      rintro e u3 ⟨⟨p0, p1, q0, q1, ⟨bp0, bp1, bq0, bq1⟩, rfl⟩, hb1⟩
      replace sA0 := carry (hb1) sA0
      replace sA1 := carry (hb1) sA1
      replace tA0 := carry (hb1) tA0
      replace tA1 := carry (hb1) tA1
      replace hB := below_step hB hb1
      replace hs := hs.carry hb1
      replace ht := ht.carry hb1
      clear hb1 l0 l1 l2 l3
      go_upto_region 6 with fail
      have hb1 := below_step (alloc_below u3 (.cells #[.int .i64 p0, .int .i64 p1] 28)) (alloc_below _ (.cells #[.int .i64 q0, .int .i64 q1] 28))
      have vp0 : ((u3.alloc (.cells #[.int .i64 p0, .int .i64 p1] 28)).alloc (.cells #[.int .i64 q0, .int .i64 q1] 28)).cell? ⟨u3.heap.size, 0, none⟩ = some (.int .i64 p0) := by simp [go_sem]
      have vp1 : ((u3.alloc (.cells #[.int .i64 p0, .int .i64 p1] 28)).alloc (.cells #[.int .i64 q0, .int .i64 q1] 28)).cell? ⟨u3.heap.size, 1, none⟩ = some (.int .i64 p1) := by simp [go_sem]
      have vq0 : ((u3.alloc (.cells #[.int .i64 p0, .int .i64 p1] 28)).alloc (.cells #[.int .i64 q0, .int .i64 q1] 28)).cell? ⟨u3.heap.size + 1, 0, none⟩ = some (.int .i64 q0) := by simp [go_sem]
      have vq1 : ((u3.alloc (.cells #[.int .i64 p0, .int .i64 p1] 28)).alloc (.cells #[.int .i64 q0, .int .i64 q1] 28)).cell? ⟨u3.heap.size + 1, 1, none⟩ = some (.int .i64 q1) := by simp [go_sem]
      replace sA0 := carry (hb1) sA0
      replace sA1 := carry (hb1) sA1
      replace tA0 := carry (hb1) tA0
      replace tA1 := carry (hb1) tA1
      replace hB := below_step hB hb1
      replace hs := Lib.hid (hs.carry hb1)
      replace ht := Lib.hid (ht.carry hb1)
      generalize (u3.alloc (.cells #[.int .i64 p0, .int .i64 p1] 28)).alloc (.cells #[.int .i64 q0, .int .i64 q1] 28) = v3 at *
      clear hb1
      have ep0 : Be p0 := be_of (by omega) (by omega)
      have ep1 : Be p1 := be_of (by omega) (by omega)
      have eq0 : Be q0 := be_of (by omega) (by omega)
      have eq1 : Be q1 := be_of (by omega) (by omega)
      have hsw := swap_col (s := s) (t := t) (p := (p0, p1)) (q := (q0, q1)) hsn'.out htn'.out
      have K1 := fun w (h1 : Sh w s) (h2 : Sh w t) => col_any s t p0 p1 q0 q1 w h1 h2 ep0 ep1 eq0 eq1
      have K2 := fun w (h1 : Sh w s) (h2 : Sh w t) => col_any t s q0 q1 p0 p1 w h2 h1 eq0 eq1 ep0 ep1
      rw [← hsw.1, ← hsw.2] at K2
      have K3 := fun w (h : Sh w s) => h.turnedP hsn'.out a3 w3
      have K4 : ∀ (e : Sp), SameCol s e → ∀ w, Sh w e → Sh w t → Calls Try.prog 16 #[.agg #[.int .i64 e.r, .slice e.a e.n e.cap], .agg #[.int .i64 p0, .int .i64 p1], .agg #[.int .i64 t.r, .slice t.a t.n t.cap], .agg #[.int .i64 q0, .int .i64 q1]] w fun r w' =>
          ∃ x y : Int, r = .returned (.tuple #[.agg #[.int .i64 x, .int .i64 y, .int .i64 (colN s t (p0, p1) (q0, q1)).2.2], .bool (colB s t (p0, p1) (q0, q1))]) ∧ Below w.heap.size w w' := fun e hc w h1 h2 => by
        have hcc := hc t (p0, p1) (q0, q1) htn'.out
        rw [hcc.1, hcc.2]
        exact (col_any e t p0 p1 q0 q1 w h1 h2 ep0 ep1 eq0 eq1).mono fun _ _ ⟨h, hb⟩ => ⟨_, _, h, hb⟩
      clear hsw
      generalize (colN t s (q0, q1) (p0, p1)).1 = m0 at *
      generalize (colN t s (q0, q1) (p0, p1)).2.1 = m1 at *
      generalize colN s t (p0, p1) (q0, q1) = cN at *
      obtain ⟨c0, c1, c2⟩ := cN
      simp only at K1 K2 K4
      generalize colB s t (p0, p1) (q0, q1) = cb at *
      have hKK := Lib.hid (And.intro K1 (And.intro K2 (And.intro K3 K4)))
      clear K1 K2 K3 K4 bp0 bp1 bq0 bq1 ep0 ep1 eq0 eq1
      go_wp2_with fail
      refine (hKK.out.1 _ hs.out ht.out).mono ?_
      rintro e w5 ⟨rfl, hb1⟩
      replace sA0 := carry (hb1) sA0
      replace sA1 := carry (hb1) sA1
      replace tA0 := carry (hb1) tA0
      replace tA1 := carry (hb1) tA1
      replace vp0 := carry (hb1) vp0
      replace vp1 := carry (hb1) vp1
      replace vq0 := carry (hb1) vq0
      replace vq1 := carry (hb1) vq1
      replace hB := below_step hB hb1
      replace hs := Lib.hid (hs.out.carry hb1)
      replace ht := Lib.hid (ht.out.carry hb1)
      clear hb1
      go_upto_region 7 with fail
      have vc0 := World.cell?_alloc_new (w := w5) #[.int .i64 (c0), .int .i64 (c1), .int .i64 (c2)] 34 0
      have vc1 := World.cell?_alloc_new (w := w5) #[.int .i64 (c0), .int .i64 (c1), .int .i64 (c2)] 34 1
      have vc2 := World.cell?_alloc_new (w := w5) #[.int .i64 (c0), .int .i64 (c1), .int .i64 (c2)] 34 2
      simp only [List.getElem?_toArray, List.getElem?_cons_zero, List.getElem?_cons_succ] at vc0 vc1 vc2
      have hb1 := alloc_below w5 (.cells #[.int .i64 (c0), .int .i64 (c1), .int .i64 (c2)] 34)
      generalize w5.alloc (.cells #[.int .i64 (c0), .int .i64 (c1), .int .i64 (c2)] 34) = v5 at *
      replace sA0 := carry (hb1) sA0
      replace sA1 := carry (hb1) sA1
      replace tA0 := carry (hb1) tA0
      replace tA1 := carry (hb1) tA1
      replace vp0 := carry (hb1) vp0
      replace vp1 := carry (hb1) vp1
      replace vq0 := carry (hb1) vq0
      replace vq1 := carry (hb1) vq1
      replace hB := below_step hB hb1
      replace hs := Lib.hid (hs.out.carry hb1)
      replace ht := Lib.hid (ht.out.carry hb1)
      clear hb1
      go_wp2_with fail
      refine (hKK.out.2.1 _ hs.out ht.out).mono ?_
      rintro e w6 ⟨rfl, hb1⟩
      replace sA0 := carry (hb1) sA0
      replace sA1 := carry (hb1) sA1
      replace tA0 := carry (hb1) tA0
      replace tA1 := carry (hb1) tA1
      replace vp0 := carry (hb1) vp0
      replace vp1 := carry (hb1) vp1
      replace vq0 := carry (hb1) vq0
      replace vq1 := carry (hb1) vq1
      replace vc0 := carry (hb1) vc0
      replace vc1 := carry (hb1) vc1
      replace vc2 := carry (hb1) vc2
      replace hB := below_step hB hb1
      replace hs := Lib.hid (hs.out.carry hb1)
      replace ht := Lib.hid (ht.out.carry hb1)
      clear hb1
      go_upto_region 8 with fail
      have vd0 := World.cell?_alloc_new (w := w6) #[.int .i64 (m0), .int .i64 (m1), .int .i64 (c2)] 34 0
      have vd1 := World.cell?_alloc_new (w := w6) #[.int .i64 (m0), .int .i64 (m1), .int .i64 (c2)] 34 1
      have vd2 := World.cell?_alloc_new (w := w6) #[.int .i64 (m0), .int .i64 (m1), .int .i64 (c2)] 34 2
      simp only [List.getElem?_toArray, List.getElem?_cons_zero, List.getElem?_cons_succ] at vd0 vd1 vd2
      have hb1 := alloc_below w6 (.cells #[.int .i64 (m0), .int .i64 (m1), .int .i64 (c2)] 34)
      generalize w6.alloc (.cells #[.int .i64 (m0), .int .i64 (m1), .int .i64 (c2)] 34) = v6 at *
      replace sA0 := carry (hb1) sA0
      replace sA1 := carry (hb1) sA1
      replace tA0 := carry (hb1) tA0
      replace tA1 := carry (hb1) tA1
      replace vp0 := carry (hb1) vp0
      replace vp1 := carry (hb1) vp1
      replace vq0 := carry (hb1) vq0
      replace vq1 := carry (hb1) vq1
      replace vc0 := carry (hb1) vc0
      replace vc1 := carry (hb1) vc1
      replace vc2 := carry (hb1) vc2
      replace hB := below_step hB hb1
      replace hs := Lib.hid (hs.out.carry hb1)
      replace ht := Lib.hid (ht.out.carry hb1)
      clear hb1
      have mk := Lib.hid (fun w' (h : Below v6.heap.size v6 w') => (⟨carry h sA0, carry h sA1, carry h tA0, carry h tA1, carry h vp0, carry h vp1, carry h vq0, carry h vq1, h⟩ : w'.cell? ⟨u1.heap.size, 0, none⟩ = some (.int .i64 s.r) ∧ w'.cell? ⟨u1.heap.size, 1, none⟩ = some (.slice s.a s.n s.cap) ∧ w'.cell? ⟨u2.heap.size, 0, none⟩ = some (.int .i64 t.r) ∧ w'.cell? ⟨u2.heap.size, 1, none⟩ = some (.slice t.a t.n t.cap) ∧ w'.cell? ⟨u3.heap.size, 0, none⟩ = some (.int .i64 p0) ∧ w'.cell? ⟨u3.heap.size, 1, none⟩ = some (.int .i64 p1) ∧ w'.cell? ⟨u3.heap.size + 1, 0, none⟩ = some (.int .i64 q0) ∧ w'.cell? ⟨u3.heap.size + 1, 1, none⟩ = some (.int .i64 q1) ∧ Below v6.heap.size v6 w'))
      have hnd : ∀ O, (v6.drew.alloc O).heap[v6.heap.size]? = some O := fun O => World.alloc_heap_new v6.drew O
      have bD : Below v6.heap.size v6 v6.drew := (Below.refl _ v6).drew
      have hnd2 : ∀ O, (v6.alloc O).drew.heap[v6.heap.size]? = some O := fun O => World.alloc_heap_new v6 O
      have bA2 : ∀ O, Below v6.heap.size v6 (v6.alloc O).drew := fun O => (alloc_below v6 O).drew
      have bA3 : ∀ O, Below v6.heap.size v6 (v6.alloc O) := fun O => alloc_below v6 O
      have bA : ∀ O, Below v6.heap.size v6 (v6.drew.alloc O) := fun O => below_step bD (alloc_below _ O)
      go_cut [17, 18] (fun v x W => ∃ (B : Nat) (x0 x1 : Int), v = .pointer (some ⟨B, 0, none⟩) ∧ x = .bool cb ∧ W.heap[B]? = some (curC (x0, x1, c2)) ∧ Below v6.heap.size v6 W)
      case first =>
        go_region_held3 (fun w' => w'.cell? ⟨u1.heap.size, 0, none⟩ = some (.int .i64 s.r) ∧ w'.cell? ⟨u1.heap.size, 1, none⟩ = some (.slice s.a s.n s.cap) ∧ w'.cell? ⟨u2.heap.size, 0, none⟩ = some (.int .i64 t.r) ∧ w'.cell? ⟨u2.heap.size, 1, none⟩ = some (.slice t.a t.n t.cap) ∧ w'.cell? ⟨u3.heap.size, 0, none⟩ = some (.int .i64 p0) ∧ w'.cell? ⟨u3.heap.size, 1, none⟩ = some (.int .i64 p1) ∧ w'.cell? ⟨u3.heap.size + 1, 0, none⟩ = some (.int .i64 q0) ∧ w'.cell? ⟨u3.heap.size + 1, 1, none⟩ = some (.int .i64 q1) ∧ Below v6.heap.size v6 w')
          (first | (exact mk.out _ bD) | (exact mk.out _ (bA _)) | (exact mk.out _ (bA2 _)) | (exact mk.out _ (bA3 _)) | (exact mk.out _ B6) | (exact mk.out _ (below_step B6 (alloc_below _ _))) | (exact mk.out _ B7) | (exact mk.out _ (below_step B7 (alloc_below _ _))) | (exact mk.out _ (((B7.setCell (by first | exact Nat.le_refl _ | exact B6.size | exact B7.size) _).setCell (by first | exact Nat.le_refl _ | exact B6.size | exact B7.size) _).setCell (by first | exact Nat.le_refl _ | exact B6.size | exact B7.size) _)) | (exact mk.out _ ((((below_step B7 (alloc_below _ _)).setCell (by first | exact Nat.le_refl _ | exact B6.size | exact B7.size) _).setCell (by first | exact Nat.le_refl _ | exact B6.size | exact B7.size) _).setCell (by first | exact Nat.le_refl _ | exact B6.size | exact B7.size) _)))
          (first
            | (go_at_call 27; with_reducible refine (hKK.out.2.2.1 _ (hs.out.carry (by first | exact bD | exact bA _ | exact bA2 _))).mono ?_; rintro e x6 ⟨se, rfl, hcol, hse, hb6⟩; have B6 : Below v6.heap.size v6 x6 := (by first | exact below_step bD hb6 | exact below_step (bA _) hb6 | exact below_step (bA2 _) hb6); (try have n6 : x6.heap[v6.heap.size]? = some (curC (0, 0, 0)) := (by first | exact (hb6.block _ (Array.getElem?_eq_some_iff.1 (hnd _)).1).trans (hnd _) | exact (hb6.block _ (Array.getElem?_eq_some_iff.1 (hnd2 _)).1).trans (hnd2 _))))
            | (go_at_call 16; with_reducible refine (hKK.out.2.2.2 _ hcol _ (hse.carry (by first | exact Below.refl _ _ | exact alloc_below _ _)) (ht.out.carry (by first | exact B6 | exact below_step B6 (alloc_below _ _)))).mono ?_; rintro e x7 ⟨y0, y1, rfl, hb7⟩; have B7 : Below v6.heap.size v6 x7 := (by first | exact below_step B6 hb7 | exact below_step (below_step B6 (alloc_below _ _)) hb7); (try have n7 := (hb7.block _ (Array.getElem?_eq_some_iff.1 n6).1).trans n6); (try have n7 : x7.heap[x6.heap.size]? = some (curC (0, 0, 0)) := (hb7.block _ (Array.getElem?_eq_some_iff.1 (World.alloc_heap_new _ _)).1).trans (World.alloc_heap_new _ _)); (try (have o0 := heap_cell n7 0; have o1 := heap_cell n7 1; have o2 := heap_cell n7 2; have f0 := heap_frozen n7 0; have f1 := heap_frozen n7 1; have f2 := heap_frozen n7 2; simp only [List.getElem?_toArray, List.getElem?_cons_zero, List.getElem?_cons_succ] at o0 o1 o2))))
        all_goals
          rename_i hHeld
          have hHB := Lib.hid hHeld.2.2.2.2.2.2.2.2
          clear hHeld
          go_wp2_with fail
          go_meet
          first
            | exact ⟨_, _, _, rfl, rfl, World.alloc_heap_new _ _, hHB.out⟩
            | exact ⟨_, _, _, rfl, rfl, store3 n7 _ _ _, hHB.out⟩
      obtain ⟨B, y0, y1, rfl, rfl, hcb, hb1⟩ := hcut
      have vk0 := heap_cell hcb 0
      have vk1 := heap_cell hcb 1
      have vk2 := heap_cell hcb 2
      simp only [List.getElem?_toArray, List.getElem?_cons_zero, List.getElem?_cons_succ] at vk0 vk1 vk2
      clear hcb mk bD bA bA2 bA3 hnd hnd2
      replace vc0 := carry (hb1) vc0
      replace vc1 := carry (hb1) vc1
      replace vc2 := carry (hb1) vc2
      replace vd0 := carry (hb1) vd0
      replace vd1 := carry (hb1) vd1
      replace vd2 := carry (hb1) vd2
      replace hB := below_step hB hb1
      replace hs := Lib.hid (hs.out.carry hb1)
      replace ht := Lib.hid (ht.out.carry hb1)
      clear hb1
      clear sA0 sA1 tA0 tA1 vp0 vp1 vq0 vq1
      have hcc : (cb == cb) = true := by simp
      have hc2 : (c2 == c2) = true := by simp
      go_wp2_with fail
      refine (lives5_any _).mono ?_
      rintro e w9 ⟨rfl, hb9⟩
      go_wp2_with fail
      go_ret
      exact ⟨rfl, below_step hB hb9⟩

set_option maxRecDepth 100000 in
theorem lifted (os : Os) (started : os.Started) (H : Type) (enc : TypeId × Value → H) :
    ReturnsInHanded {} Try.checked os 6 .any (Rows.collideSwapSpec.pre6 enc Try.prog Try.f6 Rows.collideSwapRow.domain false) (Rows.collideSwapSpec.post enc Try.prog Try.f6 false true false false) := by
  refine returnsInHanded_of_change (C := Try.checked) own started (by kernel_rfl) Try.func6
    (ChangeSpec.witness6 (enc := enc) (C := Try.checked) false ⟨#[], #[.int .i64 0, .int .i64 0, .agg #[.int .i64 0, .int .i64 0, .int .i64 0, .int .i64 0], .int .i64 0], []⟩ 8 (by kernel_rfl) (by kernel_rfl) (by kernel_rfl) (by kernel_rfl)) ?_
  intro W base args ds gs before hval0 hW hcnd _
  have hval : ∀ (j : Nat) t v, Try.f6.params[j]? = some t → args[j]? = some v → Value.okWide Try.prog W .any base t v := hval0
  have hW' := hW
  obtain ⟨p, q, hA0, hV, rfl, hfz, hnd⟩ := hW
  have hA : DataW.TrodAll enc Try.prog W 0 (fun _ => true) true Try.f6.params.toList args.toList ds p := hA0
  rw [Try.params6] at hA hval
  obtain ⟨v0, vs0, d0, ds0, p0, q0, hargs, rfl, rfl, h0, r0⟩ := trodAll_cons hA
  obtain ⟨v1, vs1, d1, ds1, p1, q1, rfl, rfl, rfl, h1, r1⟩ := trodAll_cons r0
  obtain ⟨v2, vs2, d2, ds2, p2, q2, rfl, rfl, rfl, h2, r2⟩ := trodAll_cons r1
  obtain ⟨v3, vs3, d3, ds3, p3, q3, rfl, rfl, rfl, h3, r3⟩ := trodAll_cons r2
  obtain ⟨rfl, rfl, rfl⟩ := trodAll_nil r3
  obtain rfl : args = #[v0, v1, v2, v3] := by cases args; simp_all
  obtain ⟨rfl, rfl⟩ := trodVars_none hV
  obtain ⟨a0, rfl, rfl, rfl, w0⟩ := open_int Try.underlying3 (hval 0 3 v0 rfl rfl) h0
  obtain ⟨a1, rfl, rfl, rfl, w1⟩ := open_int Try.underlying3 (hval 1 3 v1 rfl rfl) h1
  obtain ⟨z2, l2, e2, rfl, rfl, y2⟩ := open_arr Try.underlying22 Try.underlying3 (by kernel_rfl) (by kernel_rfl) (hval 2 22 v2 rfl rfl) h2
  obtain ⟨a2_0, a2_1, a2_2, a2_3, rfl⟩ := list4 l2
  simp only [List.map_cons, List.map_nil] at e2
  subst e2
  obtain ⟨a3, rfl, rfl, rfl, w3⟩ := open_int Try.underlying3 (hval 3 3 v3 rfl rfl) h3
  clear hA0 hval0
  simp only [List.append_nil] at hW'
  refine (walk a0 w0 a1 w1 a2_0 a2_1 a2_2 a2_3 (y2 _ (by simp)) (y2 _ (by simp)) (y2 _ (by simp)) (y2 _ (by simp)) a3 w3 W).mono fun e W' ⟨he, hb⟩ => ?_
  subst he
  exact ⟨_, rfl, kept_post (pa := []) hW' (fun _ _ _ => (trodAll_cons_mk (shut_bool Try.underlying4 _) trodAll_mk0)) (fun sp _ => (trodAll_cons_mk (shut_int Try.underlying3 w0) (trodAll_cons_mk (shut_int Try.underlying3 w1) (trodAll_cons_mk (shut_arr Try.underlying22 Try.underlying3 (by kernel_rfl) (by kernel_rfl) rfl y2) (trodAll_cons_mk (shut_int Try.underlying3 w3) trodAll_mk0))))) (fun _ => rfl) hb (ok_one (by kernel_rfl) rfl (okWide_bool_mk Try.underlying4 _))⟩

theorem over : Rows.collideSwapRow.holds Try.pinned (OpenSpec.ofChange Rows.collideSwapSpec) :=
  OpenClaim.holds_of_wide 6 Try.f6 rfl rfl rfl rfl rfl rfl rfl ⟨rfl, rfl, rfl, rfl, rfl⟩ rfl rfl rfl rfl rfl (by kernel_rfl) Try.func6 (by kernel_rfl)
    (of_decide_eq_true (by kernel_rfl)) (by unfold Func.isWrapper; first | (rw [if_pos (by decide +kernel)]; kernel_rfl) | (rw [if_neg (by decide +kernel)]; exact ⟨rfl, rfl⟩))
    (fun os started H enc _ => lifted os started H enc)

theorem proved : Rows.CollideSwapSaid :=
  over
#print axioms proved
end Go.Proofs.Ytnlnnpcpheaomaa.collideSwap
