/- Package collide: Collide. -/
import Derived.Test.YtfbgghkkgmgnjaaCollF
import Derived.Test.YtfbgghkkgmgnjaaVecMath
namespace Go.Proofs.Ytfbgghkkgmgnjaa
open Go.ChangeShapes Go.WideShapes Go.ChangeAt Go.RowKit Go.Shelf
open Fxm
set_option linter.unusedSimpArgs false
set_option linter.unusedVariables false
attribute [local go_sem] Oper.semAt_some

theorem nrm_part {a n : Int} (h : a * a ≤ n) : -1024 ≤ flr (a * 1024) (isq n) ∧ flr (a * 1024) (isq n) ≤ 1024 := by
  have hn : 0 ≤ n := Int.le_trans (Vcm.mul_self_nonneg a) h
  obtain ⟨h1, h2⟩ := isq_spec hn
  have h0 := isq_nonneg n
  have hab := Vcm.abs_lt_of_sq (x := a) (m := isq n + 1) (by omega) (by omega)
  by_cases hz : isq n = 0
  · rw [hz, flr_zero]; omega
  · have hp : 0 < isq n := by omega
    obtain ⟨k1, k2⟩ := flr_spec_pos (a := a * 1024) hp
    generalize flr (a * 1024) (isq n) = q at *
    generalize isq n = L at *
    constructor
    · by_cases hq : q ≤ -1025
      · have := Int.mul_le_mul_of_nonneg_left (show q + 1 ≤ -1024 by omega) (show 0 ≤ L by omega)
        rw [Int.mul_add, Int.mul_one] at this
        omega
      · omega
    · by_cases hq : 1025 ≤ q
      · have := Int.mul_le_mul_of_nonneg_left hq (show 0 ≤ L by omega)
        omega
      · omega
theorem axV_bd (d : Int × Int) : (-1024 ≤ (axV d).1 ∧ (axV d).1 ≤ 1024) ∧ (-1024 ≤ (axV d).2 ∧ (axV d).2 ≤ 1024) := by
  unfold axV
  split
  · simp only; omega
  · unfold nrm
    have h1 := Vcm.mul_self_nonneg d.1
    have h2 := Vcm.mul_self_nonneg d.2
    exact ⟨nrm_part (by omega), nrm_part (by omega)⟩
theorem small_bd' {x : Int} (h : -1024 ≤ x ∧ x ≤ 1024) : Bd x := by unfold Bd; omega

/-- The depth along the k-th axis. -/
def dpt (s t : Sp) (p q : Int × Int) (k : Nat) : Int := depthV s t p q (axisV s t p q k)
def bxS (s : Sp) (p : Int × Int) : Bo.Bx := ⟨p.1 + s.xa, p.2 + s.ya, p.1 + s.xb, p.2 + s.yb⟩
def Apart (s t : Sp) (p q : Int × Int) : Prop := ∃ k, k < ndir s t ∧ dpt s t p q k ≤ 0
/-- They collide. -/
def Hit (s t : Sp) (p q : Int × Int) : Prop := Bo.Ov (bxS s p) (bxS t q) ∧ ¬ Apart s t p q
def hitK (s t : Sp) (p q : Int × Int) : Nat := bst (dpt s t p q) (ndir s t - 1)
def hitA (s t : Sp) (p q : Int × Int) : Int × Int := axisV s t p q (hitK s t p q)
def hitN (s t : Sp) (p q : Int × Int) : Int × Int :=
  if flr ((q.1 - p.1) * (hitA s t p q).1 + (q.2 - p.2) * (hitA s t p q).2) 1024 < 0 then (-(hitA s t p q).1, -(hitA s t p q).2) else hitA s t p q
def hitD (s t : Sp) (p q : Int × Int) : Int := dpt s t p q (hitK s t p q)

theorem ovl_any (a0 a1 a2 a3 b0 b1 b2 b3 : Int) (w : World) :
    Calls Try.prog 45 #[.agg #[.int .i64 a0, .int .i64 a1, .int .i64 a2, .int .i64 a3], .agg #[.int .i64 b0, .int .i64 b1, .int .i64 b2, .int .i64 b3]] w fun e w' =>
      e = .returned (.bool (Bo.ov ⟨a0, a1, a2, a3⟩ ⟨b0, b1, b2, b3⟩)) ∧ Below w.heap.size w w' := overlap_any ⟨a0, a1, a2, a3⟩ ⟨b0, b1, b2, b3⟩ w

/-- Where Collide begins. -/
def sixBox (w : World) (s t : Sp) (p0 p1 q0 q1 : Int) : World := ((fourBox w s t p0 p1 q0 q1).alloc (.cells #[.int .i64 0, .int .i64 0, .int .i64 0] 34)).alloc (.cells #[.bool false] 4)
theorem sixBox_boxes (w : World) (s t : Sp) (p0 p1 q0 q1 : Int) : Below w.heap.size w (sixBox w s t p0 p1 q0 q1) ∧ (sixBox w s t p0 p1 q0 q1).heap.size = w.heap.size + 6 ∧ Boxes4 (sixBox w s t p0 p1 q0 q1) w.heap.size s t p0 p1 q0 q1 ∧
    (sixBox w s t p0 p1 q0 q1).heap[w.heap.size + 4]? = some (.cells #[.int .i64 0, .int .i64 0, .int .i64 0] 34) ∧ (sixBox w s t p0 p1 q0 q1).heap[w.heap.size + 5]? = some (.cells #[.bool false] 4) := by
  have h4 := fourBox_size w s t p0 p1 q0 q1
  have hb := fourBox_below w s t p0 p1 q0 q1
  have hX := fourBox_boxes w s t p0 p1 q0 q1
  unfold sixBox
  generalize fourBox w s t p0 p1 q0 q1 = F at *
  have h5 := World.alloc_heap_new F (.cells #[.int .i64 0, .int .i64 0, .int .i64 0] 34)
  have h6 := World.alloc_heap_new (F.alloc (.cells #[.int .i64 0, .int .i64 0, .int .i64 0] 34)) (.cells #[.bool false] 4)
  rw [World.size_alloc, h4] at h6
  rw [h4] at h5
  refine ⟨below_step (below_step hb (alloc_below _ _)) (alloc_below _ _), by simp [h4], (hX.carry (alloc_below _ _)).carry (alloc_below _ _), ?_, h6⟩
  rw [Below.heap_alloc _ _ _ (by simp [h4])]
  exact h5

set_option maxHeartbeats 4000000 in
set_option maxRecDepth 100000 in
theorem collideA_any (s t : Sp) (p0 p1 q0 q1 : Int) (w : World) (hs : Sh w s) (ht : Sh w t) (hp0 : Be p0) (hp1 : Be p1) (hq0 : Be q0) (hq1 : Be q1) (hno : ¬ Bo.Ov (bxS s (p0, p1)) (bxS t (q0, q1))) :
    Calls Try.prog 18 #[.agg #[.int .i64 s.r, .slice s.a s.n s.cap], .agg #[.int .i64 p0, .int .i64 p1], .agg #[.int .i64 t.r, .slice t.a t.n t.cap], .agg #[.int .i64 q0, .int .i64 q1]] w fun e w' =>
      e = .returned (.tuple #[.agg #[.int .i64 0, .int .i64 0, .int .i64 0], .bool false]) ∧ Below w.heap.size w w' := by
  have ho : Bo.ov ⟨p0 + s.xa, p1 + s.ya, p0 + s.xb, p1 + s.yb⟩ ⟨q0 + t.xa, q1 + t.ya, q0 + t.xb, q1 + t.yb⟩ = false := Bo.ov_false hno
  clear hno
  have k1 := fun w (h : Sh w s) => h.bounds p0 p1 hp0.bp hp1.bp
  have k2 := fun w (h : Sh w t) => h.bounds q0 q1 hq0.bp hq1.bp
  have k3 := fun w => ovl_any (p0 + s.xa) (p1 + s.ya) (p0 + s.xb) (p1 + s.yb) (q0 + t.xa) (q1 + t.ya) (q0 + t.xb) (q1 + t.yb) w
  rw [ho] at k3
  clear ho
  generalize p0 + s.xa = X0 at *
  generalize p1 + s.ya = X1 at *
  generalize p0 + s.xb = X2 at *
  generalize p1 + s.yb = X3 at *
  generalize q0 + t.xa = Y0 at *
  generalize q1 + t.ya = Y1 at *
  generalize q0 + t.xb = Y2 at *
  generalize q1 + t.yb = Y3 at *
  have hk := Lib.hid (And.intro k1 (And.intro k2 k3))
  have hsh := Lib.hid (And.intro hs ht)
  clear k1 k2 k3 hs ht
  go_enter Try.func18, Try.ntmps18
  go_upto_region 1 with fail
  obtain ⟨V, hV⟩ : ∃ V, V = sixBox w s t p0 p1 q0 q1 := ⟨_, rfl⟩
  rw [show ((((((w.alloc (.cells #[.int .i64 s.r, .slice s.a s.n s.cap] 25)).alloc (.cells #[.int .i64 p0, .int .i64 p1] 28)).alloc (.cells #[.int .i64 t.r, .slice t.a t.n t.cap] 25)).alloc (.cells #[.int .i64 q0, .int .i64 q1] 28)).alloc (.cells #[.int .i64 0, .int .i64 0, .int .i64 0] 34)).alloc (.cells #[.bool false] 4)) = V from hV.symm]
  have hX := sixBox_boxes w s t p0 p1 q0 q1
  rw [← hV] at hX
  clear hV
  obtain ⟨hB, hz, ⟨xA0, xA1, xP0, xP1, xB0, xB1, xQ0, xQ1⟩, hc, hb⟩ := hX
  have hsV := Lib.hid (And.intro (hsh.out.1.carry hB) (hsh.out.2.carry hB))
  refine wp_region_made (by kernel_rfl) (by kernel_rfl) ?_
  intro W hK
  have g_xA0 := fun x => carry ((hK.below x)) xA0
  have g_xA1 := fun x => carry ((hK.below x)) xA1
  have g_xP0 := fun x => carry ((hK.below x)) xP0
  have g_xP1 := fun x => carry ((hK.below x)) xP1
  have g_xB0 := fun x => carry ((hK.below x)) xB0
  have g_xB1 := fun x => carry ((hK.below x)) xB1
  have g_xQ0 := fun x => carry ((hK.below x)) xQ0
  have g_xQ1 := fun x => carry ((hK.below x)) xQ1
  repeat (go_big_quiet_step ((first | (go_at_call 22; with_reducible exact met_made (hk.out.1 _ (hsV.out.1.carry (hK.below _)))) | (go_at_call 22; with_reducible exact met_made (hk.out.2.1 _ (hsV.out.2.carry (hK.below _)))) | (go_at_call 45; with_reducible exact met_made (hk.out.2.2 _)))))
  refine wpQuiet_nil ?_
  intro wq hw'
  have hbq := kept_in hK hw'
  clear g_xA0 g_xA1 g_xP0 g_xP1 g_xB0 g_xB1 g_xQ0 g_xQ1
  clear hw' hK W
  replace xA0 := carry (hbq) xA0
  replace xA1 := carry (hbq) xA1
  replace xP0 := carry (hbq) xP0
  replace xP1 := carry (hbq) xP1
  replace xB0 := carry (hbq) xB0
  replace xB1 := carry (hbq) xB1
  replace xQ0 := carry (hbq) xQ0
  replace xQ1 := carry (hbq) xQ1
  have hc' := (hbq.block (w.heap.size + 4) (by omega)).trans hc
  have hb' := (hbq.block (w.heap.size + 5) (by omega)).trans hb
  have hz' : w.heap.size + 6 ≤ wq.heap.size := by have := hbq.size; omega
  replace hB := below_step hB hbq
  replace hsV := Lib.hid (And.intro (hsV.out.1.carry hbq) (hsV.out.2.carry hbq))
  clear hc hb hz hbq hk
  have c0 := heap_cell hc' 0
  have c1 := heap_cell hc' 1
  have c2 := heap_cell hc' 2
  have b0 := heap_cell hb' 0
  have g0 := heap_frozen hc' 0
  have g1 := heap_frozen hc' 1
  have g2 := heap_frozen hc' 2
  have gb := heap_frozen hb' 0
  simp only [List.getElem?_toArray, List.getElem?_cons_zero, List.getElem?_cons_succ] at c0 c1 c2 b0
  go_wp2
  refine bodyPost_ret (v := .tuple #[.agg #[.int .i64 0, .int .i64 0, .int .i64 0], .bool false]) (by simp [results, Try.results18, go_sem, c0, c1, c2, b0]) rfl ⟨rfl, ?_⟩
  exact (((hB.setCell (by first | (simp; done) | (simp; omega) | omega) _).setCell (by first | (simp; done) | (simp; omega) | omega) _).setCell (by first | (simp; done) | (simp; omega) | omega) _).setCell (by first | (simp; done) | (simp; omega) | omega) _
end Go.Proofs.Ytfbgghkkgmgnjaa
