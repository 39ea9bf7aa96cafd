/- Package collide: Collide, where the bounds overlap. -/
import Derived.Test.YtfbgghkkgmgnjaaCollG
namespace Go.Proofs.Ytfbgghkkgmgnjaa
open Go.ChangeShapes Go.WideShapes Go.ChangeAt Go.RowKit Go.Shelf
open Fxm
set_option linter.unusedSimpArgs false
set_option linter.unusedVariables false
attribute [local go_sem] Oper.semAt_some

/-- What the loop has found when k rounds are over. -/
def curV (ax : Nat → Int × Int) (D : Nat → Int) (k : Nat) : Int × Int × Int := if k = 0 then (0, 0, 0) else ((ax (bst D (k - 1))).1, (ax (bst D (k - 1))).2, D (bst D (k - 1)))
theorem cur_zero (ax : Nat → Int × Int) (D : Nat → Int) : curV ax D 0 = (0, 0, 0) := rfl
theorem cur_succ (ax : Nat → Int × Int) (D : Nat → Int) (k : Nat) : curV ax D (k + 1) = ((ax (bst D k)).1, (ax (bst D k)).2, D (bst D k)) := rfl
theorem cur_new {ax : Nat → Int × Int} {D : Nat → Int} {k : Nat} (h : k = 0 ∨ D k < (curV ax D k).2.2) : curV ax D (k + 1) = ((ax k).1, (ax k).2, D k) := by
  rw [cur_succ]
  cases k with
  | zero => rfl
  | succ j => rw [cur_succ] at h; rw [bst_yes (h.resolve_left (by omega))]
theorem cur_same {ax : Nat → Int × Int} {D : Nat → Int} {k : Nat} (h0 : k ≠ 0) (h : ¬ D k < (curV ax D k).2.2) : curV ax D (k + 1) = curV ax D k := by
  cases k with
  | zero => exact absurd rfl h0
  | succ j => rw [cur_succ] at h; rw [cur_succ, cur_succ, bst_no h]
theorem cur_pos {ax : Nat → Int × Int} {D : Nat → Int} {k : Nat} (h0 : k ≠ 0) (h : ∀ i, i < k → 0 < D i) : 0 < (curV ax D k).2.2 := by
  cases k with
  | zero => exact absurd rfl h0
  | succ j => rw [cur_succ]; exact h _ (Nat.lt_succ_of_le (bst_le _ _))
def curC (c : Int × Int × Int) : Obj := .cells #[.int .i64 c.1, .int .i64 c.2.1, .int .i64 c.2.2] 34
theorem store3 {W : World} {B : Nat} {c : Int × Int × Int} (h : W.heap[B]? = some (curC c)) (x y z : Int) :
    (((W.setCell ⟨B, 0, none⟩ (.int .i64 x)).setCell ⟨B, 1, none⟩ (.int .i64 y)).setCell ⟨B, 2, none⟩ (.int .i64 z)).heap[B]? = some (curC (x, y, z)) := by
  unfold curC at *
  have := heap_setCell (heap_setCell (heap_setCell h 0 (.int .i64 x)) 1 (.int .i64 y)) 2 (.int .i64 z)
  simpa using this

set_option maxHeartbeats 1000000 in
set_option maxRecDepth 100000 in
theorem collideB_any (s t : Sp) (p0 p1 q0 q1 : Int) (w : World) (hs : Sh w s) (ht : Sh w t) (hp0 : Be p0) (hp1 : Be p1) (hq0 : Be q0) (hq1 : Be q1) (hyes : Bo.Ov (bxS s (p0, p1)) (bxS t (q0, q1))) :
    Calls Try.prog 18 #[.agg #[.int .i64 s.r, .slice s.a s.n s.cap], .agg #[.int .i64 p0, .int .i64 p1], .agg #[.int .i64 t.r, .slice t.a t.n t.cap], .agg #[.int .i64 q0, .int .i64 q1]] w fun e w' =>
      ((Apart s t (p0, p1) (q0, q1) ∧ e = .returned (.tuple #[.agg #[.int .i64 0, .int .i64 0, .int .i64 0], .bool false])) ∨
       (¬ Apart s t (p0, p1) (q0, q1) ∧ e = .returned (.tuple #[.agg #[.int .i64 (hitN s t (p0, p1) (q0, q1)).1, .int .i64 (hitN s t (p0, p1) (q0, q1)).2, .int .i64 (hitD s t (p0, p1) (q0, q1))], .bool true]))) ∧ Below w.heap.size w w' := by
  have ho : Bo.ov ⟨p0 + s.xa, p1 + s.ya, p0 + s.xb, p1 + s.yb⟩ ⟨q0 + t.xa, q1 + t.ya, q0 + t.xb, q1 + t.yb⟩ = true := Bo.ov_true hyes
  have hn1 := ndir_pos (t := t) hs
  have hn2 := ndir_le hs ht
  clear hyes
  have k1 := fun w (h : Sh w s) => h.bounds p0 p1 hp0.bp hp1.bp
  have k2 := fun w (h : Sh w t) => h.bounds q0 q1 hq0.bp hq1.bp
  have k3 := fun w => ovl_any (p0 + s.xa) (p1 + s.ya) (p0 + s.xb) (p1 + s.yb) (q0 + t.xa) (q1 + t.ya) (q0 + t.xb) (q1 + t.yb) w
  rw [ho] at k3
  clear ho
  generalize p0 + s.xa = X0 at *
  generalize p1 + s.ya = X1 at *
  generalize p0 + s.xb = X2 at *
  generalize p1 + s.yb = X3 at *
  generalize q0 + t.xa = Y0 at *
  generalize q1 + t.ya = Y1 at *
  generalize q0 + t.xb = Y2 at *
  generalize q1 + t.yb = Y3 at *
  have hk := Lib.hid (And.intro k1 (And.intro k2 k3))
  have hsh := Lib.hid (And.intro hs ht)
  clear k1 k2 k3 hs ht
  refine (callsIn_wide (n := 9)).1 (callsIn_of_wp_marks Try.func18 rfl trivial (wpIn_wide.2 ?_) rfl)
  simp only [Try.ntmps18, List.size_toArray, List.length_cons, List.length_nil, Nat.reduceAdd, Nat.reduceSub, Array.replicate_succ, Array.replicate_zero, List.push_toArray, List.append_toArray, List.nil_append, List.cons_append]
  go_upto_region 1 with fail
  obtain ⟨V, hV⟩ : ∃ V, V = sixBox w s t p0 p1 q0 q1 := ⟨_, rfl⟩
  rw [show ((((((w.alloc (.cells #[.int .i64 s.r, .slice s.a s.n s.cap] 25)).alloc (.cells #[.int .i64 p0, .int .i64 p1] 28)).alloc (.cells #[.int .i64 t.r, .slice t.a t.n t.cap] 25)).alloc (.cells #[.int .i64 q0, .int .i64 q1] 28)).alloc (.cells #[.int .i64 0, .int .i64 0, .int .i64 0] 34)).alloc (.cells #[.bool false] 4)) = V from hV.symm]
  have hX := sixBox_boxes w s t p0 p1 q0 q1
  rw [← hV] at hX
  clear hV
  obtain ⟨hB, hz, ⟨xA0, xA1, xP0, xP1, xB0, xB1, xQ0, xQ1⟩, hc, hb⟩ := hX
  have hsV := Lib.hid (And.intro (hsh.out.1.carry hB) (hsh.out.2.carry hB))
  refine wp_region_made (by kernel_rfl) (by kernel_rfl) ?_
  intro W hK
  have g_xA0 := fun x => carry ((hK.below x)) xA0
  have g_xA1 := fun x => carry ((hK.below x)) xA1
  have g_xP0 := fun x => carry ((hK.below x)) xP0
  have g_xP1 := fun x => carry ((hK.below x)) xP1
  have g_xB0 := fun x => carry ((hK.below x)) xB0
  have g_xB1 := fun x => carry ((hK.below x)) xB1
  have g_xQ0 := fun x => carry ((hK.below x)) xQ0
  have g_xQ1 := fun x => carry ((hK.below x)) xQ1
  repeat (go_big_quiet_step ((first | (go_at_call 22; with_reducible exact met_made (hk.out.1 _ (hsV.out.1.carry (hK.below _)))) | (go_at_call 22; with_reducible exact met_made (hk.out.2.1 _ (hsV.out.2.carry (hK.below _)))) | (go_at_call 45; with_reducible exact met_made (hk.out.2.2 _)))))
  refine wpQuiet_nil ?_
  intro wq hw'
  have hbq := kept_in hK hw'
  clear g_xA0 g_xA1 g_xP0 g_xP1 g_xB0 g_xB1 g_xQ0 g_xQ1
  clear hw' hK W
  replace xA0 := carry (hbq) xA0
  replace xA1 := carry (hbq) xA1
  replace xP0 := carry (hbq) xP0
  replace xP1 := carry (hbq) xP1
  replace xB0 := carry (hbq) xB0
  replace xB1 := carry (hbq) xB1
  replace xQ0 := carry (hbq) xQ0
  replace xQ1 := carry (hbq) xQ1
  have hc' := (hbq.block (w.heap.size + 4) (by omega)).trans hc
  have hb' := (hbq.block (w.heap.size + 5) (by omega)).trans hb
  have hz' : w.heap.size + 6 ≤ wq.heap.size := by have := hbq.size; omega
  replace hB := below_step hB hbq
  replace hsV := Lib.hid (And.intro (hsV.out.1.carry hbq) (hsV.out.2.carry hbq))
  clear hc hb hz hbq hk
  obtain ⟨G, hGq⟩ : ∃ G, G = wq := ⟨_, rfl⟩
  subst hGq
  have nA := block_lt_of_cell xA0
  have nP := block_lt_of_cell xP0
  have nB := block_lt_of_cell xB0
  have nQ := block_lt_of_cell xQ0
  simp only at nA nP nB nQ
  go_wp2_with fail
  refine (axes_any s t p0 p1 q0 q1 _).mono ?_
  rintro e V ⟨rfl, hV⟩
  obtain ⟨U, hU⟩ : ∃ U, U = G.alloc (curC (0, 0, 0)) := ⟨_, rfl⟩
  have hbU : Below G.heap.size G U := by rw [hU]; exact alloc_below _ _
  have hzU : U.heap.size = G.heap.size + 1 := by rw [hU]; simp
  have hLU : U.heap[G.heap.size]? = some (curC (0, 0, 0)) := by rw [hU]; exact World.alloc_heap_new _ _
  rw [show G.alloc (.cells #[.int .i64 0, .int .i64 0, .int .i64 0] 34) = U from hU.symm] at hV ⊢
  clear hU
  have hX := fourBox_boxes U s t p0 p1 q0 q1
  have hbV := fourBox_below U s t p0 p1 q0 q1
  have hzV := fourBox_size U s t p0 p1 q0 q1
  rw [← hV] at hX hbV hzV
  clear hV
  have hBV := below_step hbU hbV
  have hB2 := below_step hB hBV
  have hLV := (hbV.block G.heap.size (by omega)).trans hLU
  have hcV := (hBV.block (w.heap.size + 4) (by omega)).trans hc'
  have hrV := (hBV.block (w.heap.size + 5) (by omega)).trans hb'
  replace xA0 := carry (hBV) xA0
  replace xA1 := carry (hBV) xA1
  replace xP0 := carry (hBV) xP0
  replace xP1 := carry (hBV) xP1
  replace xB0 := carry (hBV) xB0
  replace xB1 := carry (hBV) xB1
  replace xQ0 := carry (hBV) xQ0
  replace xQ1 := carry (hBV) xQ1
  have hsW := Lib.hid (And.intro (hsV.out.1.carry hBV) (hsV.out.2.carry hBV))
  have hlow := Lib.hid (And.intro hsh.out.1.low hsh.out.2.low)
  rw [hzU] at hX
  have hG := Lib.hid (axes_gives s t p0 p1 q0 q1 (G.heap.size + 1) (fun r => r < w.heap.size) V hsW.out.1 hsW.out.2 hlow.out.1 hlow.out.2 (fun r h => Nat.lt_of_lt_of_le h hB2.size) hX hp0 hp1 hq0 hq1)
  clear hX hsV hsh hbU hbV hLU hc' hb'
  obtain ⟨D, hD⟩ : ∃ D, D = dpt s t (p0, p1) (q0, q1) := ⟨_, rfl⟩
  obtain ⟨ax, hax⟩ : ∃ ax, ax = axisV s t (p0, p1) (q0, q1) := ⟨_, rfl⟩
  have hDk := Lib.hid (show ∀ k, depthV s t (p0, p1) (q0, q1) ((ax k).1, (ax k).2) = D k from fun k => by rw [hD, hax]; rfl)
  have haxb := Lib.hid (show ∀ k, Bd (ax k).1 ∧ Bd (ax k).2 from fun k => by rw [hax]; exact ⟨small_bd' (axV_bd _).1, small_bd' (axV_bd _).2⟩)
  have hDN := Lib.hid (And.intro hD hax)
  clear hD hax
  generalize hNN : ndir s t = N at hn1 hn2
  have hNN' := Lib.hid hNN
  clear hNN
  have hwq : w.heap.size + 6 ≤ G.heap.size := hz'
  clear hz'
  go_wp2_with fail
  refine (wpIn_wide (n := 9)).1 ?_
  refine range_gives (w0 := V) (c := 8) (N := ndir s t) (S := fun r => r < w.heap.size) rfl (enters_of Try.func70 (by kernel_rfl) rfl) hG.out (Below.refl _ _) (fun r h => Nat.lt_of_lt_of_le h hB2.size) (fun _ => rfl)
    (fun k X => X.heap[G.heap.size]? = some (curC (curV ax D k)) ∧ Below G.heap.size V X ∧ ∀ i, i < k → 0 < D i)
    (fun k X => D k ≤ 0 ∧ X.heap[w.heap.size + 4]? = some (curC (0, 0, 0)) ∧ X.heap[w.heap.size + 5]? = some (.cells #[.bool false] 4) ∧ Below w.heap.size w X) ?hI ?hIx ⟨hLV, Below.refl _ _, fun i hi => absurd hi (Nat.not_lt_zero _)⟩ ?round ?done ?stop
  case hI => exact Steady.and (steady_block (o := fun k => curC (curV ax D k)) (by omega)) (Steady.and (steady_below (by omega) fun r h => by omega) (Steady.pure _ _))
  case hIx => exact Steady.and (Steady.pure _ _) (Steady.and (steady_block (o := fun _ => curC (0, 0, 0)) (by omega)) (Steady.and (steady_block (o := fun _ => .cells #[.bool false] 4) (by omega)) (steady_below (Nat.le_refl _) fun r h => by omega)))
  case round =>
    rintro l k X hk hsz ⟨hcur, hbX, hpos⟩
    have ha := haxb.out k
    have hdk := hDk.out k
    have kd := fun W (h1 : Sh W s) (h2 : Sh W t) => depth_any s t p0 p1 q0 q1 (ax k).1 (ax k).2 W h1 h2 hp0 hp1 hq0 hq1 ha.1 ha.2
    rw [hdk] at kd
    simp only [axE]
    rw [show axV (dirV s t (p0, p1) (q0, q1) k) = ax k from by rw [hDN.out.2]; rfl]
    obtain ⟨a0, ha0⟩ : ∃ x, x = (ax k).1 := ⟨_, rfl⟩
    obtain ⟨a1, ha1⟩ : ∃ x, x = (ax k).2 := ⟨_, rfl⟩
    obtain ⟨d, hd⟩ : ∃ x, x = D k := ⟨_, rfl⟩
    rw [← ha0, ← ha1, ← hd] at kd
    rw [← ha0, ← ha1]
    have hx := Lib.hid (And.intro ha0 (And.intro ha1 hd))
    have hkd := Lib.hid kd
    have hpos' := Lib.hid hpos
    clear ha0 ha1 hd hdk ha kd hpos
    gi_wp2
    refine ⟨KeepOn.below (alloc_below _ _), fun Y hT => ?_⟩
    have hz : X.heap.size + 1 ≤ Y.heap.size := by have := hT.size; simpa using this
    have c0 : Y.cell? ⟨X.heap.size, 0, none⟩ = some (.int .i64 a0) := hT.cell (by simp [go_sem]) (by simp only; omega)
    have c1 : Y.cell? ⟨X.heap.size, 1, none⟩ = some (.int .i64 a1) := hT.cell (by simp [go_sem]) (by simp only; omega)
    have hcY := hT.heap ((Below.heap_alloc X (.cells #[.int .i64 a0, .int .i64 a1] 28) _ (Array.getElem?_eq_some_iff.1 hcur).1).trans hcur) (by omega)
    have hbY : Below G.heap.size V Y := by
      obtain ⟨r, hr1, hg⟩ := hT
      exact (hbX.alloc (by have := hbX.size; omega) _).grown hg (by have := hbX.size; simp; omega) fun r' e => by cases e; omega
    have hKw : KeepOn (fun r => r < w.heap.size) V Y := ⟨hbY.size, fun r hr _ => hbY.block r (by omega)⟩
    have hsY := Lib.hid (And.intro (hsW.out.1.keep hKw hlow.out.1) (hsW.out.2.keep hKw hlow.out.2))
    have yA0 := (hbY.cell (p := ⟨w.heap.size, 0, none⟩) (by simp only; omega)).trans xA0
    have yA1 := (hbY.cell (p := ⟨w.heap.size, 1, none⟩) (by simp only; omega)).trans xA1
    have yP0 := (hbY.cell (p := ⟨w.heap.size + 1, 0, none⟩) (by simp only; omega)).trans xP0
    have yP1 := (hbY.cell (p := ⟨w.heap.size + 1, 1, none⟩) (by simp only; omega)).trans xP1
    have yB0 := (hbY.cell (p := ⟨w.heap.size + 2, 0, none⟩) (by simp only; omega)).trans xB0
    have yB1 := (hbY.cell (p := ⟨w.heap.size + 2, 1, none⟩) (by simp only; omega)).trans xB1
    have yQ0 := (hbY.cell (p := ⟨w.heap.size + 3, 0, none⟩) (by simp only; omega)).trans xQ0
    have yQ1 := (hbY.cell (p := ⟨w.heap.size + 3, 1, none⟩) (by simp only; omega)).trans xQ1
    have hY4 := Lib.hid ((hbY.block (w.heap.size + 4) (by omega)).trans hcV)
    have hY5 := Lib.hid ((hbY.block (w.heap.size + 5) (by omega)).trans hrV)
    have hcY' := Lib.hid hcY
    clear hcur hcY xA0 xA1 xP0 xP1 xB0 xB1 xQ0 xQ1 hKw
    gi_wp2_with fail
    refine ⟨trivial, ?_⟩
    gi_at_call 46
    refine (CallsIn.inRound l (callsIn_wide.2 (hkd.out _ hsY.out.1 hsY.out.2))).mono ?_
    rintro e Z ⟨rfl, hbZ⟩
    clear yA0 yA1 yP0 yP1 yB0 yB1 yQ0 yQ1
    have z0 := carry hbZ c0
    have z1 := carry hbZ c1
    have hZL := Lib.hid ((hbZ.block _ (Array.getElem?_eq_some_iff.1 hcY'.out).1).trans hcY'.out)
    have hZ4 := Lib.hid ((hbZ.block _ (Array.getElem?_eq_some_iff.1 hY4.out).1).trans hY4.out)
    have hZ5 := Lib.hid ((hbZ.block _ (Array.getElem?_eq_some_iff.1 hY5.out).1).trans hY5.out)
    have hbVZ : Below G.heap.size V Z := hbY.trans (hbZ.mono (by have := hbY.size; omega))
    have hbwZ : Below w.heap.size w Z := hB2.trans (hbVZ.mono (by omega))
    have hzZ : Y.heap.size ≤ Z.heap.size := hbZ.size
    have m0 := heap_cell hZ4.out 0
    have m1 := heap_cell hZ4.out 1
    have m2 := heap_cell hZ4.out 2
    have mb := heap_cell hZ5.out 0
    have f0 := heap_frozen hZ4.out 0
    have f1 := heap_frozen hZ4.out 1
    have f2 := heap_frozen hZ4.out 2
    have fb := heap_frozen hZ5.out 0
    have l0 := heap_cell hZL.out 0
    have l1 := heap_cell hZL.out 1
    have l2 := heap_cell hZL.out 2
    have g0 := heap_frozen hZL.out 0
    have g1 := heap_frozen hZL.out 1
    have g2 := heap_frozen hZL.out 2
    simp only [List.getElem?_toArray, List.getElem?_cons_zero, List.getElem?_cons_succ] at m0 m1 m2 mb l0 l1 l2
    have hkZ : KeepOn (fun r => r < w.heap.size ∨ (V.heap.size ≤ r ∧ r < V.heap.size + 2 + 8)) Y Z := KeepOn.below hbZ
    have nL : ¬ (G.heap.size < w.heap.size ∨ (V.heap.size ≤ G.heap.size ∧ G.heap.size < V.heap.size + 2 + 8)) := by omega
    have n4 : ¬ (w.heap.size + 4 < w.heap.size ∨ (V.heap.size ≤ w.heap.size + 4 ∧ w.heap.size + 4 < V.heap.size + 2 + 8)) := by omega
    have n5 : ¬ (w.heap.size + 5 < w.heap.size ∨ (V.heap.size ≤ w.heap.size + 5 ∧ w.heap.size + 5 < V.heap.size + 2 + 8)) := by omega
    clear c0 c1 hcY' hY4 hY5 hbZ
    by_cases hd0 : d ≤ 0
    · have e1 : decide (d ≤ 0) = true := decide_eq_true hd0
      have hd0' := Lib.hid hd0
      clear hd0
      gi_wp2
      refine ⟨(((hkZ.trans (KeepOn.setCell _ n4)).trans (KeepOn.setCell _ n4)).trans (KeepOn.setCell _ n4)).trans (KeepOn.setCell _ n5), by rw [← hx.out.2.2]; exact hd0'.out, ?_, ?_, (((hbwZ.setCell (by first | (simp; done) | (simp; omega) | omega) _).setCell (by first | (simp; done) | (simp; omega) | omega) _).setCell (by first | (simp; done) | (simp; omega) | omega) _).setCell (by first | (simp; done) | (simp; omega) | omega) _⟩
      · rw [Below.heap_setCell _ _ _ _ (by simp)]
        exact store3 (c := (0, 0, 0)) hZ4.out _ _ _
      · refine (heap_setCell (cs := #[.bool false]) (t := 4) ?_ 0 (.bool false)).trans (by simp)
        rw [Below.heap_setCell _ _ _ _ (by simp), Below.heap_setCell _ _ _ _ (by simp), Below.heap_setCell _ _ _ _ (by simp)]
        exact hZ5.out
    · have e1 : decide (d ≤ 0) = false := decide_eq_false hd0
      have hd0' := Lib.hid (show 0 < d by omega)
      clear hd0
      have hall : ∀ i, i < k + 1 → 0 < D i := fun i hi => by
        by_cases e : i = k
        · subst e; rw [← hx.out.2.2]; exact hd0'.out
        · exact hpos'.out i (by omega)
      have hall' := Lib.hid hall
      clear hall
      have hstored : ∀ c : Int × Int × Int, c = (a0, a1, d) → (((Z.setCell ⟨G.heap.size, 0, none⟩ (.int .i64 a0)).setCell ⟨G.heap.size, 1, none⟩ (.int .i64 a1)).setCell ⟨G.heap.size, 2, none⟩ (.int .i64 d)).heap[G.heap.size]? = some (curC c) := fun c e => by rw [e]; exact store3 hZL.out _ _ _
      have hstored' := Lib.hid (And.intro hstored (And.intro (((hkZ.trans (KeepOn.setCell (p := ⟨G.heap.size, 0, none⟩) (.int .i64 a0) nL)).trans (KeepOn.setCell (p := ⟨G.heap.size, 1, none⟩) (.int .i64 a1) nL)).trans (KeepOn.setCell (p := ⟨G.heap.size, 2, none⟩) (.int .i64 d) nL))
        (((hbVZ.setCell (p := ⟨G.heap.size, 0, none⟩) (Nat.le_refl _) (.int .i64 a0)).setCell (p := ⟨G.heap.size, 1, none⟩) (Nat.le_refl _) (.int .i64 a1)).setCell (p := ⟨G.heap.size, 2, none⟩) (Nat.le_refl _) (.int .i64 d))))
      clear hstored
      by_cases hk0 : k = 0
      · rw [hk0, cur_zero] at l0 l1 l2
        simp only at l0 l1 l2
        have hk0' := Lib.hid hk0
        clear hk0
        gi_wp2
        exact ⟨hstored'.out.2.1, hstored'.out.1 _ (by rw [cur_new (.inl hk0'.out), ← hx.out.1, ← hx.out.2.1, ← hx.out.2.2]), hstored'.out.2.2, hall'.out⟩
      · have hcp := cur_pos (ax := ax) hk0 hpos'.out
        obtain ⟨c, hc⟩ : ∃ c, c = curV ax D k := ⟨_, rfl⟩
        rw [← hc] at hcp l0 l1 l2
        obtain ⟨n0, n1, sd⟩ := c
        simp only at hcp l0 l1 l2
        have hc' := Lib.hid hc
        have hk0' := Lib.hid hk0
        clear hc hk0
        have h1 : (sd == 0) = false := by simp only [beq_eq_false_iff_ne, ne_eq]; omega
        have h2 : decide (sd = 0) = false := decide_eq_false (by omega)
        have h3 : sd ≠ 0 := by omega
        clear hcp
        by_cases hlt : d < sd
        · have e2 : decide (d < sd) = true := decide_eq_true hlt
          have hlt' := Lib.hid hlt
          clear hlt
          gi_wp2
          exact ⟨hstored'.out.2.1, hstored'.out.1 _ (by rw [cur_new (.inr (by rw [← hc'.out, ← hx.out.2.2]; exact hlt'.out)), ← hx.out.1, ← hx.out.2.1, ← hx.out.2.2]), hstored'.out.2.2, hall'.out⟩
        · have e2 : decide (d < sd) = false := decide_eq_false hlt
          have hlt' := Lib.hid (show sd ≤ d by omega)
          clear hlt
          gi_wp2
          exact ⟨hkZ, by rw [cur_same hk0'.out (by have := hlt'.out; rw [← hc'.out, ← hx.out.2.2]; simp only; omega)]; exact hZL.out, hbVZ, hall'.out⟩
  case done =>
    rintro E X rfl ⟨hcur, hbX, hpos⟩ hE
    have hnA : ¬ Apart s t (p0, p1) (q0, q1) := by
      rintro ⟨k, hk, hd⟩
      have := hpos k hk
      rw [hDN.out.1] at this
      omega
    have hcN : curV ax D (ndir s t) = ((hitA s t (p0, p1) (q0, q1)).1, (hitA s t (p0, p1) (q0, q1)).2, hitD s t (p0, p1) (q0, q1)) := by
      obtain ⟨j, hj⟩ : ∃ j, ndir s t = j + 1 := ⟨ndir s t - 1, by have := hNN'.out; omega⟩
      rw [hj, cur_succ]
      unfold hitD hitA hitK
      rw [hj, hDN.out.1, hDN.out.2]
      rfl
    rw [hcN] at hcur
    have hN1 := axV_bd (dirV s t (p0, p1) (q0, q1) (hitK s t (p0, p1) (q0, q1)))
    rw [show axV (dirV s t (p0, p1) (q0, q1) (hitK s t (p0, p1) (q0, q1))) = hitA s t (p0, p1) (q0, q1) from rfl] at hN1
    have kN := fun w => neg_any (hitA s t (p0, p1) (q0, q1)).1 (hitA s t (p0, p1) (q0, q1)).2 w (small_bd' hN1.1) (small_bd' hN1.2)
    have kS := fun w => sub_any q0 q1 p0 p1 w hq0.bd hq1.bd hp0.bd hp1.bd
    have kD := fun w => dot_any (q0 - p0) (q1 - p1) (hitA s t (p0, p1) (q0, q1)).1 (hitA s t (p0, p1) (q0, q1)).2 w (by unfold Be at *; unfold Bd; omega) (by unfold Be at *; unfold Bd; omega) (small_bd' hN1.1) (small_bd' hN1.2)
    have hNe : hitN s t (p0, p1) (q0, q1) = if flr ((q0 - p0) * (hitA s t (p0, p1) (q0, q1)).1 + (q1 - p1) * (hitA s t (p0, p1) (q0, q1)).2) 1024 < 0 then (-(hitA s t (p0, p1) (q0, q1)).1, -(hitA s t (p0, p1) (q0, q1)).2) else ((hitA s t (p0, p1) (q0, q1)).1, (hitA s t (p0, p1) (q0, q1)).2) := rfl
    obtain ⟨d, hdd⟩ : ∃ d, d = hitD s t (p0, p1) (q0, q1) := ⟨_, rfl⟩
    rw [← hdd] at hcur
    generalize (hitA s t (p0, p1) (q0, q1)).1 = a0 at *
    generalize (hitA s t (p0, p1) (q0, q1)).2 = a1 at *
    generalize flr ((q0 - p0) * a0 + (q1 - p1) * a1) 1024 = dt at *
    generalize q0 - p0 = z0 at *
    generalize q1 - p1 = z1 at *
    have hk := Lib.hid (And.intro kN (And.intro kS kD))
    have hnA' := Lib.hid (And.intro hnA (And.intro hNe hdd))
    have yP0 := (hbX.cell (p := ⟨w.heap.size + 1, 0, none⟩) (by simp only; omega)).trans xP0
    have yP1 := (hbX.cell (p := ⟨w.heap.size + 1, 1, none⟩) (by simp only; omega)).trans xP1
    have yQ0 := (hbX.cell (p := ⟨w.heap.size + 3, 0, none⟩) (by simp only; omega)).trans xQ0
    have yQ1 := (hbX.cell (p := ⟨w.heap.size + 3, 1, none⟩) (by simp only; omega)).trans xQ1
    have hX4 := Lib.hid ((hbX.block (w.heap.size + 4) (by omega)).trans hcV)
    have hX5 := Lib.hid ((hbX.block (w.heap.size + 5) (by omega)).trans hrV)
    have hcur' := Lib.hid hcur
    have l0 := heap_cell hcur 0
    have l1 := heap_cell hcur 1
    have l2 := heap_cell hcur 2
    simp only [List.getElem?_toArray, List.getElem?_cons_zero, List.getElem?_cons_succ] at l0 l1 l2
    have hbX' := Lib.hid hbX
    have hE' := Lib.hid hE
    have hGV : G.heap.size < V.heap.size := by omega
    have hVU := Lib.hid (And.intro hzU hzV)
    clear hzU hzV hdd kN kS kD hnA hNe hcur hcN hN1 hpos hE xA0 xA1 xP0 xP1 xB0 xB1 xQ0 xQ1 hbX
    go_upto_region 11 with fail
    refine wp_region_made (by kernel_rfl) (by kernel_rfl) ?_
    intro W hK
    have g_yP0 := fun x => carry ((hK.below x)) yP0
    have g_yP1 := fun x => carry ((hK.below x)) yP1
    have g_yQ0 := fun x => carry ((hK.below x)) yQ0
    have g_yQ1 := fun x => carry ((hK.below x)) yQ1
    have g_l0 := fun x => carry ((hK.below x)) l0
    have g_l1 := fun x => carry ((hK.below x)) l1
    have g_l2 := fun x => carry ((hK.below x)) l2
    repeat (go_big_quiet_step ((first | (go_at_call 48; with_reducible exact met_made (hk.out.2.1 _)) | (go_at_call 47; with_reducible exact met_made (hk.out.2.2 _)))))
    refine wpQuiet_nil ?_
    intro wq hw'
    have hbq := kept_in hK hw'
    clear g_yP0 g_yP1 g_yQ0 g_yQ1 g_l0 g_l1 g_l2
    clear hw' hK W
    replace yP0 := carry (hbq) yP0
    replace yP1 := carry (hbq) yP1
    replace yQ0 := carry (hbq) yQ0
    replace yQ1 := carry (hbq) yQ1
    replace l0 := carry (hbq) l0
    replace l1 := carry (hbq) l1
    replace l2 := carry (hbq) l2
    have hX4q := Lib.hid ((hbq.block _ (Array.getElem?_eq_some_iff.1 hX4.out).1).trans hX4.out)
    have hX5q := Lib.hid ((hbq.block _ (Array.getElem?_eq_some_iff.1 hX5.out).1).trans hX5.out)
    have hEq := Lib.hid ((hbq.block _ (Array.getElem?_eq_some_iff.1 hE'.out).1).trans hE'.out)
    have hcq := Lib.hid ((hbq.block _ (Array.getElem?_eq_some_iff.1 hcur'.out).1).trans hcur'.out)
    have hbw := (hB2.trans (hbX'.out.mono (by omega))).trans (hbq.mono (by have := hbX'.out.size; omega))
    clear hX4 hX5 hE' hcur' hbX' hbq
    by_cases hdt : dt < 0
    · have hdt' := Lib.hid hdt
      go_wp2_with fail
      refine (hk.out.1 _).mono ?_
      rintro e Z ⟨rfl, hbZ⟩
      have hZ4 := Lib.hid ((hbZ.block _ (Array.getElem?_eq_some_iff.1 hX4q.out).1).trans hX4q.out)
      have hZ5 := Lib.hid ((hbZ.block _ (Array.getElem?_eq_some_iff.1 hX5q.out).1).trans hX5q.out)
      have hEZ := Lib.hid ((hbZ.block _ (Array.getElem?_eq_some_iff.1 hEq.out).1).trans hEq.out)
      have hcZ := Lib.hid ((hbZ.block _ (Array.getElem?_eq_some_iff.1 hcq.out).1).trans hcq.out)
      replace hbw := hbw.trans (hbZ.mono hbw.size)
      clear hX4q hX5q hEq hcq hbZ l0 l1 l2 yP0 yP1 yQ0 yQ1
      have l0 := heap_cell hcZ.out 0
      have l1 := heap_cell hcZ.out 1
      have l2 := heap_cell hcZ.out 2
      have g0 := heap_frozen hcZ.out 0
      have g1 := heap_frozen hcZ.out 1
      simp only [List.getElem?_toArray, List.getElem?_cons_zero, List.getElem?_cons_succ] at l0 l1 l2
      go_upto_region 13 with fail
      have hcY : ((Z.setCell ⟨G.heap.size, 0, none⟩ (.int .i64 (-a0))).setCell ⟨G.heap.size, 1, none⟩ (.int .i64 (-a1))).heap[G.heap.size]? = some (curC (-a0, -a1, d)) := by
        have := heap_setCell (heap_setCell hcZ.out 0 (.int .i64 (-a0))) 1 (.int .i64 (-a1))
        simpa [curC] using this
      have hY4 := Lib.hid (show ((Z.setCell ⟨G.heap.size, 0, none⟩ (.int .i64 (-a0))).setCell ⟨G.heap.size, 1, none⟩ (.int .i64 (-a1))).heap[w.heap.size + 4]? = some (curC (0, 0, 0)) from by
        rw [Below.heap_setCell _ _ _ _ (by simp only; omega), Below.heap_setCell _ _ _ _ (by simp only; omega)]; exact hZ4.out)
      have hY5 := Lib.hid (show ((Z.setCell ⟨G.heap.size, 0, none⟩ (.int .i64 (-a0))).setCell ⟨G.heap.size, 1, none⟩ (.int .i64 (-a1))).heap[w.heap.size + 5]? = some (.cells #[.bool false] 4) from by
        rw [Below.heap_setCell _ _ _ _ (by simp only; omega), Below.heap_setCell _ _ _ _ (by simp only; omega)]; exact hZ5.out)
      have hEY := Lib.hid (show ((Z.setCell ⟨G.heap.size, 0, none⟩ (.int .i64 (-a0))).setCell ⟨G.heap.size, 1, none⟩ (.int .i64 (-a1))).heap[V.heap.size]? = some (.deferred (some [])) from by
        rw [Below.heap_setCell _ _ _ _ (by simp only; omega), Below.heap_setCell _ _ _ _ (by simp only; omega)]; exact hEZ.out)
      have hbwY := (hbw.setCell (p := ⟨G.heap.size, 0, none⟩) (by simp only; omega) (.int .i64 (-a0))).setCell (p := ⟨G.heap.size, 1, none⟩) (by simp only; omega) (.int .i64 (-a1))
      clear l0 l1 l2 g0 g1 hcZ hZ4 hZ5 hEZ hbw
      generalize (Z.setCell ⟨G.heap.size, 0, none⟩ (.int .i64 (-a0))).setCell ⟨G.heap.size, 1, none⟩ (.int .i64 (-a1)) = Y at *
      have l0 := heap_cell hcY 0
      have l1 := heap_cell hcY 1
      have l2 := heap_cell hcY 2
      simp only [List.getElem?_toArray, List.getElem?_cons_zero, List.getElem?_cons_succ] at l0 l1 l2
      have m0 := heap_cell hY4.out 0
      have m1 := heap_cell hY4.out 1
      have m2 := heap_cell hY4.out 2
      have mb := heap_cell hY5.out 0
      have f0 := heap_frozen hY4.out 0
      have f1 := heap_frozen hY4.out 1
      have f2 := heap_frozen hY4.out 2
      have fb := heap_frozen hY5.out 0
      simp only [List.getElem?_toArray, List.getElem?_cons_zero, List.getElem?_cons_succ] at m0 m1 m2 mb
      go_wp2
      have hF : (((((Y).setCell ⟨w.heap.size + 1 + 1 + 1 + 1, 0, none⟩ (.int .i64 (-a0))).setCell ⟨w.heap.size + 1 + 1 + 1 + 1, 1, none⟩ (.int .i64 (-a1))).setCell ⟨w.heap.size + 1 + 1 + 1 + 1, 2, none⟩ (.int .i64 d)).setCell ⟨w.heap.size + 1 + 1 + 1 + 1 + 1, 0, none⟩ (.bool true)).heap[V.heap.size]? = some (.deferred (some [])) := by
        rw [Below.heap_setCell _ _ _ _ (by simp only; omega), Below.heap_setCell _ _ _ _ (by simp only; omega), Below.heap_setCell _ _ _ _ (by simp only; omega), Below.heap_setCell _ _ _ _ (by simp only; omega)]
        exact hEY.out
      have hF4 : (((((Y).setCell ⟨w.heap.size + 1 + 1 + 1 + 1, 0, none⟩ (.int .i64 (-a0))).setCell ⟨w.heap.size + 1 + 1 + 1 + 1, 1, none⟩ (.int .i64 (-a1))).setCell ⟨w.heap.size + 1 + 1 + 1 + 1, 2, none⟩ (.int .i64 d)).setCell ⟨w.heap.size + 1 + 1 + 1 + 1 + 1, 0, none⟩ (.bool true)).heap[w.heap.size + 4]? = some (curC (-a0, -a1, d)) := by
        rw [Below.heap_setCell _ _ _ _ (by simp)]
        exact store3 (c := (0, 0, 0)) hY4.out _ _ _
      have hF5 : (((((Y).setCell ⟨w.heap.size + 1 + 1 + 1 + 1, 0, none⟩ (.int .i64 (-a0))).setCell ⟨w.heap.size + 1 + 1 + 1 + 1, 1, none⟩ (.int .i64 (-a1))).setCell ⟨w.heap.size + 1 + 1 + 1 + 1, 2, none⟩ (.int .i64 d)).setCell ⟨w.heap.size + 1 + 1 + 1 + 1 + 1, 0, none⟩ (.bool true)).heap[w.heap.size + 5]? = some (.cells #[.bool true] 4) := by
        refine (heap_setCell (cs := #[.bool false]) (t := 4) ?_ 0 (.bool true)).trans (by simp)
        rw [Below.heap_setCell _ _ _ _ (by simp), Below.heap_setCell _ _ _ _ (by simp), Below.heap_setCell _ _ _ _ (by simp)]
        exact hY5.out
      have hFB := (((hbwY.setCell (p := ⟨w.heap.size + 1 + 1 + 1 + 1, 0, none⟩) (by first | (simp; done) | (simp; omega) | omega) (.int .i64 (-a0))).setCell (p := ⟨w.heap.size + 1 + 1 + 1 + 1, 1, none⟩) (by first | (simp; done) | (simp; omega) | omega) (.int .i64 (-a1))).setCell (p := ⟨w.heap.size + 1 + 1 + 1 + 1, 2, none⟩) (by first | (simp; done) | (simp; omega) | omega) (.int .i64 d)).setCell (p := ⟨w.heap.size + 1 + 1 + 1 + 1 + 1, 0, none⟩) (by first | (simp; done) | (simp; omega) | omega) (.bool true)
      generalize ((((Y).setCell ⟨w.heap.size + 1 + 1 + 1 + 1, 0, none⟩ (.int .i64 (-a0))).setCell ⟨w.heap.size + 1 + 1 + 1 + 1, 1, none⟩ (.int .i64 (-a1))).setCell ⟨w.heap.size + 1 + 1 + 1 + 1, 2, none⟩ (.int .i64 d)).setCell ⟨w.heap.size + 1 + 1 + 1 + 1 + 1, 0, none⟩ (.bool true) = F at *
      refine ⟨by simp, .inl ⟨_, _, rfl, run_takeDeferred hF, ?_⟩⟩
      have c4 := (World.putObj_heap_other (w := F) (r := V.heap.size) (o := .deferred none) (show w.heap.size + 4 ≠ V.heap.size by omega)).trans hF4
      have c5 := (World.putObj_heap_other (w := F) (r := V.heap.size) (o := .deferred none) (show w.heap.size + 5 ≠ V.heap.size by omega)).trans hF5
      have j0 := heap_cell c4 0
      have j1 := heap_cell c4 1
      have j2 := heap_cell c4 2
      have jb := heap_cell c5 0
      simp only [List.getElem?_toArray, List.getElem?_cons_zero, List.getElem?_cons_succ] at j0 j1 j2 jb
      refine ⟨.tuple #[.agg #[.int .i64 (-a0), .int .i64 (-a1), .int .i64 d], .bool true], ?_, .inr ⟨hnA'.out.1, ?_⟩, ?_⟩
      · simp [results, Try.f18, go_sem, j0, j1, j2, jb]
      · rw [hnA'.out.2.1, if_pos hdt'.out, ← hnA'.out.2.2]
      · exact hFB.grown (grownBy_putObj' F _ _) hFB.size fun r e => by cases e; omega
    · have hdt' := Lib.hid hdt
      go_upto_region 13 with fail
      have hY4 := hX4q
      have hY5 := hX5q
      have hEY := hEq
      have hbwY := hbw
      clear hX4q hX5q hEq hbw
      have m0 := heap_cell hY4.out 0
      have m1 := heap_cell hY4.out 1
      have m2 := heap_cell hY4.out 2
      have mb := heap_cell hY5.out 0
      have f0 := heap_frozen hY4.out 0
      have f1 := heap_frozen hY4.out 1
      have f2 := heap_frozen hY4.out 2
      have fb := heap_frozen hY5.out 0
      simp only [List.getElem?_toArray, List.getElem?_cons_zero, List.getElem?_cons_succ] at m0 m1 m2 mb
      go_wp2
      have hF : (((((wq).setCell ⟨w.heap.size + 1 + 1 + 1 + 1, 0, none⟩ (.int .i64 (a0))).setCell ⟨w.heap.size + 1 + 1 + 1 + 1, 1, none⟩ (.int .i64 (a1))).setCell ⟨w.heap.size + 1 + 1 + 1 + 1, 2, none⟩ (.int .i64 d)).setCell ⟨w.heap.size + 1 + 1 + 1 + 1 + 1, 0, none⟩ (.bool true)).heap[V.heap.size]? = some (.deferred (some [])) := by
        rw [Below.heap_setCell _ _ _ _ (by simp only; omega), Below.heap_setCell _ _ _ _ (by simp only; omega), Below.heap_setCell _ _ _ _ (by simp only; omega), Below.heap_setCell _ _ _ _ (by simp only; omega)]
        exact hEY.out
      have hF4 : (((((wq).setCell ⟨w.heap.size + 1 + 1 + 1 + 1, 0, none⟩ (.int .i64 (a0))).setCell ⟨w.heap.size + 1 + 1 + 1 + 1, 1, none⟩ (.int .i64 (a1))).setCell ⟨w.heap.size + 1 + 1 + 1 + 1, 2, none⟩ (.int .i64 d)).setCell ⟨w.heap.size + 1 + 1 + 1 + 1 + 1, 0, none⟩ (.bool true)).heap[w.heap.size + 4]? = some (curC (a0, a1, d)) := by
        rw [Below.heap_setCell _ _ _ _ (by simp)]
        exact store3 (c := (0, 0, 0)) hY4.out _ _ _
      have hF5 : (((((wq).setCell ⟨w.heap.size + 1 + 1 + 1 + 1, 0, none⟩ (.int .i64 (a0))).setCell ⟨w.heap.size + 1 + 1 + 1 + 1, 1, none⟩ (.int .i64 (a1))).setCell ⟨w.heap.size + 1 + 1 + 1 + 1, 2, none⟩ (.int .i64 d)).setCell ⟨w.heap.size + 1 + 1 + 1 + 1 + 1, 0, none⟩ (.bool true)).heap[w.heap.size + 5]? = some (.cells #[.bool true] 4) := by
        refine (heap_setCell (cs := #[.bool false]) (t := 4) ?_ 0 (.bool true)).trans (by simp)
        rw [Below.heap_setCell _ _ _ _ (by simp), Below.heap_setCell _ _ _ _ (by simp), Below.heap_setCell _ _ _ _ (by simp)]
        exact hY5.out
      have hFB := (((hbwY.setCell (p := ⟨w.heap.size + 1 + 1 + 1 + 1, 0, none⟩) (by first | (simp; done) | (simp; omega) | omega) (.int .i64 (a0))).setCell (p := ⟨w.heap.size + 1 + 1 + 1 + 1, 1, none⟩) (by first | (simp; done) | (simp; omega) | omega) (.int .i64 (a1))).setCell (p := ⟨w.heap.size + 1 + 1 + 1 + 1, 2, none⟩) (by first | (simp; done) | (simp; omega) | omega) (.int .i64 d)).setCell (p := ⟨w.heap.size + 1 + 1 + 1 + 1 + 1, 0, none⟩) (by first | (simp; done) | (simp; omega) | omega) (.bool true)
      generalize ((((wq).setCell ⟨w.heap.size + 1 + 1 + 1 + 1, 0, none⟩ (.int .i64 (a0))).setCell ⟨w.heap.size + 1 + 1 + 1 + 1, 1, none⟩ (.int .i64 (a1))).setCell ⟨w.heap.size + 1 + 1 + 1 + 1, 2, none⟩ (.int .i64 d)).setCell ⟨w.heap.size + 1 + 1 + 1 + 1 + 1, 0, none⟩ (.bool true) = F at *
      refine ⟨by simp, .inl ⟨_, _, rfl, run_takeDeferred hF, ?_⟩⟩
      have c4 := (World.putObj_heap_other (w := F) (r := V.heap.size) (o := .deferred none) (show w.heap.size + 4 ≠ V.heap.size by omega)).trans hF4
      have c5 := (World.putObj_heap_other (w := F) (r := V.heap.size) (o := .deferred none) (show w.heap.size + 5 ≠ V.heap.size by omega)).trans hF5
      have j0 := heap_cell c4 0
      have j1 := heap_cell c4 1
      have j2 := heap_cell c4 2
      have jb := heap_cell c5 0
      simp only [List.getElem?_toArray, List.getElem?_cons_zero, List.getElem?_cons_succ] at j0 j1 j2 jb
      refine ⟨.tuple #[.agg #[.int .i64 (a0), .int .i64 (a1), .int .i64 d], .bool true], ?_, .inr ⟨hnA'.out.1, ?_⟩, ?_⟩
      · simp [results, Try.f18, go_sem, j0, j1, j2, jb]
      · rw [hnA'.out.2.1, if_neg (Int.not_lt.mpr hdt'.out), ← hnA'.out.2.2]
      · exact hFB.grown (grownBy_putObj' F _ _) hFB.size fun r e => by cases e; omega
  case stop =>
    rintro E k X rfl hk ⟨hd, h4, h5, hb⟩ hE
    have hA : Apart s t (p0, p1) (q0, q1) := ⟨k, hk, by rw [← hDN.out.1]; exact hd⟩
    have hA' := Lib.hid hA
    have hX4 := Lib.hid h4
    have hX5 := Lib.hid h5
    clear hA hd h4 h5
    gi_wp2
    refine ⟨by simp, .inl ⟨_, _, rfl, run_takeDeferred hE, ?_⟩⟩
    have c4 := (World.putObj_heap_other (w := X) (r := V.heap.size) (o := .deferred none) (show w.heap.size + 4 ≠ V.heap.size by omega)).trans hX4.out
    have c5 := (World.putObj_heap_other (w := X) (r := V.heap.size) (o := .deferred none) (show w.heap.size + 5 ≠ V.heap.size by omega)).trans hX5.out
    have m0 := heap_cell c4 0
    have m1 := heap_cell c4 1
    have m2 := heap_cell c4 2
    have mb := heap_cell c5 0
    simp only [List.getElem?_toArray, List.getElem?_cons_zero, List.getElem?_cons_succ] at m0 m1 m2 mb
    refine ⟨.tuple #[.agg #[.int .i64 0, .int .i64 0, .int .i64 0], .bool false], ?_, .inl ⟨hA'.out, rfl⟩, ?_⟩
    · simp [results, Try.f18, go_sem, m0, m1, m2, mb]
    · exact hb.grown (grownBy_putObj' X _ _) hb.size fun r e => by cases e; omega

theorem collide_any (s t : Sp) (p0 p1 q0 q1 : Int) (w : World) (hs : Sh w s) (ht : Sh w t) (hp0 : Be p0) (hp1 : Be p1) (hq0 : Be q0) (hq1 : Be q1) :
    Calls Try.prog 18 #[.agg #[.int .i64 s.r, .slice s.a s.n s.cap], .agg #[.int .i64 p0, .int .i64 p1], .agg #[.int .i64 t.r, .slice t.a t.n t.cap], .agg #[.int .i64 q0, .int .i64 q1]] w fun e w' =>
      ((¬ Hit s t (p0, p1) (q0, q1) ∧ e = .returned (.tuple #[.agg #[.int .i64 0, .int .i64 0, .int .i64 0], .bool false])) ∨
       (Hit s t (p0, p1) (q0, q1) ∧ e = .returned (.tuple #[.agg #[.int .i64 (hitN s t (p0, p1) (q0, q1)).1, .int .i64 (hitN s t (p0, p1) (q0, q1)).2, .int .i64 (hitD s t (p0, p1) (q0, q1))], .bool true]))) ∧ Below w.heap.size w w' := by
  by_cases ho : Bo.Ov (bxS s (p0, p1)) (bxS t (q0, q1))
  · refine (collideB_any s t p0 p1 q0 q1 w hs ht hp0 hp1 hq0 hq1 ho).mono ?_
    rintro e w' ⟨⟨ha, he⟩ | ⟨ha, he⟩, hb⟩
    · exact ⟨.inl ⟨fun h => h.2 ha, he⟩, hb⟩
    · exact ⟨.inr ⟨⟨ho, ha⟩, he⟩, hb⟩
  · refine (collideA_any s t p0 p1 q0 q1 w hs ht hp0 hp1 hq0 hq1 ho).mono ?_
    rintro e w' ⟨he, hb⟩
    exact ⟨.inl ⟨fun h => ho h.1, he⟩, hb⟩
end Go.Proofs.Ytfbgghkkgmgnjaa
