/- Package collide: the iterator over the axes. -/
import Derived.Test.YtfbgghkkgmgnjaaCollD
namespace Go.Proofs.Ytfbgghkkgmgnjaa
open Go.ChangeShapes Go.WideShapes Go.ChangeAt Go.RowKit Go.Shelf
open Fxm
set_option linter.unusedSimpArgs false
set_option linter.unusedVariables false
attribute [local go_sem] Oper.semAt_some

theorem edgeD_bd {vs : List (Int × Int)} (h : Small vs) (hl : 0 < vs.length) {k : Nat} (hk : k < vs.length) : Bd (edgeD vs k).1 ∧ Bd (edgeD vs k).2 := by
  have h1 := h k hk
  have h2 := h ((k + 1) % vs.length) (Nat.mod_lt _ hl)
  unfold edgeD Bd
  simp only
  omega
theorem corner_bd {vs : List (Int × Int)} (h : Gen vs) {q c : Int × Int} (q0 : Be q.1) (q1 : Be q.2) (c0 : Be c.1) (c1 : Be c.2) : Bd (corner vs q c).1 ∧ Bd (corner vs q c).2 := by
  have hlo := h.lo
  have hj : nearI vs q c < vs.length := by unfold nearI; exact Nat.lt_of_le_of_lt (bst_le _ _) (by omega)
  have h1 := h.small _ hj
  unfold corner Bd
  unfold Be at *
  simp only
  omega
theorem dirV_bd {w : World} {s t : Sp} (hs : Sh w s) (ht : Sh w t) {p q : Int × Int} (hp0 : Be p.1) (hp1 : Be p.2) (hq0 : Be q.1) (hq1 : Be q.2) (k : Nat) : Bd (dirV s t p q k).1 ∧ Bd (dirV s t p q k).2 := by
  unfold dirV
  split
  · rename_i hk
    cases s with
    | c r => exact absurd hk (Nat.not_lt_zero _)
    | p g cap vs => exact edgeD_bd hs.2.small (by have := hs.2.lo; omega) hk
  · split
    · rename_i h1 hk
      cases t with
      | c r => exact absurd hk (by show ¬ k < s.n + 0; omega)
      | p g cap vs => exact edgeD_bd ht.2.small (by have := ht.2.lo; omega) (by have : k < s.n + vs.length := hk; show k - s.n < vs.length; omega)
    · cases s with
      | c r =>
        cases t with
        | c r' => unfold Be at *; exact ⟨by show Bd (q.1 - p.1); unfold Bd; omega, by show Bd (q.2 - p.2); unfold Bd; omega⟩
        | p g cap vs => exact corner_bd ht.2 hq0 hq1 hp0 hp1
      | p g cap vs =>
        cases t with
        | c r' => exact corner_bd hs.2 hp0 hp1 hq0 hq1
        | p g' cap' vs' => exact ⟨bd_zero, bd_zero⟩

/-- Two closures that box a and b with their positions. -/
def fourBox (w : World) (s t : Sp) (p0 p1 q0 q1 : Int) : World :=
  (((w.alloc (.cells #[.int .i64 s.r, .slice s.a s.n s.cap] 25)).alloc (.cells #[.int .i64 p0, .int .i64 p1] 28)).alloc (.cells #[.int .i64 t.r, .slice t.a t.n t.cap] 25)).alloc (.cells #[.int .i64 q0, .int .i64 q1] 28)
theorem fourBox_size (w : World) (s t : Sp) (p0 p1 q0 q1 : Int) : (fourBox w s t p0 p1 q0 q1).heap.size = w.heap.size + 4 := by unfold fourBox; simp
theorem fourBox_below (w : World) (s t : Sp) (p0 p1 q0 q1 : Int) : Below w.heap.size w (fourBox w s t p0 p1 q0 q1) :=
  below_step (below_step (below_step (alloc_below _ _) (alloc_below _ _)) (alloc_below _ _)) (alloc_below _ _)
structure Boxes4 (w : World) (b : Nat) (s t : Sp) (p0 p1 q0 q1 : Int) : Prop where
  a0 : w.cell? ⟨b, 0, none⟩ = some (.int .i64 s.r)
  a1 : w.cell? ⟨b, 1, none⟩ = some (.slice s.a s.n s.cap)
  p0 : w.cell? ⟨b + 1, 0, none⟩ = some (.int .i64 p0)
  p1 : w.cell? ⟨b + 1, 1, none⟩ = some (.int .i64 p1)
  b0 : w.cell? ⟨b + 2, 0, none⟩ = some (.int .i64 t.r)
  b1 : w.cell? ⟨b + 2, 1, none⟩ = some (.slice t.a t.n t.cap)
  q0 : w.cell? ⟨b + 3, 0, none⟩ = some (.int .i64 q0)
  q1 : w.cell? ⟨b + 3, 1, none⟩ = some (.int .i64 q1)
theorem fourBox_boxes (w : World) (s t : Sp) (p0 p1 q0 q1 : Int) : Boxes4 (fourBox w s t p0 p1 q0 q1) w.heap.size s t p0 p1 q0 q1 :=
  ⟨by simp [fourBox, go_sem], by simp [fourBox, go_sem], by simp [fourBox, go_sem], by simp [fourBox, go_sem], by simp [fourBox, go_sem], by simp [fourBox, go_sem], by simp [fourBox, go_sem], by simp [fourBox, go_sem]⟩
theorem Boxes4.carry {w w' : World} {b : Nat} {s t : Sp} {p0 p1 q0 q1 : Int} (h : Boxes4 w b s t p0 p1 q0 q1) (hb : Below w.heap.size w w') : Boxes4 w' b s t p0 p1 q0 q1 :=
  ⟨Proofs.Ytfbgghkkgmgnjaa.carry hb h.a0, Proofs.Ytfbgghkkgmgnjaa.carry hb h.a1, Proofs.Ytfbgghkkgmgnjaa.carry hb h.p0, Proofs.Ytfbgghkkgmgnjaa.carry hb h.p1, Proofs.Ytfbgghkkgmgnjaa.carry hb h.b0, Proofs.Ytfbgghkkgmgnjaa.carry hb h.b1, Proofs.Ytfbgghkkgmgnjaa.carry hb h.q0, Proofs.Ytfbgghkkgmgnjaa.carry hb h.q1⟩

theorem directions_any (s t : Sp) (p0 p1 q0 q1 : Int) (w : World) : Calls Try.prog 71 #[.agg #[.int .i64 s.r, .slice s.a s.n s.cap], .agg #[.int .i64 p0, .int .i64 p1], .agg #[.int .i64 t.r, .slice t.a t.n t.cap], .agg #[.int .i64 q0, .int .i64 q1]] w fun e w' =>
    e = .returned (.func (.func 82) #[] #[.pointer (some ⟨w.heap.size, 0, none⟩), .pointer (some ⟨w.heap.size + 2, 0, none⟩), .pointer (some ⟨w.heap.size + 3, 0, none⟩), .pointer (some ⟨w.heap.size + 1, 0, none⟩)]) ∧ w' = fourBox w s t p0 p1 q0 q1 := by
  go_enter Try.func71, Try.ntmps71
  go_wp2
  go_ret
  exact ⟨rfl, rfl⟩
theorem axes_any (s t : Sp) (p0 p1 q0 q1 : Int) (w : World) : Calls Try.prog 40 #[.agg #[.int .i64 s.r, .slice s.a s.n s.cap], .agg #[.int .i64 p0, .int .i64 p1], .agg #[.int .i64 t.r, .slice t.a t.n t.cap], .agg #[.int .i64 q0, .int .i64 q1]] w fun e w' =>
    e = .returned (.func (.func 70) #[] #[.pointer (some ⟨w.heap.size, 0, none⟩), .pointer (some ⟨w.heap.size + 1, 0, none⟩), .pointer (some ⟨w.heap.size + 2, 0, none⟩), .pointer (some ⟨w.heap.size + 3, 0, none⟩)]) ∧ w' = fourBox w s t p0 p1 q0 q1 := by
  go_enter Try.func40, Try.ntmps40
  go_wp2
  go_ret
  exact ⟨rfl, rfl⟩

theorem two_ways {A X Y : Prop} {e : Ending} (h : A ∧ ((e = .returned (.bool true) ∧ X) ∨ (e = .returned (.bool false) ∧ Y))) : ∃ bb : Bool, e = .returned (.bool bb) ∧ A ∧ ((bb = true ∧ X) ∨ (bb = false ∧ Y)) := by
  obtain ⟨h, ⟨e, h1⟩ | ⟨e, h1⟩⟩ := h
  · exact ⟨true, e, h, .inl ⟨rfl, h1⟩⟩
  · exact ⟨false, e, h, .inr ⟨rfl, h1⟩⟩

/-- The k-th axis, as it is handed over. -/
def axE (s t : Sp) (p q : Int × Int) (k : Nat) : Array Value := #[.agg #[.int .i64 (axV (dirV s t p q k)).1, .int .i64 (axV (dirV s t p q k)).2]]

set_option maxHeartbeats 4000000 in
set_option maxRecDepth 100000 in
theorem axes_gives (s t : Sp) (p0 p1 q0 q1 : Int) (b : Nat) (S : Nat → Prop) (w : World) (hs : Sh w s) (ht : Sh w t) (hsS : s.on S) (htS : t.on S) (hS : ∀ r, S r → r < w.heap.size) (hX : Boxes4 w b s t p0 p1 q0 q1)
    (hp0 : Be p0) (hp1 : Be p1) (hq0 : Be q0) (hq1 : Be q1) :
    Gives Try.prog 70 #[.pointer (some ⟨b, 0, none⟩), .pointer (some ⟨b + 1, 0, none⟩), .pointer (some ⟨b + 2, 0, none⟩), .pointer (some ⟨b + 3, 0, none⟩)] (axE s t (p0, p1) (q0, q1)) (ndir s t) 8 S w := by
  intro l J Jx W hW hJ hJx hY h0
  have hsW := Lib.hid (hs.carry hW)
  have htW := Lib.hid (ht.carry hW)
  obtain ⟨cA0, cA1, cP0, cP1, cB0, cB1, cQ0, cQ1⟩ := hX.carry hW
  have hSW := Lib.hid fun r h => Nat.lt_of_lt_of_le (hS r h) hW.size
  have n0 := block_lt_of_cell cA0
  have n1 := block_lt_of_cell cP0
  have n2 := block_lt_of_cell cB0
  have n3 := block_lt_of_cell cQ0
  simp only at n0 n1 n2 n3
  clear hs ht hX hS hW
  refine (callsIn_wide (n := 9)).1 (callsIn_of_wp_marks Try.func70 rfl trivial (wpIn_wide.2 ?_) rfl)
  simp only [Try.ntmps70, List.size_toArray, List.length_cons, List.length_nil, Nat.reduceAdd, Nat.reduceSub, Array.replicate_succ, Array.replicate_zero, List.push_toArray, List.append_toArray, List.nil_append, List.cons_append]
  go_wp2_with fail
  refine (directions_any s t p0 p1 q0 q1 _).mono ?_
  rintro e V ⟨rfl, hV⟩
  obtain ⟨U, hU⟩ : ∃ U, U = W.alloc (.cells #[.func (.yield l) #[] #[]] 90) := ⟨_, rfl⟩
  have hbU : Below W.heap.size W U := by rw [hU]; exact alloc_below _ _
  have hzU : U.heap.size = W.heap.size + 1 := by rw [hU]; simp
  have yU : U.cell? ⟨W.heap.size, 0, none⟩ = some (.func (.yield l) #[] #[]) := by rw [hU]; simp [go_sem]
  rw [← hU] at hV ⊢
  clear hU
  have hX := fourBox_boxes U s t p0 p1 q0 q1
  have hbV := fourBox_below U s t p0 p1 q0 q1
  have hzV := fourBox_size U s t p0 p1 q0 q1
  rw [← hV] at hX hbV hzV
  clear hV
  have yV := carry hbV yU
  have hBV := below_step hbU hbV
  have hsV := hsW.out.carry hBV
  have htV := htW.out.carry hBV
  go_wp2_with fail
  rw [hzU] at hX hzV
  obtain ⟨xA0, xA1, xP0, xP1, xB0, xB1, xQ0, xQ1⟩ := hX
  have hm5 : ∀ r, S r → (S r ∨ (W.heap.size ≤ r ∧ r < W.heap.size + 5)) := fun r h => .inl h
  have hbd := Lib.hid fun k => dirV_bd hsV htV (p := (p0, p1)) (q := (q0, q1)) hp0 hp1 hq0 hq1 k
  refine (wpIn_wide (n := 9)).1 ?_
  refine range_gives (w0 := V) (c := 1) (N := ndir s t) (S := fun r => S r ∨ (W.heap.size ≤ r ∧ r < W.heap.size + 5)) rfl (enters_of Try.func82 (by kernel_rfl) rfl)
    (dirs_gives s t p0 p1 q0 q1 (W.heap.size + 1) (W.heap.size + 1 + 2) (W.heap.size + 1 + 3) (W.heap.size + 1 + 1) _ V hsV htV (hsS.mono hm5) (htS.mono hm5) (.inr (by omega)) (.inr (by omega)) (.inr (by omega)) (.inr (by omega)) xA0 xA1 xB0 xB1 xQ0 xQ1 xP0 xP1 hp0 hp1 hq0 hq1)
    (Below.refl _ _) ?hS (fun _ => rfl) (fun k X => J k X ∧ X.cell? ⟨W.heap.size, 0, none⟩ = some (.func (.yield l) #[] #[])) (fun k X => Jx k X) ?hI ?hIx ⟨hJ.below h0 hBV, yV⟩ ?round ?done ?stop
  case hS => rintro r (h | h)
             · have := hSW.out r h; omega
             · omega
  case hI => exact Steady.and (hJ.mono fun r h => by omega) (steady_cell (by simp only; omega))
  case hIx => exact hJx.mono fun r h => by omega
  case round =>
    rintro l1 k X hk hsz ⟨hj, hy0⟩
    have hb := hbd.out k
    have K := fun w => unit_any (dirV s t (p0, p1) (q0, q1) k).1 (dirV s t (p0, p1) (q0, q1) k).2 w hb.1 hb.2
    rw [show ((dirV s t (p0, p1) (q0, q1) k).1, (dirV s t (p0, p1) (q0, q1) k).2) = dirV s t (p0, p1) (q0, q1) k from rfl] at K
    have hY' : ∀ W1 : World, W.heap.size + 8 ≤ W1.heap.size → J k W1 → YieldAt Fence.wide 7 Try.prog l #[.agg #[.int .i64 (axV (dirV s t (p0, p1) (q0, q1) k)).1, .int .i64 (axV (dirV s t (p0, p1) (q0, q1) k)).2]] W1 fun e W' =>
      KeepOn (fun r => S r ∨ (W.heap.size ≤ r ∧ r < W.heap.size + 8)) W1 W' ∧ ((e = .returned (.bool true) ∧ J (k + 1) W') ∨ (e = .returned (.bool false) ∧ Jx k W')) := fun W1 h1 h2 => hY k W1 hk h1 h2
    simp only
    generalize (axV (dirV s t (p0, p1) (q0, q1) k)).1 = a0 at *
    generalize (axV (dirV s t (p0, p1) (q0, q1) k)).2 = a1 at *
    generalize (dirV s t (p0, p1) (q0, q1) k).1 = x0 at *
    generalize (dirV s t (p0, p1) (q0, q1) k).2 = x1 at *
    have hy1 := block_lt_of_cell hy0
    simp only at hy1
    have hF := Lib.hid (And.intro K hY')
    clear K hY' hY xA0 xA1 xP0 xP1 xB0 xB1 xQ0 xQ1 cA0 cA1 cB0 cB1 cP0 cP1 cQ0 cQ1 yV yU
    gi_wp2
    refine ⟨KeepOn.below (alloc_below _ _), fun Y hT => ?_⟩
    have hz : X.heap.size + 1 ≤ Y.heap.size := by have := hT.size; simpa using this
    have c0 : Y.cell? ⟨X.heap.size, 0, none⟩ = some (.int .i64 x0) := hT.cell (by simp [go_sem]) (by simp only; omega)
    have c1 : Y.cell? ⟨X.heap.size, 1, none⟩ = some (.int .i64 x1) := hT.cell (by simp [go_sem]) (by simp only; omega)
    have cy : Y.cell? ⟨W.heap.size, 0, none⟩ = some (.func (.yield l) #[] #[]) := hT.cell (carry (alloc_below _ _) hy0) (by simp only; omega)
    have hjY := Lib.hid (hT.steady (J := J) (hJ.mono fun r h => by omega) (hJ.below hj (alloc_below _ _)))
    gi_wp2
    have hsub : ∀ r, ((S r ∨ (W.heap.size ≤ r ∧ r < W.heap.size + 5)) ∨ (V.heap.size ≤ r ∧ r < V.heap.size + 2 + 1)) → (S r ∨ (W.heap.size ≤ r ∧ r < W.heap.size + 8)) := fun r h => by
      rcases h with (h | h) | h
      · exact .inl h
      · exact .inr (by omega)
      · exact .inr (by omega)
    have hm : Try.prog.follows .mixedOrders = true := by kernel_rfl
    gi_region_with_o (first | (refine ⟨trivial, ?_⟩; gi_at_call 72; refine (CallsIn.inRound l1 (callsIn_wide.2 (hF.out.1 _))).mono ?_; rintro e w1 ⟨rfl, hb1⟩; have hbY : Below Y.heap.size Y w1 := ((Below.refl _ Y).drew).trans hb1; replace cy := carry hbY cy; obtain ⟨fn, tmps, assign, body, hy, hR⟩ := hF.out.2 w1 (by have := hbY.size; omega) (hJ.below hjY.out hbY)) | (refine (RoundIn.inner l1 (hR.mono fun _ _ h => two_ways h)).mono ?_; rintro e w3 ⟨bb, rfl, hk3, h3⟩))
    all_goals
      have hk4 : KeepOn (fun r => S r ∨ (W.heap.size ≤ r ∧ r < W.heap.size + 8)) Y w3 := (KeepOn.below hbY).trans hk3
      have hk5 := hk4.mono hsub
      have cy3 := hk3.cell cy (.inr (by simp only; omega))
      rcases h3 with ⟨rfl, hJ3⟩ | ⟨rfl, hJ3⟩
      · gi_wp2
        exact ⟨hk5, hJ3, cy3⟩
      · gi_wp2
        exact ⟨hk5, hJ3⟩
  case done =>
    rintro D X rfl ⟨hj, _⟩ hD
    go_wp2
    refine ⟨by simp, .inl ⟨_, _, rfl, run_takeDeferred hD, ?_⟩⟩
    exact ⟨_, results_none rfl _ _ _, ⟨_, rfl⟩, .inl (hJ _ _ _ _ hj (grownBy_putObj' X _ _) (fun r e => by cases e; omega))⟩
  case stop =>
    rintro D k X rfl hk hj hD
    gi_wp2
    refine ⟨by simp, .inl ⟨_, _, rfl, run_takeDeferred hD, ?_⟩⟩
    exact ⟨_, results_none rfl _ _ _, ⟨_, rfl⟩, .inr ⟨k, hk, hJx _ _ _ _ hj (grownBy_putObj' X _ _) (fun r e => by cases e; omega)⟩⟩
end Go.Proofs.Ytfbgghkkgmgnjaa
