/- The reference's generators of boxes; the law's helpers on single boxes. -/
import Derived.Test.YtbgafimiodfkaaaBroadG
import Derived.Test.YtbgafimiodfkaaaFixed
import Derived.Test.YtbgafimiodfkaaaOpen
namespace Go.Proofs.Ytbgafimiodfkaaa
open Go.ChangeShapes Go.WideShapes Go.ChangeAt Go.RowKit
open Bo
open Fxm
set_option linter.unusedSimpArgs false
set_option linter.unusedVariables false

theorem i64_bd {n : Int} (h : (Lit.int .i64 n).wf = true) : -9223372036854775808 ≤ n ∧ n ≤ 9223372036854775807 := by
  have h1 : IntKind.i64.min = -9223372036854775808 := rfl
  have h2 : IntKind.i64.max = 9223372036854775807 := rfl
  simp only [Lit.wf, Bool.and_eq_true, decide_eq_true_eq] at h
  omega
/-- Coordinates of at most m. -/
def Within (m : Int) (b : Bx) : Prop := (-m ≤ b.x0 ∧ b.x0 ≤ m) ∧ (-m ≤ b.y0 ∧ b.y0 ≤ m) ∧ (-m ≤ b.x1 ∧ b.x1 ≤ m) ∧ (-m ≤ b.y1 ∧ b.y1 ≤ m)
def BoxPost (e : Ending) : Prop := ∃ b : Bx, e = .returned (.agg #[.int .i64 b.x0, .int .i64 b.y0, .int .i64 b.x1, .int .i64 b.y1]) ∧ Proper b ∧ Within 1099511627776 b
set_option maxHeartbeats 4000000 in
theorem box_any (a0 a1 a2 a3 : Int) (w : World) (w0 : (Lit.int .i64 a0).wf = true) (w1 : (Lit.int .i64 a1).wf = true) (w2 : (Lit.int .i64 a2).wf = true) (w3 : (Lit.int .i64 a3).wf = true) :
    Calls Try.prog 10 #[.agg #[.int .i64 a0, .int .i64 a1, .int .i64 a2, .int .i64 a3]] w fun e w' => BoxPost e ∧ Below w.heap.size w w' := by
  obtain ⟨l0, u0⟩ := i64_bd w0
  obtain ⟨l1, u1⟩ := i64_bd w1
  obtain ⟨l2, u2⟩ := i64_bd w2
  obtain ⟨l3, u3⟩ := i64_bd w3
  clear w0 w1 w2 w3
  go_enter Try.func10, Try.ntmps10
  go_wp2_with fail
  refine (boundx_any _ _ _ l0 u0 (by omega) (by omega)).mono ?_
  rintro e w' ⟨⟨x0, p0, q0, rfl⟩, rfl⟩
  go_wp2_with fail
  refine (boundx_any _ _ _ l1 u1 (by omega) (by omega)).mono ?_
  rintro e w' ⟨⟨x1, p1, q1, rfl⟩, rfl⟩
  go_wp2_with fail
  refine (boundx_any _ _ _ l2 u2 (by omega) (by omega)).mono ?_
  rintro e w' ⟨⟨x2, p2, q2, rfl⟩, rfl⟩
  go_wp2_with fail
  refine (boundx_any _ _ _ l3 u3 (by omega) (by omega)).mono ?_
  rintro e w' ⟨⟨x3, p3, q3, rfl⟩, rfl⟩
  clear l0 u0 l1 u1 l2 u2 l3 u3
  go_wp2_with fail
  refine bodyPost_ret (v := .agg #[.int .i64 (min x0 x2), .int .i64 (min x1 x3), .int .i64 (max x0 x2), .int .i64 (max x1 x3)]) (by simp [results, Try.results10, go_sem]) rfl ⟨⟨⟨min x0 x2, min x1 x3, max x0 x2, max x1 x3⟩, rfl, ⟨by simp only; omega, by simp only; omega⟩, ⟨by simp only; omega, by simp only; omega, by simp only; omega, by simp only; omega⟩⟩, ?_⟩
  exact below_two _ _ _

/-- A box of the small grid. -/
def Grid (b : Bx) : Prop := (0 ≤ b.x0 ∧ b.x0 ≤ b.x1 ∧ b.x1 ≤ 26) ∧ (0 ≤ b.y0 ∧ b.y0 ≤ b.y1 ∧ b.y1 ≤ 26)
theorem Grid.proper {b : Bx} (h : Grid b) : Proper b := ⟨h.1.2.1, h.2.2.1⟩
def AllGrid (bs : List Bx) : Prop := ∀ i, i < bs.length → Grid (at' bs i)
theorem AllGrid.proper {bs : List Bx} (h : AllGrid bs) : AllProper bs := fun i hi => (h i hi).proper
theorem AllGrid.snoc {bs : List Bx} {b : Bx} (h : AllGrid bs) (hb : Grid b) : AllGrid (bs ++ [b]) := fun i hi => by
  rcases Nat.lt_or_ge i bs.length with h1 | h1
  · rw [at_append_left h1]; exact h i h1
  · have : i = bs.length := by simp at hi; omega
    subst this
    rw [at_append_here]; exact hb
theorem AllProper.snoc {bs : List Bx} {b : Bx} (h : AllProper bs) (hb : Proper b) : AllProper (bs ++ [b]) := fun i hi => by
  rcases Nat.lt_or_ge i bs.length with h1 | h1
  · rw [at_append_left h1]; exact h i h1
  · have : i = bs.length := by simp at hi; omega
    subst this
    rw [at_append_here]; exact hb
theorem flat_snoc_bx (l : List Bx) (b : Bx) : (l ++ [b]).flatMap Bx.cells = l.flatMap Bx.cells ++ [.int .i64 b.x0, .int .i64 b.y0, .int .i64 b.x1, .int .i64 b.y1] := by
  rw [List.flatMap_append, List.flatMap_singleton]; rfl
theorem four_one (x y z t : Int) : ∀ u ∈ [Value.int .i64 x, .int .i64 y, .int .i64 z, .int .i64 t], u.oneCell' = true := fun u hu => by
  simp only [List.mem_cons, List.not_mem_nil, or_false] at hu
  rcases hu with rfl | rfl | rfl | rfl <;> rfl
theorem infoBx : (Try.prog.info? 23).map (fun i => (i.zero, i.size, i.bytes)) = some (some (.agg #[.int .i64 0, .int .i64 0, .int .i64 0, .int .i64 0]), 4, 32) := by kernel_rfl
/-- A slice of boxes of the call's own. -/
def OwnsBoxes (w : World) (base : Nat) (v : Value) (bs : List Bx) : Prop := w.ownsRow base 23 4 v bs.length (bs.flatMap Bx.cells)
theorem OwnsBoxes.at {w : World} {base : Nat} {v : Value} {bs : List Bx} (h : OwnsBoxes w base v bs) : BoxesAt w v bs := by
  rcases owned_row h with ⟨rfl, rfl⟩ | ⟨g, cap, rfl, _, _, hR, _⟩
  · exact Or.inl ⟨rfl, none, 0, rfl⟩
  · exact Or.inr ⟨g, 0, cap, rfl, hR⟩
/-- What Boxes hands back: boxes of the grid, at most 20, no more than there are numbers. -/
def BoxesPost (l : Nat) (base : Nat) (e : Ending) (w' : World) : Prop := ∃ (v : Value) (bs : List Bx), e = .returned v ∧ bs.length ≤ 20 ∧ bs.length ≤ l ∧ AllGrid bs ∧ OwnsBoxes w' base v bs
set_option maxHeartbeats 4000000 in
theorem boxesN_any (g off cap l : Nat) (Z : Nat → Int) (w : World) (hl : l ≤ cap) (hm : cap ≤ maxLen) (hZ : ∀ i, (Lit.int .i64 (Z i)).wf = true) (hc : ∀ i, i < l * 1 → w.cell? ⟨g, off + i, none⟩ = some (.int .i64 (Z i))) :
    Calls Try.prog 14 #[.slice (some ⟨g, off, none⟩) l cap] w fun e w' => BoxesPost l w.heap.size e w' ∧ Below w.heap.size w w' := by
  obtain ⟨i0, hi0, hz0, hz1, hz2⟩ := info_parts infoBx
  have hi0' := Lib.hid hi0; clear hi0
  have hz0' := Lib.hid hz0; clear hz0
  have hz1' := Lib.hid hz1; clear hz1
  have hz2' := Lib.hid hz2; clear hz2
  unfold maxLen at hm
  have hZ' := Lib.hid hZ; clear hZ
  have hc' := Lib.hid hc; clear hc
  go_enter Try.func14, Try.ntmps14
  go_wp2_with fail
  go_loopw [3, 4] (fun v i wr => ∃ (k : Nat) (bs : List Bx), k ≤ l ∧ k ≤ 20 ∧ i = .int .i64 k ∧ bs.length = k ∧ AllGrid bs ∧ OwnsBoxes wr w.heap.size v bs ∧ Below w.heap.size w wr) (fun _ i _ => 20 - (intOf i).toNat)
  case atStart => exact ⟨0, [], Nat.zero_le _, by omega, rfl, rfl, fun i hi => by simp at hi, World.ownsRow_nil _ _ _ _, Below.refl _ _⟩
  case round =>
    obtain ⟨k, bs, hk, hk2, rfl, hbl, hgr, hown, hB⟩ := hrel
    have hws := hB.size
    have hgr' := Lib.hid hgr
    clear hgr
    have hbl' := Lib.hid hbl
    clear hbl
    by_cases hlt : k < l ∧ k < 20
    · obtain ⟨hlt, hlt2⟩ := hlt
      have c0 := carry hB (hc'.out k (by omega))
      obtain ⟨b1, b2⟩ := i64_bd (hZ'.out k)
      generalize Z k = z at *
      go_wp2_with fail
      refine (aroundx_any z 1000000 _ b1 b2 (by omega)).mono ?_
      rintro e w' ⟨⟨x, x1, x2, rfl⟩, rfl⟩
      clear c0 b1 b2
      obtain ⟨X, hX⟩ : ∃ X : Bx, X = ⟨x % 20, x / 20 % 20, x % 20 + x / 400 % 7, x / 20 % 20 + x / 2800 % 7⟩ := ⟨_, rfl⟩
      have hG : Grid X := by rw [hX]; exact ⟨⟨by simp only; omega, by simp only; omega, by simp only; omega⟩, by simp only; omega, by simp only; omega, by simp only; omega⟩
      have hX' := Lib.hid hX
      have hG' := Lib.hid hG
      clear hX hG
      have hlb : bs.length ≤ 20 := by rw [hbl'.out]; omega
      go_wp2_with (at_builtin; refine wpList_append_own _ rfl _ _ 27 rfl w.heap.size 23 i0 _ 4 32 Try.underlying27 hi0'.out hz0'.out hz1'.out hz2'.out rfl (by decide) _ _ _ rfl (World.ownsRow.alloc (World.ownsRow.alloc hown _) _) ⟨wr.heap.size + 1, 0, none⟩ 1 1 [.int .i64 (x % 20), .int .i64 (x / 20 % 20), .int .i64 (x % 20 + x / 400 % 7), .int .i64 (x / 20 % 20 + x / 2800 % 7)] rfl rfl (new_cells _ _ _ _ (by simp)) (four_one _ _ _ _) (by unfold maxLen; omega) (by omega) (by simp; omega) ?_; intro v' w2 hown2 hg2 _)
      have hB2 := (below_step (below_step hB (alloc_below wr _)) (alloc_below _ _)).grown hg2 (by simp; omega) (fun j hj => (World.ownsRow.lt hown j hj).1)
      go_wp2_with fail
      go_roundw
      case rel => exact ⟨k + 1, bs ++ [X], by omega, by omega, by go_num, by rw [List.length_append, hbl'.out]; rfl, hgr'.out.snoc hG'.out, by unfold OwnsBoxes; rw [flat_snoc_bx, List.length_append, hX'.out]; exact hown2, hB2⟩
      case measure => simp [intOf]; omega
    · by_cases hkl : k < l
      · obtain rfl : k = 20 := by omega
        clear hlt
        go_wp2
        go_ret
        exact ⟨⟨_, bs, rfl, by rw [hbl'.out]; omega, by rw [hbl'.out]; omega, hgr'.out, hown⟩, hB⟩
      · obtain rfl : k = l := by omega
        clear hlt
        go_wp2
        go_ret
        exact ⟨⟨_, bs, rfl, by rw [hbl'.out]; omega, by rw [hbl'.out]; omega, hgr'.out, hown⟩, hB⟩

set_option maxHeartbeats 2000000 in
theorem boxesE_any (a : Option Addr) (cap : Nat) (w : World) :
    Calls Try.prog 14 #[.slice a 0 cap] w fun e w' => BoxesPost 0 w.heap.size e w' ∧ Below w.heap.size w w' := by
  have hd : decide (((0 : Nat) : Int) < ((0 : Nat) : Int)) = false := by decide
  go_enter Try.func14, Try.ntmps14
  go_wp2_with fail
  refine wp_loop_rounds 1 ?_
  rw [rounds_succ]
  go_wp2
  go_ret
  exact ⟨⟨_, [], rfl, by simp, by simp, fun i hi => by simp at hi, World.ownsRow_nil _ _ _ _⟩, Below.refl _ _⟩
theorem boxes_any (v : Value) (Z : Nat → Int) (l : Nat) (w : World) (h : IntsAt w v 1 Z l) :
    Calls Try.prog 14 #[v] w fun e w' => BoxesPost l w.heap.size e w' ∧ Below w.heap.size w w' := by
  obtain ⟨a, cap, rfl, h1, h2, h3, h4⟩ := h
  rcases h4 with rfl | ⟨g, off, rfl, h5⟩
  · exact boxesE_any a cap w
  · exact boxesN_any g off cap l Z w h1 h2 h3 h5
end Go.Proofs.Ytbgafimiodfkaaa
