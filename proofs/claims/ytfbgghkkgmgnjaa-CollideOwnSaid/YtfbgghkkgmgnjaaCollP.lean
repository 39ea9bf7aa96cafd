/- Package collide: two polygons exchanged; a polygon turned. -/
import Derived.Test.YtfbgghkkgmgnjaaCollM
namespace Go.Proofs.Ytfbgghkkgmgnjaa
open Go.ChangeShapes Go.WideShapes Go.ChangeAt Go.RowKit Go.Shelf
open Fxm
set_option linter.unusedSimpArgs false
set_option linter.unusedVariables false

theorem col_same {s t s' t' : Sp} {p q p' q' : Int × Int} (hn : 1 ≤ ndir s t) (hn' : 1 ≤ ndir s' t')
    (ho : Bo.Ov (bxS s p) (bxS t q) ↔ Bo.Ov (bxS s' p') (bxS t' q'))
    (h1 : ∀ k, k < ndir s t → ∃ j, j < ndir s' t' ∧ dpt s' t' p' q' j = dpt s t p q k)
    (h2 : ∀ k, k < ndir s' t' → ∃ j, j < ndir s t ∧ dpt s t p q j = dpt s' t' p' q' k) :
    colB s t p q = colB s' t' p' q' ∧ (colN s t p q).2.2 = (colN s' t' p' q').2.2 := by
  have hh : Hit s t p q ↔ Hit s' t' p' q' := by
    constructor
    · rintro ⟨a, b⟩
      refine ⟨ho.1 a, ?_⟩
      rintro ⟨k, hk, hd⟩
      obtain ⟨j, hj, e⟩ := h2 k hk
      exact b ⟨j, hj, by rw [e]; exact hd⟩
    · rintro ⟨a, b⟩
      refine ⟨ho.2 a, ?_⟩
      rintro ⟨k, hk, hd⟩
      obtain ⟨j, hj, e⟩ := h1 k hk
      exact b ⟨j, hj, by rw [e]; exact hd⟩
  by_cases h : Hit s t p q
  · obtain ⟨a, b⟩ := col_yes h
    obtain ⟨c, d⟩ := col_yes (hh.1 h)
    rw [a, b, c, d]
    refine ⟨rfl, ?_⟩
    show hitD s t p q = hitD s' t' p' q'
    unfold hitD hitK
    apply Int.le_antisymm
    · obtain ⟨j, hj, e⟩ := h2 (bst (dpt s' t' p' q') (ndir s' t' - 1)) (Nat.lt_of_le_of_lt (bst_le _ _) (by omega))
      rw [← e]
      exact bst_min _ _ _ (by omega)
    · obtain ⟨j, hj, e⟩ := h1 (bst (dpt s t p q) (ndir s t - 1)) (Nat.lt_of_le_of_lt (bst_le _ _) (by omega))
      rw [← e]
      exact bst_min _ _ _ (by omega)
  · obtain ⟨a, b⟩ := col_no h
    obtain ⟨c, d⟩ := col_no (fun x => h (hh.2 x))
    rw [a, b, c, d]
    exact ⟨rfl, rfl⟩

theorem depth_swap (s t : Sp) (p q a : Int × Int) : depthV t s q p a = depthV s t p q a := by unfold depthV; omega
theorem axis_left {s t : Sp} {p q : Int × Int} {k : Nat} (h : k < s.n) : axisV s t p q k = axV (edgeD s.vs k) := by unfold axisV dirV; rw [if_pos h]
theorem axis_right {s t : Sp} {p q : Int × Int} {k : Nat} (h : k < t.n) : axisV s t p q (s.n + k) = axV (edgeD t.vs k) := by
  unfold axisV dirV
  rw [if_neg (by omega), if_pos (by omega), Nat.add_sub_cancel_left]
theorem ndir_poly {s t : Sp} (hs : 1 ≤ s.n) (ht : 1 ≤ t.n) : ndir s t = s.n + t.n := by unfold ndir; rw [if_neg (by omega)]; rfl
theorem dpt_left {s t : Sp} {p q : Int × Int} {k : Nat} (h : k < s.n) : dpt s t p q k = depthV s t p q (axV (edgeD s.vs k)) := by unfold dpt; rw [axis_left h]
theorem dpt_right {s t : Sp} {p q : Int × Int} {k : Nat} (h : k < t.n) : dpt s t p q (s.n + k) = depthV s t p q (axV (edgeD t.vs k)) := by unfold dpt; rw [axis_right h]

theorem swap_col {s t : Sp} {p q : Int × Int} (hs : 1 ≤ s.n) (ht : 1 ≤ t.n) : colB s t p q = colB t s q p ∧ (colN s t p q).2.2 = (colN t s q p).2.2 := by
  have key : ∀ (s t : Sp) (p q : Int × Int), 1 ≤ s.n → 1 ≤ t.n → ∀ k, k < ndir s t → ∃ j, j < ndir t s ∧ dpt t s q p j = dpt s t p q k := by
    intro s t p q hs ht k hk
    rw [ndir_poly hs ht] at hk
    rw [ndir_poly ht hs]
    by_cases h : k < s.n
    · exact ⟨t.n + k, by omega, by rw [dpt_right h, dpt_left h, depth_swap]⟩
    · obtain ⟨j, rfl⟩ : ∃ j, k = s.n + j := ⟨k - s.n, by omega⟩
      exact ⟨j, by omega, by rw [dpt_left (by omega), dpt_right (by omega), depth_swap]⟩
  refine col_same (by rw [ndir_poly hs ht]; omega) (by rw [ndir_poly ht hs]; omega) ?_ (key s t p q hs ht) (key t s q p ht hs)
  unfold Bo.Ov
  constructor <;> (intro h; omega)

/-! ### turned -/
theorem edgeD_rot {r i : Nat} {vs : List (Int × Int)} (hr : r < vs.length) (hi : i < vs.length) : edgeD (rot r vs) i = edgeD vs ((i + r) % vs.length) := by
  unfold edgeD
  rw [rot_length (Nat.le_of_lt hr), at_rot hr hi, at_rot hr (Nat.mod_lt _ (by omega))]
  rw [show ((i + 1) % vs.length + r) % vs.length = ((i + r) % vs.length + 1) % vs.length by rw [Nat.mod_add_mod, Nat.mod_add_mod]; congr 1; omega]
theorem unrot {r n j : Nat} (hr : r < n) (hj : j < n) : ∃ i, i < n ∧ (i + r) % n = j := by
  by_cases h : r ≤ j
  · exact ⟨j - r, by omega, by rw [Nat.sub_add_cancel h, Nat.mod_eq_of_lt hj]⟩
  · exact ⟨j + n - r, by omega, by rw [Nat.sub_add_cancel (by omega), Nat.add_mod_right, Nat.mod_eq_of_lt hj]⟩
theorem depth_rot {r g cap g' cap' : Nat} {vs : List (Int × Int)} (hr : r < vs.length) (t : Sp) (p q a : Int × Int) : depthV (.p g' cap' (rot r vs)) t p q a = depthV (.p g cap vs) t p q a := by
  unfold depthV
  simp only [Sp.ph, Sp.pl]
  rw [rot_length (Nat.le_of_lt hr), lo_rot _ hr, hi_rot _ hr]
theorem turn_col {r g cap g' cap' : Nat} {vs : List (Int × Int)} {t : Sp} {p q : Int × Int} (hr : r < vs.length) (ht : 1 ≤ t.n) :
    colB (.p g cap vs) t p q = colB (.p g' cap' (rot r vs)) t p q ∧ (colN (.p g cap vs) t p q).2.2 = (colN (.p g' cap' (rot r vs)) t p q).2.2 := by
  have hl := rot_length (Nat.le_of_lt hr)
  have n1 : (Sp.p g cap vs).n = vs.length := rfl
  have n2 : (Sp.p g' cap' (rot r vs)).n = vs.length := hl
  have v1 : (Sp.p g cap vs).vs = vs := rfl
  have v2 : (Sp.p g' cap' (rot r vs)).vs = rot r vs := rfl
  have m1 : ndir (.p g cap vs) t = vs.length + t.n := by rw [ndir_poly (by rw [n1]; omega) ht, n1]
  have m2 : ndir (.p g' cap' (rot r vs)) t = vs.length + t.n := by rw [ndir_poly (by rw [n2]; omega) ht, n2]
  have e2 : ∀ j, j < t.n → dpt (.p g' cap' (rot r vs)) t p q (vs.length + j) = dpt (.p g cap vs) t p q (vs.length + j) := fun j hj => by
    have a := dpt_right (s := .p g cap vs) (t := t) (p := p) (q := q) hj
    have b := dpt_right (s := .p g' cap' (rot r vs)) (t := t) (p := p) (q := q) hj
    rw [n1] at a
    rw [n2] at b
    rw [a, b, depth_rot hr]
  have e1 : ∀ i, i < vs.length → dpt (.p g' cap' (rot r vs)) t p q i = dpt (.p g cap vs) t p q ((i + r) % vs.length) := fun i hi => by
    rw [dpt_left (by rw [n2]; exact hi), dpt_left (by rw [n1]; exact Nat.mod_lt _ (by omega)), v1, v2, edgeD_rot hr hi, depth_rot hr]
  refine col_same (by rw [m1]; omega) (by rw [m2]; omega) ?_ ?_ ?_
  · unfold Bo.Ov bxS
    simp only [Sp.xa, Sp.ya, Sp.xb, Sp.yb]
    rw [hl, lo_rot _ hr, lo_rot _ hr, hi_rot _ hr, hi_rot _ hr]
  · intro k hk
    rw [m1] at hk
    rw [m2]
    by_cases h : k < vs.length
    · obtain ⟨i, hi, e⟩ := unrot hr h
      exact ⟨i, by omega, by rw [e1 i hi, e]⟩
    · obtain ⟨j, rfl⟩ : ∃ j, k = vs.length + j := ⟨k - vs.length, by omega⟩
      exact ⟨vs.length + j, hk, e2 j (by omega)⟩
  · intro k hk
    rw [m2] at hk
    rw [m1]
    by_cases h : k < vs.length
    · exact ⟨(k + r) % vs.length, by have := Nat.mod_lt (k + r) (show 0 < vs.length by omega); omega, (e1 k h).symm⟩
    · obtain ⟨j, rfl⟩ : ∃ j, k = vs.length + j := ⟨k - vs.length, by omega⟩
      exact ⟨vs.length + j, hk, (e2 j (by omega)).symm⟩
end Go.Proofs.Ytfbgghkkgmgnjaa
