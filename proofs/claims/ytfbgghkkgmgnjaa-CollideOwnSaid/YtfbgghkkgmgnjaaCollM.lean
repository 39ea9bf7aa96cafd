/- Package collide: what is known of a contact. -/
import Derived.Test.YtfbgghkkgmgnjaaCollL
namespace Go.Proofs.Ytfbgghkkgmgnjaa
open Go.ChangeShapes Go.WideShapes Go.ChangeAt Go.RowKit Go.Shelf
open Fxm
set_option linter.unusedSimpArgs false
set_option linter.unusedVariables false

theorem flr_nonneg {x : Int} (h : 0 ≤ x) : 0 ≤ flr x 1024 := by
  obtain ⟨h1, h2⟩ := flr_spec_pos (a := x) (b := 1024) (by omega)
  omega
theorem flr_negative {x : Int} (h : flr x 1024 < 0) : x < 0 := by
  obtain ⟨h1, h2⟩ := flr_spec_pos (a := x) (b := 1024) (by omega)
  omega
theorem hitN_sign (s t : Sp) (p q : Int × Int) : 0 ≤ flr ((q.1 - p.1) * (hitN s t p q).1 + (q.2 - p.2) * (hitN s t p q).2) 1024 := by
  by_cases h : flr ((q.1 - p.1) * (hitA s t p q).1 + (q.2 - p.2) * (hitA s t p q).2) 1024 < 0
  · have e : hitN s t p q = (-(hitA s t p q).1, -(hitA s t p q).2) := if_pos h
    rw [e]
    have hx := flr_negative h
    refine flr_nonneg ?_
    show 0 ≤ (q.1 - p.1) * -(hitA s t p q).1 + (q.2 - p.2) * -(hitA s t p q).2
    rw [Int.mul_neg, Int.mul_neg]
    omega
  · have e : hitN s t p q = hitA s t p q := if_neg h
    rw [e]
    omega
theorem hitN_axis (s t : Sp) (p q : Int × Int) : hitN s t p q = hitA s t p q ∨ hitN s t p q = (-(hitA s t p q).1, -(hitA s t p q).2) := by
  by_cases h : flr ((q.1 - p.1) * (hitA s t p q).1 + (q.2 - p.2) * (hitA s t p q).2) 1024 < 0
  · exact .inr (if_pos h)
  · exact .inl (if_neg h)

theorem axis_bd (s t : Sp) (p q : Int × Int) (k : Nat) : (-1024 ≤ (axisV s t p q k).1 ∧ (axisV s t p q k).1 ≤ 1024) ∧ (-1024 ≤ (axisV s t p q k).2 ∧ (axisV s t p q k).2 ≤ 1024) := axV_bd _
theorem hitN_bd (s t : Sp) (p q : Int × Int) : (-1024 ≤ (hitN s t p q).1 ∧ (hitN s t p q).1 ≤ 1024) ∧ (-1024 ≤ (hitN s t p q).2 ∧ (hitN s t p q).2 ≤ 1024) := by
  have h := axis_bd s t p q (hitK s t p q)
  rcases hitN_axis s t p q with e | e
  · rw [e]; exact h
  · rw [e]; unfold hitA; simp only; omega

/-- What the loop over the axes has as the least depth when k of them are over. -/
def leastV (D : Nat → Int) (k : Nat) : Int := if k = 0 then 0 else D (bst D (k - 1))
theorem least_new {D : Nat → Int} {k : Nat} (h : k = 0 ∨ D k < leastV D k) : leastV D (k + 1) = D k := by
  cases k with
  | zero => rfl
  | succ j =>
    have h' : D (j + 1) < D (bst D j) := h.resolve_left (by omega)
    show D (bst D (j + 1)) = _
    rw [bst_yes h']
theorem least_same {D : Nat → Int} {k : Nat} (h0 : k ≠ 0) (h : ¬ D k < leastV D k) : leastV D (k + 1) = leastV D k := by
  cases k with
  | zero => exact absurd rfl h0
  | succ j =>
    have h' : ¬ D (j + 1) < D (bst D j) := h
    show D (bst D (j + 1)) = D (bst D j)
    rw [bst_no h']

structure Yes (s t : Sp) (p q : Int × Int) (c0 c1 c2 : Int) : Prop where
  ov : Bo.Ov (bxS s p) (bxS t q)
  pos : ∀ k, k < ndir s t → 0 < dpt s t p q k
  least : c2 = leastV (dpt s t p q) (ndir s t)
  low : 0 < c2
  at' : ∃ k, k < ndir s t ∧ dpt s t p q k = c2 ∧ ((c0 = (axisV s t p q k).1 ∧ c1 = (axisV s t p q k).2) ∨ (c0 = -(axisV s t p q k).1 ∧ c1 = -(axisV s t p q k).2))
  sign : 0 ≤ flr ((q.1 - p.1) * c0 + (q.2 - p.2) * c1) 1024
  bd : (-1024 ≤ c0 ∧ c0 ≤ 1024) ∧ (-1024 ≤ c1 ∧ c1 ≤ 1024)
theorem hit_facts {s t : Sp} {p q : Int × Int} (hn : 1 ≤ ndir s t) (h : Hit s t p q) : Yes s t p q (hitN s t p q).1 (hitN s t p q).2 (hitD s t p q) := by
  have hpos : ∀ k, k < ndir s t → 0 < dpt s t p q k := fun k hk => by
    have := h.2
    by_cases h0 : 0 < dpt s t p q k
    · exact h0
    · exact absurd ⟨k, hk, by omega⟩ this
  have hK : hitK s t p q < ndir s t := Nat.lt_of_le_of_lt (bst_le _ _) (by omega)
  refine ⟨h.1, hpos, ?_, hpos _ hK, ⟨hitK s t p q, hK, rfl, ?_⟩, hitN_sign s t p q, hitN_bd s t p q⟩
  · unfold leastV hitD hitK
    rw [if_neg (by omega)]
  · rcases hitN_axis s t p q with e | e
    · rw [e]; exact .inl ⟨rfl, rfl⟩
    · rw [e]; exact .inr ⟨rfl, rfl⟩
theorem nohit_facts {s t : Sp} {p q : Int × Int} (h : ¬ Hit s t p q) (ho : Bo.Ov (bxS s p) (bxS t q)) (hn : 1 ≤ ndir s t) : leastV (dpt s t p q) (ndir s t) ≤ 0 := by
  have hA : Apart s t p q := Classical.byContradiction fun x => h ⟨ho, x⟩
  obtain ⟨k, hk, hd⟩ := hA
  unfold leastV
  rw [if_neg (by omega)]
  have := bst_min (dpt s t p q) (ndir s t - 1) k (by omega)
  omega
/-- The contact's letters, by the two cases. -/
theorem col_facts {w : World} {s t : Sp} {p q : Int × Int} (hs : Sh w s) : ((colN s t p q).1 = 0 ∧ (colN s t p q).2.1 = 0 ∧ (colN s t p q).2.2 = 0 ∧ colB s t p q = false ∧ (Bo.Ov (bxS s p) (bxS t q) → leastV (dpt s t p q) (ndir s t) ≤ 0)) ∨
    (colB s t p q = true ∧ Yes s t p q (colN s t p q).1 (colN s t p q).2.1 (colN s t p q).2.2) := by
  have hn := ndir_pos (t := t) hs
  by_cases h : Hit s t p q
  · obtain ⟨a, b⟩ := col_yes h
    rw [a, b]
    exact .inr ⟨rfl, hit_facts hn h⟩
  · obtain ⟨a, b⟩ := col_no h
    rw [a, b]
    exact .inl ⟨rfl, rfl, rfl, rfl, fun ho => nohit_facts h ho hn⟩

/-- The contact is that of axis j. -/
def Met (ax : Nat → Int × Int) (D : Nat → Int) (c0 c1 c2 : Int) (j : Nat) : Prop := D j = c2 ∧ ((c0 = (ax j).1 ∧ c1 = (ax j).2) ∨ (c0 = -(ax j).1 ∧ c1 = -(ax j).2))
theorem Yes.met {s t : Sp} {p q : Int × Int} {c0 c1 c2 : Int} (h : Yes s t p q c0 c1 c2) : ∃ j, j < ndir s t ∧ Met (axisV s t p q) (dpt s t p q) c0 c1 c2 j := h.at'
theorem att_succ {ax : Nat → Int × Int} {D : Nat → Int} {c0 c1 c2 : Int} {k : Nat} {b b' : Bool} (h : (∃ j, j < k ∧ Met ax D c0 c1 c2 j) → b = true) (h1 : b = true → b' = true) (h2 : Met ax D c0 c1 c2 k → b' = true) :
    (∃ j, j < k + 1 ∧ Met ax D c0 c1 c2 j) → b' = true := by
  rintro ⟨j, hj, hm⟩
  by_cases e : j = k
  · subst e; exact h2 hm
  · exact h1 (h ⟨j, by omega, hm⟩)
end Go.Proofs.Ytfbgghkkgmgnjaa
