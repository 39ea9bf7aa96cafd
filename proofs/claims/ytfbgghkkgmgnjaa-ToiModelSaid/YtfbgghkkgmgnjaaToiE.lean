/- Package toi: the laws' mathematics. -/
import Derived.Test.YtfbgghkkgmgnjaaToiB
namespace Go.Proofs.Ytfbgghkkgmgnjaa
open Go.ChangeShapes Go.WideShapes Go.ChangeAt Go.RowKit Go.Shelf
open Fxm
set_option linter.unusedSimpArgs false
set_option linter.unusedVariables false

section
variable {T T' : Int → Bool} {f g : Int}
theorem Early.form (h : Early T f) : (T 0 = true ∧ f = 1024) ∨ (∃ k : Nat, k ≤ 8 ∧ (∀ i : Nat, i ≤ k → T i = false) ∧ (k < 8 → T ((k : Int) + 1) = true) ∧ f = k * 128) := by
  rcases h with h | ⟨k, hk, h1, h2, h3⟩ | ⟨h1, h2⟩
  · exact .inl h
  · exact .inr ⟨k, by omega, h1, fun _ => h2, h3⟩
  · exact .inr ⟨8, by omega, h1, fun h => absurd h (by omega), by rw [h2]; rfl⟩
theorem Early.none (h : Early T f) (hn : ∀ k : Nat, k ≤ 8 → T k = false) : f = 1024 := by
  rcases h with ⟨_, h⟩ | ⟨k, hk, h1, h2, h3⟩ | ⟨h1, h2⟩
  · exact h
  · have := hn (k + 1) (by omega)
    rw [Int.natCast_add] at this
    simp only [Int.natCast_one] at this
    rw [h2] at this; cases this
  · exact h2
theorem Early.rest (h : Early T f) (hc : ∀ k : Int, T k = T 0) : f = 1024 := by
  rcases h with ⟨_, h⟩ | ⟨k, hk, h1, h2, h3⟩ | ⟨h1, h2⟩
  · exact h
  · have := h1 0 (Nat.zero_le _)
    simp only [Int.natCast_zero] at this
    rw [hc, this] at h2; cases h2
  · exact h2
/-- Half as fast: twice as many sub-steps. -/
theorem Early.slower (h : Early T f) (h' : Early T' g) (ht : ∀ k : Int, T' (2 * k) = T k) : T 0 = true ∨ f = 1024 ∨ ∃ k n : Nat, 1 ≤ k ∧ k ≤ 8 ∧ 1 ≤ n ∧ n ≤ 9 ∧ f = ((k : Int) - 1) * 128 ∧ g = ((n : Int) - 1) * 128 ∧ ((n = 9 ∧ 8 < 2 * k) ∨ (n < 9 ∧ n ≤ 2 * k)) := by
  rcases h with ⟨h, _⟩ | ⟨k, hk, h1, h2, h3⟩ | ⟨h1, h2⟩
  · exact .inl h
  · have t0 : T' 0 = false := by
      have := ht 0
      rw [Int.mul_zero] at this
      rw [this]; exact h1 0 (Nat.zero_le _)
    have e := ht ((k : Int) + 1)
    rw [h2] at e
    refine .inr (.inr ?_)
    rcases h' with ⟨h', _⟩ | ⟨j, hj, g1, g2, g3⟩ | ⟨g1, g2⟩
    · rw [t0] at h'; cases h'
    · refine ⟨k + 1, j + 1, by omega, by omega, by omega, by omega, by omega, by omega, .inr ⟨by omega, ?_⟩⟩
      rcases Nat.lt_or_ge (2 * (k + 1)) (j + 1) with hlt | hge
      · have := g1 (2 * (k + 1)) (by omega)
        rw [show (((2 * (k + 1) : Nat)) : Int) = 2 * ((k : Int) + 1) by omega, e] at this
        cases this
      · exact hge
    · refine ⟨k + 1, 9, by omega, by omega, by omega, by omega, by omega, by omega, .inl ⟨rfl, ?_⟩⟩
      rcases Nat.lt_or_ge 8 (2 * (k + 1)) with hlt | hge
      · exact hlt
      · have := g1 (2 * (k + 1)) hge
        rw [show (((2 * (k + 1) : Nat)) : Int) = 2 * ((k : Int) + 1) by omega, e] at this
        cases this
  · exact .inr (.inl h2)
end
theorem flr_zero8 (k : Int) : flr (0 * k) 8 = 0 := by rw [Int.zero_mul]; rfl
theorem tch_rest (s t : Sp) (p q : Int × Int) (k : Int) : tch s t p (0, 0) q (0, 0) k = tch s t p (0, 0) q (0, 0) 0 := by
  unfold tch posV
  simp only [flr_zero8]
theorem tch_shift (s t : Sp) (p0 p1 q0 q1 i k : Int) (v u : Int × Int) : tch s t (p0 + i * 1024, p1 + k * 1024) v (q0 + i * 1024, q1 + k * 1024) u = tch s t (p0, p1) v (q0, q1) u := by
  funext m
  unfold tch posV
  simp only
  rw [show p0 + i * 1024 + flr (v.1 * m) 8 = p0 + flr (v.1 * m) 8 + i * 1024 by omega, show p1 + k * 1024 + flr (v.2 * m) 8 = p1 + flr (v.2 * m) 8 + k * 1024 by omega,
    show q0 + i * 1024 + flr (u.1 * m) 8 = q0 + flr (u.1 * m) 8 + i * 1024 by omega, show q1 + k * 1024 + flr (u.2 * m) 8 = q1 + flr (u.2 * m) 8 + k * 1024 by omega]
  exact (col_shift s t _ _ _ _ i k).2
theorem tch_slow (s t : Sp) (p q : Int × Int) (a b k : Int) : tch s t p (8 * a, 8 * b) q (0, 0) (2 * k) = tch s t p (16 * a, 16 * b) q (0, 0) k := by
  unfold tch posV
  simp only
  rw [show 16 * a * k = 8 * a * (2 * k) by grind, show 16 * b * k = 8 * b * (2 * k) by grind, flr_zero8, flr_zero8]

/-! ### Boxes over the whole motion -/
/-- X is the box over the sub-steps up to k. -/
structure Swept (s : Sp) (p v : Int × Int) (k : Nat) (x0 y0 x1 y1 : Int) : Prop where
  x0 : ∀ i : Nat, i ≤ k → x0 ≤ (posV p v i).1 + s.xa
  y0 : ∀ i : Nat, i ≤ k → y0 ≤ (posV p v i).2 + s.ya
  x1 : ∀ i : Nat, i ≤ k → (posV p v i).1 + s.xb ≤ x1
  y1 : ∀ i : Nat, i ≤ k → (posV p v i).2 + s.yb ≤ y1
theorem pos_zero (p v : Int × Int) : posV p v 0 = p := by
  unfold posV
  rw [Int.mul_zero, Int.mul_zero]
  exact Prod.ext (by show p.1 + flr 0 8 = p.1; rw [show flr 0 8 = 0 from rfl, Int.add_zero]) (by show p.2 + flr 0 8 = p.2; rw [show flr 0 8 = 0 from rfl, Int.add_zero])
theorem Swept.start (s : Sp) (p v : Int × Int) : Swept s p v 0 (p.1 + s.xa) (p.2 + s.ya) (p.1 + s.xb) (p.2 + s.yb) := by
  have e : ∀ i : Nat, i ≤ 0 → posV p v i = p := fun i hi => by
    obtain rfl : i = 0 := by omega
    exact pos_zero p v
  exact ⟨fun i hi => by rw [e i hi]; omega, fun i hi => by rw [e i hi]; omega, fun i hi => by rw [e i hi]; omega, fun i hi => by rw [e i hi]; omega⟩
theorem Swept.step {s : Sp} {p v : Int × Int} {k : Nat} {x0 y0 x1 y1 : Int} (h : Swept s p v k x0 y0 x1 y1) :
    Swept s p v (k + 1) (min x0 ((posV p v ((k + 1 : Nat) : Int)).1 + s.xa)) (min y0 ((posV p v ((k + 1 : Nat) : Int)).2 + s.ya)) (max x1 ((posV p v ((k + 1 : Nat) : Int)).1 + s.xb)) (max y1 ((posV p v ((k + 1 : Nat) : Int)).2 + s.yb)) := by
  refine ⟨fun i hi => ?_, fun i hi => ?_, fun i hi => ?_, fun i hi => ?_⟩
  all_goals
    rcases Nat.lt_or_ge k i with hlt | hge
    · obtain rfl : i = k + 1 := by omega
      omega
    · first
        | (have := h.x0 i hge; omega)
        | (have := h.y0 i hge; omega)
        | (have := h.x1 i hge; omega)
        | (have := h.y1 i hge; omega)
theorem no_touch {s t : Sp} {p v q u : Int × Int} {k : Int} (h : (posV p v k).1 + s.xb < (posV q u k).1 + t.xa ∨ (posV q u k).1 + t.xb < (posV p v k).1 + s.xa ∨ (posV p v k).2 + s.yb < (posV q u k).2 + t.ya ∨ (posV q u k).2 + t.yb < (posV p v k).2 + s.ya) :
    tch s t p v q u k = false := by
  unfold tch
  refine (col_no ?_).2
  rintro ⟨ho, _⟩
  unfold Bo.Ov bxS at ho
  simp only at ho
  omega
theorem Swept.apart {s t : Sp} {p v q u : Int × Int} {x0 y0 x1 y1 z0 w0 z1 w1 : Int} (h : Swept s p v 8 x0 y0 x1 y1) (h' : Swept t q u 8 z0 w0 z1 w1) (ha : x1 < z0 ∨ z1 < x0 ∨ y1 < w0 ∨ w1 < y0) {f : Int} (hf : Early (tch s t p v q u) f) : f = 1024 := by
  refine hf.none fun k hk => no_touch ?_
  have a0 := h.x0 k hk
  have a1 := h.y0 k hk
  have a2 := h.x1 k hk
  have a3 := h.y1 k hk
  have b0 := h'.x0 k hk
  have b1 := h'.y0 k hk
  have b2 := h'.x1 k hk
  have b3 := h'.y1 k hk
  omega
/-- Moved beyond the other's box. -/
theorem Swept.beyond {s t : Sp} {p v u : Int × Int} {q0 q1 c : Int} {x0 y0 x1 y1 z0 w0 z1 w1 : Int} (h : Swept s p v 8 x0 y0 x1 y1) (h' : Swept t (q0, q1) u 8 z0 w0 z1 w1) (hc : 0 ≤ c) {f : Int} (hf : Early (tch s t p v (q0 + x1 - z0 + 1 + c, q1) u) f) : f = 1024 := by
  refine hf.none fun k hk => no_touch (.inl ?_)
  have a2 := h.x1 k hk
  have b0 := h'.x0 k hk
  unfold posV at *
  simp only at *
  omega
end Go.Proofs.Ytfbgghkkgmgnjaa
