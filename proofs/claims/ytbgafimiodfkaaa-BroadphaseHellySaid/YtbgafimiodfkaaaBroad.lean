/- Contracts of package broadphase: Overlap, the reference's Overlap, the comparisons. -/
import Derived.Test.YtbgafimiodfkaaaRows
import Derived.Test.YtbgafimiodfkaaaBroadMath
import Derived.Test.YtbgafimiodfkaaaMade
import Derived.Test.YtbgafimiodfkaaaMadeTail
import Derived.Test.YtbgafimiodfkaaaLawKit
import Derived.WalkKit
import Derived.ProofKit
import Derived.WalkLawsBesides
import Derived.WalkSpells
import Derived.Deep.QuietTactic
import Derived.BigQuiet
import Derived.Lib.Hide
namespace Go.Proofs.Ytbgafimiodfkaaa
open Go.ChangeShapes Go.WideShapes Go.ChangeAt Go.RowKit
open Bo
set_option linter.unusedSimpArgs false
set_option linter.unusedVariables false

theorem below_two (w : World) (o o' : Obj) : Below w.heap.size w ((w.alloc o).alloc o') := below_step (alloc_below w o) (alloc_below _ o')

set_option maxHeartbeats 4000000 in
theorem overlap_any (a b : Bx) (w : World) :
    Calls Try.prog 11 #[a.val, b.val] w fun e w' => e = .returned (.bool (ov a b)) ∧ Below w.heap.size w w' := by
  obtain ⟨a0, a1, a2, a3⟩ := a
  obtain ⟨b0, b1, b2, b3⟩ := b
  unfold Bx.val
  simp only
  have key : (a0 ≤ b2 ∧ b0 ≤ a2 ∧ a1 ≤ b3 ∧ b1 ≤ a3) ∨ ¬ a0 ≤ b2 ∨ (a0 ≤ b2 ∧ ¬ b0 ≤ a2) ∨ (a0 ≤ b2 ∧ b0 ≤ a2 ∧ ¬ a1 ≤ b3) ∨ (a0 ≤ b2 ∧ b0 ≤ a2 ∧ a1 ≤ b3 ∧ ¬ b1 ≤ a3) := by omega
  rcases key with ⟨h1, h2, h3, h4⟩ | h1 | ⟨h1, h2⟩ | ⟨h1, h2, h3⟩ | ⟨h1, h2, h3, h4⟩
  · rw [ov_true (show Ov ⟨a0, a1, a2, a3⟩ ⟨b0, b1, b2, b3⟩ from ⟨h1, h2, h3, h4⟩)]
    go_enter Try.func11, Try.ntmps11
    go_wp2
    go_ret
    exact ⟨rfl, below_two _ _ _⟩
  · rw [ov_false (show ¬ Ov ⟨a0, a1, a2, a3⟩ ⟨b0, b1, b2, b3⟩ from fun h => h1 h.1)]
    have d1 : decide (a0 ≤ b2) = false := decide_eq_false h1
    go_enter Try.func11, Try.ntmps11
    go_wp2
    go_ret
    exact ⟨rfl, below_two _ _ _⟩
  · rw [ov_false (show ¬ Ov ⟨a0, a1, a2, a3⟩ ⟨b0, b1, b2, b3⟩ from fun h => h2 h.2.1)]
    have d1 : decide (b0 ≤ a2) = false := decide_eq_false h2
    go_enter Try.func11, Try.ntmps11
    go_wp2
    go_ret
    exact ⟨rfl, below_two _ _ _⟩
  · rw [ov_false (show ¬ Ov ⟨a0, a1, a2, a3⟩ ⟨b0, b1, b2, b3⟩ from fun h => h3 h.2.2.1)]
    have d1 : decide (a1 ≤ b3) = false := decide_eq_false h3
    go_enter Try.func11, Try.ntmps11
    go_wp2
    go_ret
    exact ⟨rfl, below_two _ _ _⟩
  · rw [ov_false (show ¬ Ov ⟨a0, a1, a2, a3⟩ ⟨b0, b1, b2, b3⟩ from fun h => h4 h.2.2.2)]
    have d1 : decide (b1 ≤ a3) = false := decide_eq_false h4
    go_enter Try.func11, Try.ntmps11
    go_wp2
    go_ret
    exact ⟨rfl, below_two _ _ _⟩

/-- The reference's test: the larger of the lower ends against the smaller of the upper ends. -/
def rov (a b : Bx) : Bool := decide (max a.x0 b.x0 ≤ min a.x1 b.x1) && decide (max a.y0 b.y0 ≤ min a.y1 b.y1)
theorem rov_ov {a b : Bx} (ha : a.x0 ≤ a.x1 ∧ a.y0 ≤ a.y1) (hb : b.x0 ≤ b.x1 ∧ b.y0 ≤ b.y1) : rov a b = ov a b := by
  unfold rov
  by_cases h : Ov a b
  · have := h.1; have := h.2.1; have := h.2.2.1; have := h.2.2.2
    rw [ov_true h, decide_eq_true (by omega), decide_eq_true (by omega)]; rfl
  · rw [ov_false h]
    by_cases k : max a.x0 b.x0 ≤ min a.x1 b.x1
    · rw [decide_eq_true k, decide_eq_false (fun k2 => h ⟨by omega, by omega, by omega, by omega⟩)]; rfl
    · rw [decide_eq_false k]; rfl
set_option maxHeartbeats 4000000 in
theorem refOverlap_any (a b : Bx) (w : World) :
    Calls Try.prog 12 #[a.val, b.val] w fun e w' => e = .returned (.bool (rov a b)) ∧ Below w.heap.size w w' := by
  obtain ⟨a0, a1, a2, a3⟩ := a
  obtain ⟨b0, b1, b2, b3⟩ := b
  unfold Bx.val rov
  simp only
  have key : (max a0 b0 ≤ min a2 b2 ∧ max a1 b1 ≤ min a3 b3) ∨ ¬ max a0 b0 ≤ min a2 b2 ∨ (max a0 b0 ≤ min a2 b2 ∧ ¬ max a1 b1 ≤ min a3 b3) := by omega
  rcases key with ⟨h1, h2⟩ | h1 | ⟨h1, h2⟩
  · rw [decide_eq_true h1, decide_eq_true h2]
    go_enter Try.func12, Try.ntmps12
    go_wp2
    all_goals
      go_ret
      refine ⟨?_, below_two _ _ _⟩
      first | rfl | (simp; omega)
  · rw [decide_eq_false h1]
    go_enter Try.func12, Try.ntmps12
    go_wp2
    all_goals
      go_ret
      refine ⟨?_, below_two _ _ _⟩
      first | rfl | (simp; omega)
  · rw [decide_eq_true h1, decide_eq_false h2]
    go_enter Try.func12, Try.ntmps12
    go_wp2
    all_goals
      go_ret
      refine ⟨?_, below_two _ _ _⟩
      first | rfl | (simp; omega)

/-! ### the comparisons -/
theorem cmpI_bd (x y : Int) : -1 ≤ cmpI x y ∧ cmpI x y ≤ 1 := by unfold cmpI; (repeat' split) <;> omega
theorem isNaN_any (x : Int) (w : World) :
    Calls Try.prog 34 #[.int .i64 x] w fun e w' => e = .returned (.bool false) ∧ w = w' := by
  have h : (x != x) = false := by simp
  go_enter Try.func34, Try.ntmps34
  go_wp2
  go_ret
  exact ⟨rfl, rfl⟩
theorem compare_any (x y : Int) (w : World) :
    Calls Try.prog 29 #[.int .i64 x, .int .i64 y] w fun e w' => e = .returned (.int .i64 (cmpI x y)) ∧ w = w' := by
  have k1 := Lib.hid (fun w => isNaN_any x w)
  have k2 := Lib.hid (fun w => isNaN_any y w)
  have key : (x < y ∧ cmpI x y = -1) ∨ (y < x ∧ cmpI x y = 1) ∨ (x = y ∧ cmpI x y = 0) := by unfold cmpI; (repeat' split) <;> omega
  rcases key with ⟨h, e⟩ | ⟨h, e⟩ | ⟨h, e⟩
  · rw [e]; clear e
    go_enter Try.func29, Try.ntmps29
    go_wp2_with fail
    refine (k1.out _).mono ?_
    rintro e w' ⟨rfl, rfl⟩
    go_wp2_with fail
    refine (k2.out _).mono ?_
    rintro e w' ⟨rfl, rfl⟩
    go_wp2
    go_ret
    exact ⟨rfl, rfl⟩
  · rw [e]; clear e
    go_enter Try.func29, Try.ntmps29
    go_wp2_with fail
    refine (k1.out _).mono ?_
    rintro e w' ⟨rfl, rfl⟩
    go_wp2_with fail
    refine (k2.out _).mono ?_
    rintro e w' ⟨rfl, rfl⟩
    go_wp2
    go_ret
    exact ⟨rfl, rfl⟩
  · rw [e]; clear e
    have h1 : ¬ x < y := by omega
    have h2 : ¬ y < x := by omega
    clear h
    go_enter Try.func29, Try.ntmps29
    go_wp2_with fail
    refine (k1.out _).mono ?_
    rintro e w' ⟨rfl, rfl⟩
    go_wp2_with fail
    refine (k2.out _).mono ?_
    rintro e w' ⟨rfl, rfl⟩
    go_wp2
    go_ret
    exact ⟨rfl, rfl⟩
/-- cmp.Or of two numbers. -/
def or2 (x y : Int) : Int := if x ≠ 0 then x else y
theorem or_any (g cap : Nat) (x y : Int) (w : World) (hc : 2 ≤ cap) (h0 : w.cell? ⟨g, 0, none⟩ = some (.int .i64 x)) (h1 : w.cell? ⟨g, 1, none⟩ = some (.int .i64 y)) :
    Calls Try.prog 28 #[.slice (some ⟨g, 0, none⟩) 2 cap] w fun e w' => e = .returned (.int .i64 (or2 x y)) ∧ w = w' := by
  go_enter Try.func28, Try.ntmps28
  go_wp2
  go_loop [8] (fun i => ∃ k : Nat, i = .int .i64 k ∧ (k = 0 ∨ (k = 1 ∧ x = 0) ∨ (k = 2 ∧ x = 0 ∧ y = 0))) (fun i => 2 - (intOf i).toNat)
  case atStart => exact ⟨0, rfl, Or.inl rfl⟩
  case round =>
    obtain ⟨k, rfl, hk⟩ := hrel
    rcases hk with rfl | ⟨rfl, rfl⟩ | ⟨rfl, rfl, rfl⟩
    · by_cases hx : x = 0
      · subst hx
        go_wp2
        go_round
        case rel => exact ⟨1, rfl, by simp⟩
        case measure => simp [intOf]
      · have e : or2 x y = x := by unfold or2; rw [if_pos hx]
        have b : (x != 0) = true := by simpa using hx
        have E := Lib.hid e
        clear e
        go_wp2
        go_ret
        exact ⟨by rw [E.out]; first | done | rfl, rfl⟩
    · have E := Lib.hid (show or2 0 y = y from rfl)
      by_cases hy : y = 0
      · subst hy
        go_wp2
        go_round
        case rel => exact ⟨2, rfl, by simp⟩
        case measure => simp [intOf]
      · have b : (y != 0) = true := by simpa using hy
        go_wp2
        go_ret
        exact ⟨by rw [E.out]; first | done | rfl, rfl⟩
    · go_wp2
      go_ret
      exact ⟨rfl, rfl⟩
end Go.Proofs.Ytbgafimiodfkaaa
