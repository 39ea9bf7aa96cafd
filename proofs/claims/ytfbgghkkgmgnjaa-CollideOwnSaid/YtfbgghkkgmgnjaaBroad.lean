/- Contracts of package broadphase: Overlap, the reference's Overlap, the comparisons. -/
import Derived.Test.YtfbgghkkgmgnjaaRows
import Derived.Test.YtfbgghkkgmgnjaaBroadMath
import Derived.Test.YtfbgghkkgmgnjaaMade
import Derived.Test.YtfbgghkkgmgnjaaMadeTail
import Derived.Test.YtfbgghkkgmgnjaaLawKit
import Derived.WalkKit
import Derived.ProofKit
import Derived.WalkLawsBesides
import Derived.WalkSpells
import Derived.Deep.QuietTactic
import Derived.BigQuiet
import Derived.Lib.Hide
namespace Go.Proofs.Ytfbgghkkgmgnjaa
open Go.ChangeShapes Go.WideShapes Go.ChangeAt Go.RowKit
open Bo
set_option linter.unusedSimpArgs false
set_option linter.unusedVariables false

theorem below_two (w : World) (o o' : Obj) : Below w.heap.size w ((w.alloc o).alloc o') := below_step (alloc_below w o) (alloc_below _ o')

set_option maxHeartbeats 4000000 in
theorem overlap_any (a b : Bx) (w : World) :
    Calls Try.prog 45 #[a.val, b.val] w fun e w' => e = .returned (.bool (ov a b)) ∧ Below w.heap.size w w' := by
  obtain ⟨a0, a1, a2, a3⟩ := a
  obtain ⟨b0, b1, b2, b3⟩ := b
  unfold Bx.val
  simp only
  have key : (a0 ≤ b2 ∧ b0 ≤ a2 ∧ a1 ≤ b3 ∧ b1 ≤ a3) ∨ ¬ a0 ≤ b2 ∨ (a0 ≤ b2 ∧ ¬ b0 ≤ a2) ∨ (a0 ≤ b2 ∧ b0 ≤ a2 ∧ ¬ a1 ≤ b3) ∨ (a0 ≤ b2 ∧ b0 ≤ a2 ∧ a1 ≤ b3 ∧ ¬ b1 ≤ a3) := by omega
  rcases key with ⟨h1, h2, h3, h4⟩ | h1 | ⟨h1, h2⟩ | ⟨h1, h2, h3⟩ | ⟨h1, h2, h3, h4⟩
  · rw [ov_true (show Ov ⟨a0, a1, a2, a3⟩ ⟨b0, b1, b2, b3⟩ from ⟨h1, h2, h3, h4⟩)]
    go_enter Try.func45, Try.ntmps45
    go_wp2
    go_ret
    exact ⟨rfl, below_two _ _ _⟩
  · rw [ov_false (show ¬ Ov ⟨a0, a1, a2, a3⟩ ⟨b0, b1, b2, b3⟩ from fun h => h1 h.1)]
    have d1 : decide (a0 ≤ b2) = false := decide_eq_false h1
    go_enter Try.func45, Try.ntmps45
    go_wp2
    go_ret
    exact ⟨rfl, below_two _ _ _⟩
  · rw [ov_false (show ¬ Ov ⟨a0, a1, a2, a3⟩ ⟨b0, b1, b2, b3⟩ from fun h => h2 h.2.1)]
    have d1 : decide (b0 ≤ a2) = false := decide_eq_false h2
    go_enter Try.func45, Try.ntmps45
    go_wp2
    go_ret
    exact ⟨rfl, below_two _ _ _⟩
  · rw [ov_false (show ¬ Ov ⟨a0, a1, a2, a3⟩ ⟨b0, b1, b2, b3⟩ from fun h => h3 h.2.2.1)]
    have d1 : decide (a1 ≤ b3) = false := decide_eq_false h3
    go_enter Try.func45, Try.ntmps45
    go_wp2
    go_ret
    exact ⟨rfl, below_two _ _ _⟩
  · rw [ov_false (show ¬ Ov ⟨a0, a1, a2, a3⟩ ⟨b0, b1, b2, b3⟩ from fun h => h4 h.2.2.2)]
    have d1 : decide (b1 ≤ a3) = false := decide_eq_false h4
    go_enter Try.func45, Try.ntmps45
    go_wp2
    go_ret
    exact ⟨rfl, below_two _ _ _⟩

/-- The reference's test: the larger of the lower ends against the smaller of the upper ends. -/
def rov (a b : Bx) : Bool := decide (max a.x0 b.x0 ≤ min a.x1 b.x1) && decide (max a.y0 b.y0 ≤ min a.y1 b.y1)
theorem rov_ov {a b : Bx} (ha : a.x0 ≤ a.x1 ∧ a.y0 ≤ a.y1) (hb : b.x0 ≤ b.x1 ∧ b.y0 ≤ b.y1) : rov a b = ov a b := by
  unfold rov
  by_cases h : Ov a b
  · have := h.1; have := h.2.1; have := h.2.2.1; have := h.2.2.2
    rw [ov_true h, decide_eq_true (by omega), decide_eq_true (by omega)]; rfl
  · rw [ov_false h]
    by_cases k : max a.x0 b.x0 ≤ min a.x1 b.x1
    · rw [decide_eq_true k, decide_eq_false (fun k2 => h ⟨by omega, by omega, by omega, by omega⟩)]; rfl
    · rw [decide_eq_false k]; rfl
set_option maxHeartbeats 4000000 in
theorem refOverlap_any (a b : Bx) (w : World) :
    Calls Try.prog 50 #[a.val, b.val] w fun e w' => e = .returned (.bool (rov a b)) ∧ Below w.heap.size w w' := by
  obtain ⟨a0, a1, a2, a3⟩ := a
  obtain ⟨b0, b1, b2, b3⟩ := b
  unfold Bx.val rov
  simp only
  have key : (max a0 b0 ≤ min a2 b2 ∧ max a1 b1 ≤ min a3 b3) ∨ ¬ max a0 b0 ≤ min a2 b2 ∨ (max a0 b0 ≤ min a2 b2 ∧ ¬ max a1 b1 ≤ min a3 b3) := by omega
  rcases key with ⟨h1, h2⟩ | h1 | ⟨h1, h2⟩
  · rw [decide_eq_true h1, decide_eq_true h2]
    go_enter Try.func50, Try.ntmps50
    go_wp2
    all_goals
      go_ret
      refine ⟨?_, below_two _ _ _⟩
      first | rfl | (simp; omega)
  · rw [decide_eq_false h1]
    go_enter Try.func50, Try.ntmps50
    go_wp2
    all_goals
      go_ret
      refine ⟨?_, below_two _ _ _⟩
      first | rfl | (simp; omega)
  · rw [decide_eq_true h1, decide_eq_false h2]
    go_enter Try.func50, Try.ntmps50
    go_wp2
    all_goals
      go_ret
      refine ⟨?_, below_two _ _ _⟩
      first | rfl | (simp; omega)

/-! ### the comparisons -/
theorem cmpI_bd (x y : Int) : -1 ≤ cmpI x y ∧ cmpI x y ≤ 1 := by unfold cmpI; (repeat' split) <;> omega
/-- cmp.Or of two numbers. -/
def or2 (x y : Int) : Int := if x ≠ 0 then x else y
end Go.Proofs.Ytfbgghkkgmgnjaa
