/- The law's own helpers: near, axis, lives; generated shapes by one contract. -/
import Derived.Test.YtknjdkgemkmoeaaShapeH
import Derived.Test.YtknjdkgemkmoeaaFixMath
namespace Go.Proofs.Ytknjdkgemkmoeaa
open Go.ChangeShapes Go.WideShapes Go.ChangeAt Go.RowKit
open Fxm
set_option linter.unusedSimpArgs false
set_option linter.unusedVariables false

/-- The section's example: the square. -/
def sq : List (Int × Int) := [(-2, -2), (2, -2), (2, 2), (-2, 2)]
theorem sq_gen : Gen sq := ⟨by decide, by decide, by unfold Small; decide, by unfold Convex; decide, by decide⟩
theorem sq_bounds : lo (fun p => 10 + p.1) sq 4 = 8 ∧ lo (fun p => 0 + p.2) sq 4 = -2 ∧ hi (fun p => 10 + p.1) sq 4 = 12 ∧ hi (fun p => 0 + p.2) sq 4 = 2 := by decide
theorem sq_in : insideB sq (12 - 10, 2 - 0) = true := by decide
theorem sq_out : insideB sq (13 - 10, 0 - 0) = false := by decide
theorem no_valid : ¬ Valid 0 [] := by
  rintro (⟨_, h, _⟩ | h)
  · omega
  · have := h.2.1; simp at this
theorem circ_valid {r : Int} (h : 1 ≤ r ∧ r ≤ 32768) : Valid r [] := Or.inl ⟨rfl, h.1, h.2⟩

end Go.Proofs.Ytknjdkgemkmoeaa
