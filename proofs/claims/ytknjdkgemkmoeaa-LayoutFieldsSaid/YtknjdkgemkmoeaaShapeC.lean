/- Package shape: extent, Bounds, Project. -/
import Derived.Test.YtknjdkgemkmoeaaShapeB
namespace Go.Proofs.Ytknjdkgemkmoeaa
open Go.ChangeShapes Go.WideShapes Go.ChangeAt Go.RowKit
open Fxm
set_option linter.unusedSimpArgs false
set_option linter.unusedVariables false

/-- 3 * 2^23. -/
def Bp (a : Int) : Prop := -8388608 * 3 ≤ a ∧ a ≤ 8388608 * 3
theorem Bp.bd {a : Int} (h : Bp a) : Bd a := by unfold Bp at h; unfold Bd; omega
theorem Bp.add {q x : Int} (hq : Bp q) (hx : -32768 ≤ x ∧ x ≤ 32768) : Bd (q + x) := by unfold Bp at hq; unfold Bd; omega
theorem small_bd {x : Int} (hx : -32768 ≤ x ∧ x ≤ 32768) : Bd x := by unfold Bd; omega

end Go.Proofs.Ytknjdkgemkmoeaa
