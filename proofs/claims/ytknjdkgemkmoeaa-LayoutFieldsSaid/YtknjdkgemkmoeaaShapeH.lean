/- The reference's Bounds; the law's own helpers near and axis. -/
import Derived.Test.YtknjdkgemkmoeaaShapeG
import Derived.Test.YtknjdkgemkmoeaaShapeD
namespace Go.Proofs.Ytknjdkgemkmoeaa
open Go.ChangeShapes Go.WideShapes Go.ChangeAt Go.RowKit
open Fxm
set_option linter.unusedSimpArgs false
set_option linter.unusedVariables false

theorem min_i (x y : Int) : (if y < x then y else x) = min x y := by split <;> omega
end Go.Proofs.Ytknjdkgemkmoeaa
