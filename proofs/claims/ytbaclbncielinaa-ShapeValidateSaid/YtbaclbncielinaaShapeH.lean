/- The reference's Bounds; the law's own helpers near and axis. -/
import Derived.Test.YtbaclbncielinaaShapeG
import Derived.Test.YtbaclbncielinaaShapeD
namespace Go.Proofs.Ytbaclbncielinaa
open Go.ChangeShapes Go.WideShapes Go.ChangeAt Go.RowKit
open Fxm
set_option linter.unusedSimpArgs false
set_option linter.unusedVariables false

theorem min_i (x y : Int) : (if y < x then y else x) = min x y := by split <;> omega
end Go.Proofs.Ytbaclbncielinaa
