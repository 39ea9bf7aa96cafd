/- Package shape: extent along Y, along an axis. -/
import Derived.Test.YtknjdkgemkmoeaaShapeC
namespace Go.Proofs.Ytknjdkgemkmoeaa
open Go.ChangeShapes Go.WideShapes Go.ChangeAt Go.RowKit
open Fxm
set_option linter.unusedSimpArgs false
set_option linter.unusedVariables false

/-! ### Bounds, Project -/
end Go.Proofs.Ytknjdkgemkmoeaa
