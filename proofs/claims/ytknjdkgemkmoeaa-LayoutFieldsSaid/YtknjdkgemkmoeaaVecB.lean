/- Contracts of package vec's exported functions and of the reference's. -/
import Derived.Test.YtknjdkgemkmoeaaVec
namespace Go.Proofs.Ytknjdkgemkmoeaa
open Go.ChangeShapes Go.WideShapes Go.ChangeAt Go.RowKit
open Fxm
set_option linter.unusedSimpArgs false
set_option linter.unusedVariables false

theorem bd_zero : Bd 0 := ⟨by omega, by omega⟩
theorem bd_one : Bd 1024 := ⟨by omega, by omega⟩
end Go.Proofs.Ytknjdkgemkmoeaa
