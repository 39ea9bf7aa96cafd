/- The reference of hash64: Bytes. -/
import Derived.Test.YtknjdkgemkmoeaaHaF
import Derived.Test.YtknjdkgemkmoeaaHaH
namespace Go.Proofs.Ytknjdkgemkmoeaa
open Go.ChangeShapes Go.WideShapes Go.ChangeAt Go.RowKit Go.Shelf
set_option linter.unusedSimpArgs false
set_option linter.unusedVariables false

end Go.Proofs.Ytknjdkgemkmoeaa
