/- The reference of hash64: Bytes. -/
import Derived.Test.YthpdohfekillkaaHaF
import Derived.Test.YthpdohfekillkaaHaH
namespace Go.Proofs.Ythpdohfekillkaa
open Go.ChangeShapes Go.WideShapes Go.ChangeAt Go.RowKit Go.Shelf
set_option linter.unusedSimpArgs false
set_option linter.unusedVariables false

end Go.Proofs.Ythpdohfekillkaa
