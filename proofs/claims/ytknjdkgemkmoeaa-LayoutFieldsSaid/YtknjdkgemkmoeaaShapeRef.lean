/- The reference's shapes: outlines, turned polygons, shapes made of a number. -/
import Derived.Test.YtknjdkgemkmoeaaVecC
import Derived.Test.YtknjdkgemkmoeaaMadeAlloc
import Derived.Test.YtknjdkgemkmoeaaLawKit
import Derived.Deep.AppendLies
import Derived.OwnWalk
import Derived.WalkSpells
import Derived.Deep.RegionHeld3
namespace Go.Proofs.Ytknjdkgemkmoeaa
open Go.ChangeShapes Go.WideShapes Go.ChangeAt Go.RowKit
open Fxm
set_option linter.unusedSimpArgs false
set_option linter.unusedVariables false

/-- The cells of a row of vectors. -/
def flatV : List (Int × Int) → List Value
  | [] => []
  | p :: l => .int .i64 p.1 :: .int .i64 p.2 :: flatV l
def outl : Nat → List (Int × Int)
  | 0 => [(-1, -1), (1, -1), (0, 1)]
  | 1 => [(-1, -1), (1, -1), (1, 1), (-1, 1)]
  | 2 => [(0, -1), (1, 0), (0, 1), (-1, 0)]
  | 3 => [(-2, -2), (2, -2), (3, 1), (0, 3), (-3, 1)]
  | 4 => [(2, 0), (1, 2), (-1, 2), (-2, 0), (-1, -2), (1, -2)]
  | _ => [(-3, -1), (3, -1), (1, 2), (-1, 2)]

end Go.Proofs.Ytknjdkgemkmoeaa
