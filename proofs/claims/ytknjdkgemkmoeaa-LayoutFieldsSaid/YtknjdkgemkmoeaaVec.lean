/- Contracts of package vec and of its reference. -/
import Derived.Test.YtknjdkgemkmoeaaFixed
import Derived.Test.YtknjdkgemkmoeaaMadeTail
import Derived.Outline
namespace Go.Proofs.Ytknjdkgemkmoeaa
open Go.ChangeShapes Go.WideShapes Go.ChangeAt Go.RowKit
open Fxm
set_option linter.unusedSimpArgs false
set_option linter.unusedVariables false

/-- A component's bound in these contracts: 2^25. -/
def Bd (a : Int) : Prop := -33554432 ≤ a ∧ a ≤ 33554432
theorem prod25 {a b : Int} (ha : Bd a) (hb : Bd b) : -1125899906842624 ≤ a * b ∧ a * b ≤ 1125899906842624 := by
  have := prod_bd (a := a) (b := b) (A := 33554432) (B := 33554432) (by omega) (by omega) ha.1 ha.2 hb.1 hb.2
  omega
theorem bcell {W w1 : World} (hb : Below W.heap.size W w1) : (∀ b o, b < W.heap.size → w1.cell? ⟨b, o, none⟩ = W.cell? ⟨b, o, none⟩) ∧ (∀ b o, b < W.heap.size → w1.frozen? ⟨b, o, none⟩ = W.frozen? ⟨b, o, none⟩) :=
  ⟨fun b o h => hb.cell (p := ⟨b, o, none⟩) h, fun b o h => hb.frozen (p := ⟨b, o, none⟩) h⟩

end Go.Proofs.Ytknjdkgemkmoeaa
