/- Package resolve: the section's example. -/
import Derived.Test.YtihoanoanoaneaaResD
namespace Go.Proofs.Ytihoanoanoaneaa
open Go.ChangeShapes Go.WideShapes Go.ChangeAt Go.RowKit
open Fxm
set_option linter.unusedSimpArgs false
set_option linter.unusedVariables false

set_option maxHeartbeats 4000000 in
set_option maxRecDepth 100000 in
theorem lives7_any (w : World) : Calls Try.prog 14 #[] w fun e w' => e = .returned (.bool true) ∧ Below w.heap.size w w' := by
  have k := fun w => resolve_any ⟨0, 0, 100, 0, 1024⟩ ⟨90, 0, -100, 0, 1024⟩ 1024 0 10 1024 w ⟨by simp only; omega, by simp only; omega, by simp only; omega, by simp only; omega, by simp only; omega⟩ ⟨by simp only; omega, by simp only; omega, by simp only; omega, by simp only; omega, by simp only; omega⟩ (by omega) (by omega) (by omega) (by omega) ⟨-5, 0, -100, 0, 1024⟩ ⟨95, 0, 100, 0, 1024⟩ (by kernel_rfl) (by kernel_rfl)
  simp only at k
  have hk := Lib.hid k
  clear k
  go_enter Try.func14, Try.ntmps14
  go_wp2_with fail
  refine (hk.out _).mono ?_
  rintro e w1 ⟨rfl, hb1⟩
  have hB := below_step (below_step (alloc_below w (motO 26 ⟨0, 0, 100, 0, 1024⟩)) (alloc_below _ (motO 26 ⟨90, 0, -100, 0, 1024⟩))) hb1
  have hB' := Lib.hid hB
  clear hB hb1
  go_wp2
  go_ret
  exact ⟨rfl, below_step hB'.out (below_step (alloc_below _ _) (alloc_below _ _))⟩
end Go.Proofs.Ytihoanoanoaneaa
