/- The reference's shapes made of a number. -/
import Derived.Test.YtknjdkgemkmoeaaShapeRefB
namespace Go.Proofs.Ytknjdkgemkmoeaa
open Go.ChangeShapes Go.WideShapes Go.ChangeAt Go.RowKit
open Fxm
set_option linter.unusedSimpArgs false
set_option linter.unusedVariables false

def scaleV (s : Int) (vs : List (Int × Int)) : List (Int × Int) := vs.map fun p => (s * p.1, s * p.2)
/-- The polygons that are generated: an outline, scaled and turned. -/
def Made (vs : List (Int × Int)) : Prop := ∃ j k s, j < 6 ∧ 1 ≤ s ∧ s ≤ 10000 ∧ k < (outl j).length ∧ vs = (scaleV s (outl j)).drop k ++ (scaleV s (outl j)).take k

theorem outl_len (j : Nat) : 3 ≤ (outl j).length ∧ (outl j).length ≤ 6 := by
  match j with
  | 0 => decide
  | 1 => decide
  | 2 => decide
  | 3 => decide
  | 4 => decide
  | _ + 5 => simp [outl]
theorem outl_prod {s x : Int} (h1 : 1 ≤ s) (h2 : s ≤ 10000) (h3 : -3 ≤ x) (h4 : x ≤ 3) : -30000 ≤ s * x ∧ s * x ≤ 30000 := by
  have := prod_bd (a := s) (b := x) (A := 10000) (B := 3) (by omega) (by omega) (by omega) h2 h3 h4
  omega
theorem outl_bd (j : Nat) : ∀ p ∈ outl j, (-3 ≤ p.1 ∧ p.1 ≤ 3) ∧ (-3 ≤ p.2 ∧ p.2 ≤ 3) := by
  match j with
  | 0 => decide
  | 1 => decide
  | 2 => decide
  | 3 => decide
  | 4 => decide
  | _ + 5 => simp [outl]
theorem flatV_at : ∀ (vs : List (Int × Int)) (i : Nat) (h : i < vs.length), (flatV vs)[i * 2]? = some (.int .i64 (vs[i]).1) ∧ (flatV vs)[i * 2 + 1]? = some (.int .i64 (vs[i]).2)
  | p :: l, 0, _ => ⟨rfl, rfl⟩
  | p :: l, i + 1, h => by
    have := flatV_at l i (by simpa using h)
    rw [show (i + 1) * 2 = i * 2 + 1 + 1 by omega]
    simpa [flatV] using this
theorem scaleV_take (s : Int) (vs : List (Int × Int)) (c : Nat) (h : c < vs.length) : flatV (scaleV s (vs.take (c + 1))) = flatV (scaleV s (vs.take c)) ++ [.int .i64 (s * (vs[c]).1), .int .i64 (s * (vs[c]).2)] := by
  rw [List.take_succ_eq_append_getElem h]
  unfold scaleV
  rw [List.map_append, flatV_append]
  rfl

end Go.Proofs.Ytknjdkgemkmoeaa
