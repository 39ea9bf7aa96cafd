/- The reference's shapes: outlines, turned polygons, shapes made of a number. -/
import Derived.Test.YtfbgghkkgmgnjaaVecC
import Derived.Test.YtfbgghkkgmgnjaaMadeAlloc
import Derived.Test.YtfbgghkkgmgnjaaLawKit
import Derived.Deep.AppendLies
import Derived.OwnWalk
import Derived.WalkSpells
import Derived.Deep.RegionHeld3
namespace Go.Proofs.Ytfbgghkkgmgnjaa
open Go.ChangeShapes Go.WideShapes Go.ChangeAt Go.RowKit
open Fxm
set_option linter.unusedSimpArgs false
set_option linter.unusedVariables false

/-- The cells of a row of vectors. -/
def flatV : List (Int × Int) → List Value
  | [] => []
  | p :: l => .int .i64 p.1 :: .int .i64 p.2 :: flatV l
def outl : Nat → List (Int × Int)
  | 0 => [(-1, -1), (1, -1), (0, 1)]
  | 1 => [(-1, -1), (1, -1), (1, 1), (-1, 1)]
  | 2 => [(0, -1), (1, 0), (0, 1), (-1, 0)]
  | 3 => [(-2, -2), (2, -2), (3, 1), (0, 3), (-3, 1)]
  | 4 => [(2, 0), (1, 2), (-1, 2), (-2, 0), (-1, -2), (1, -2)]
  | _ => [(-3, -1), (3, -1), (1, 2), (-1, 2)]

set_option maxRecDepth 100000 in
set_option maxHeartbeats 2000000 in
theorem outlines_any (w : World) :
    Calls Try.prog 36 #[] w fun e w' => (∃ (B : Nat) (bs : Nat → Nat), e = .returned (.slice (some ⟨B, 0, none⟩) 6 6) ∧
      ∀ j, j < 6 → w'.cell? ⟨B, j, none⟩ = some (.slice (some ⟨bs j, 0, none⟩) (outl j).length (outl j).length) ∧ w'.heap[bs j]? = some (.cells (flatV (outl j)).toArray 28)) ∧ Below w.heap.size w w' := by
  go_enter Try.func36, Try.ntmps36
  go_wp2
  go_ret
  refine ⟨⟨w.heap.size + 6, fun j => w.heap.size + j, by simp, fun j hj => ?_⟩, ?_⟩
  · match j, hj with
    | 0, _ => exact ⟨by rw [heap_cell (cs := #[.slice (some ⟨w.heap.size + 0, 0, none⟩) 3 3, .slice (some ⟨w.heap.size + 1, 0, none⟩) 4 4, .slice (some ⟨w.heap.size + 2, 0, none⟩) 4 4, .slice (some ⟨w.heap.size + 3, 0, none⟩) 5 5, .slice (some ⟨w.heap.size + 4, 0, none⟩) 6 6, .slice (some ⟨w.heap.size + 5, 0, none⟩) 4 4]) (t := 23) (by simp only [heap_alloc_at, World.size_alloc]; simp)]; rfl, by (simp only [heap_alloc_at, World.size_alloc]); (simp [outl, flatV]); all_goals (repeat rw [if_neg (by omega)])⟩
    | 1, _ => exact ⟨by rw [heap_cell (cs := #[.slice (some ⟨w.heap.size + 0, 0, none⟩) 3 3, .slice (some ⟨w.heap.size + 1, 0, none⟩) 4 4, .slice (some ⟨w.heap.size + 2, 0, none⟩) 4 4, .slice (some ⟨w.heap.size + 3, 0, none⟩) 5 5, .slice (some ⟨w.heap.size + 4, 0, none⟩) 6 6, .slice (some ⟨w.heap.size + 5, 0, none⟩) 4 4]) (t := 23) (by simp only [heap_alloc_at, World.size_alloc]; simp)]; rfl, by (simp only [heap_alloc_at, World.size_alloc]); (simp [outl, flatV]); all_goals (repeat rw [if_neg (by omega)])⟩
    | 2, _ => exact ⟨by rw [heap_cell (cs := #[.slice (some ⟨w.heap.size + 0, 0, none⟩) 3 3, .slice (some ⟨w.heap.size + 1, 0, none⟩) 4 4, .slice (some ⟨w.heap.size + 2, 0, none⟩) 4 4, .slice (some ⟨w.heap.size + 3, 0, none⟩) 5 5, .slice (some ⟨w.heap.size + 4, 0, none⟩) 6 6, .slice (some ⟨w.heap.size + 5, 0, none⟩) 4 4]) (t := 23) (by simp only [heap_alloc_at, World.size_alloc]; simp)]; rfl, by (simp only [heap_alloc_at, World.size_alloc]); (simp [outl, flatV]); all_goals (repeat rw [if_neg (by omega)])⟩
    | 3, _ => exact ⟨by rw [heap_cell (cs := #[.slice (some ⟨w.heap.size + 0, 0, none⟩) 3 3, .slice (some ⟨w.heap.size + 1, 0, none⟩) 4 4, .slice (some ⟨w.heap.size + 2, 0, none⟩) 4 4, .slice (some ⟨w.heap.size + 3, 0, none⟩) 5 5, .slice (some ⟨w.heap.size + 4, 0, none⟩) 6 6, .slice (some ⟨w.heap.size + 5, 0, none⟩) 4 4]) (t := 23) (by simp only [heap_alloc_at, World.size_alloc]; simp)]; rfl, by (simp only [heap_alloc_at, World.size_alloc]); (simp [outl, flatV]); all_goals (repeat rw [if_neg (by omega)])⟩
    | 4, _ => exact ⟨by rw [heap_cell (cs := #[.slice (some ⟨w.heap.size + 0, 0, none⟩) 3 3, .slice (some ⟨w.heap.size + 1, 0, none⟩) 4 4, .slice (some ⟨w.heap.size + 2, 0, none⟩) 4 4, .slice (some ⟨w.heap.size + 3, 0, none⟩) 5 5, .slice (some ⟨w.heap.size + 4, 0, none⟩) 6 6, .slice (some ⟨w.heap.size + 5, 0, none⟩) 4 4]) (t := 23) (by simp only [heap_alloc_at, World.size_alloc]; simp)]; rfl, by (simp only [heap_alloc_at, World.size_alloc]); (simp [outl, flatV]); all_goals (repeat rw [if_neg (by omega)])⟩
    | 5, _ => exact ⟨by rw [heap_cell (cs := #[.slice (some ⟨w.heap.size + 0, 0, none⟩) 3 3, .slice (some ⟨w.heap.size + 1, 0, none⟩) 4 4, .slice (some ⟨w.heap.size + 2, 0, none⟩) 4 4, .slice (some ⟨w.heap.size + 3, 0, none⟩) 5 5, .slice (some ⟨w.heap.size + 4, 0, none⟩) 6 6, .slice (some ⟨w.heap.size + 5, 0, none⟩) 4 4]) (t := 23) (by simp only [heap_alloc_at, World.size_alloc]; simp)]; rfl, by (simp only [heap_alloc_at, World.size_alloc]); (simp [outl, flatV]); all_goals (repeat rw [if_neg (by omega)])⟩
  · repeat (first | exact Below.refl _ _ | (refine Below.setCell ?_ (by first | (simp; done) | (simp; omega) | omega) _) | (refine Below.alloc ?_ (by first | exact Nat.le_refl _ | (simp; done) | (simp; omega) | omega) _) | refine Below.drew ?_ | (refine Below.trans ?_ ((hb _).mono (by first | (simp; done) | (simp; omega) | omega))) | (refine Below.trans ?_ (hb1.mono (by first | (simp; done) | (simp; omega) | omega))))
end Go.Proofs.Ytfbgghkkgmgnjaa
