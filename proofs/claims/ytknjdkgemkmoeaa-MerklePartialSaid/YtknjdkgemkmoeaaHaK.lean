/- The law's lives; SameInts, SameBytes. -/
import Derived.Test.YtknjdkgemkmoeaaHaJ
namespace Go.Proofs.Ytknjdkgemkmoeaa
open Go.ChangeShapes Go.WideShapes Go.ChangeAt Go.RowKit Go.Shelf
set_option linter.unusedSimpArgs false
set_option linter.unusedVariables false

theorem bytes_new (w : World) (x y : Nat) (hx : x < 256) (hy : y < 256) :
    ByRow (w.alloc (.cells #[.int .u8 (x : Nat), .int .u8 (y : Nat)] 5)) (fun r => r < (w.alloc (.cells #[.int .u8 (x : Nat), .int .u8 (y : Nat)] 5)).heap.size) (some ⟨w.heap.size, 0, none⟩) 2 2 [x, y] := by
  refine ⟨rfl, Nat.le_refl _, by decide, ?_, fun _ => ⟨w.heap.size, 0, rfl, by simp, by simp, fun i b hi => ?_⟩⟩
  · intro b hb
    simp only [List.mem_cons, List.not_mem_nil, or_false] at hb
    rcases hb with rfl | rfl <;> assumption
  · rw [Nat.zero_add, World.cell?_alloc_new]
    have := byts_at hi
    simpa [byts] using this
theorem aLab : labL { data := #[97] } = [97] := by decide
theorem aSize : ByteArray.size { data := #[97] } ≤ 1000 := by decide
theorem beq_toNat {a b : W64} : (((a.toNat : Int)) == (b.toNat : Int)) = decide (a = b) := by
  by_cases h : a = b
  · subst h; simp
  · rw [decide_eq_false h]
    simp only [beq_eq_false_iff_ne, ne_eq]
    exact fun e => h (toNat_inj'.1 e)

end Go.Proofs.Ytknjdkgemkmoeaa
