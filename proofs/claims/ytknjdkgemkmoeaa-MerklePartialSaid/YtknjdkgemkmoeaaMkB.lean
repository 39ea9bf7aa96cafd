/- The reference of merkle: Same, Verify. -/
import Derived.Test.YtknjdkgemkmoeaaMkA
import Derived.BigQuiet
import Derived.Deep.DeepCutAuto
import Derived.Deep.CutBlock
namespace Go.Proofs.Ytknjdkgemkmoeaa
open Go.ChangeShapes Go.WideShapes Go.ChangeAt Go.RowKit Go.Shelf
set_option linter.unusedSimpArgs false
set_option linter.unusedVariables false

/-- A row of words, by its cells. -/
theorem WL.shape {w : World} {v : Value} {l : List W64} (h : VL w v (u64s l)) : ∃ a cap, v = .slice a l.length cap ∧ l.length ≤ cap ∧ cap ≤ maxLen ∧
    (0 < l.length → ∃ h off, a = some ⟨h, off, none⟩ ∧ h < w.heap.size ∧ ∀ (i : Nat) (x : W64), l[i]? = some x → w.cell? ⟨h, off + i, none⟩ = some (.int .u64 (x.toNat : Int))) := by
  obtain ⟨a, cap, h1, h2, h3, h4⟩ := h.shape
  rw [u64s_len] at h1 h2 h4
  exact ⟨a, cap, h1, h2, h3, fun hp => let ⟨g, off, e, hg, hc⟩ := h4 hp; ⟨g, off, e, hg, fun i x hi => hc i _ (u64s_at hi)⟩⟩
abbrev lfV (i v : Int) (pv : Value) : Value := .agg #[.int .i64 i, .int .i64 v, pv]
theorem lf_cells (w : World) (i v : Int) (pv : Value) (t : TypeId) : (w.alloc (.cells #[.int .i64 i, .int .i64 v, pv] t)).cell? ⟨w.heap.size, 0, none⟩ = some (.int .i64 i) ∧
    (w.alloc (.cells #[.int .i64 i, .int .i64 v, pv] t)).cell? ⟨w.heap.size, 1, none⟩ = some (.int .i64 v) ∧ (w.alloc (.cells #[.int .i64 i, .int .i64 v, pv] t)).cell? ⟨w.heap.size, 2, none⟩ = some pv := by
  refine ⟨?_, ?_, ?_⟩ <;> rw [World.cell?_alloc_new] <;> rfl

end Go.Proofs.Ytknjdkgemkmoeaa
