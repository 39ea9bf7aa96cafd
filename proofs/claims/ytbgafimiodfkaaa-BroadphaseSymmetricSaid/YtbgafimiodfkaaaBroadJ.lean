/- The law's helpers on single boxes: moved, turned; bounded numbers. -/
import Derived.Test.YtbgafimiodfkaaaBroadH
namespace Go.Proofs.Ytbgafimiodfkaaa
open Go.ChangeShapes Go.WideShapes Go.ChangeAt Go.RowKit
open Bo
set_option linter.unusedSimpArgs false
set_option linter.unusedVariables false

set_option maxHeartbeats 2000000 in
theorem moved_any (b : Bx) (x y : Int) (w : World) (hb : Within 1099511627776 b) (hx : -1099511627776 ≤ x ∧ x ≤ 1099511627776) (hy : -1099511627776 ≤ y ∧ y ≤ 1099511627776) :
    Calls Try.prog 19 #[.agg #[.int .i64 b.x0, .int .i64 b.y0, .int .i64 b.x1, .int .i64 b.y1], .int .i64 x, .int .i64 y] w fun e w' =>
      e = .returned (.agg #[.int .i64 (b.x0 + x), .int .i64 (b.y0 + y), .int .i64 (b.x1 + x), .int .i64 (b.y1 + y)]) ∧ Below w.heap.size w w' := by
  obtain ⟨b0, b1, b2, b3⟩ := b
  obtain ⟨⟨h0, g0⟩, ⟨h1, g1⟩, ⟨h2, g2⟩, ⟨h3, g3⟩⟩ := hb
  obtain ⟨hx1, hx2⟩ := hx
  obtain ⟨hy1, hy2⟩ := hy
  simp only at *
  go_enter Try.func19, Try.ntmps19
  go_wp2
  refine bodyPost_ret (v := .agg #[.int .i64 (b0 + x), .int .i64 (b1 + y), .int .i64 (b2 + x), .int .i64 (b3 + y)]) (by simp [results, Try.results19, go_sem]) rfl ⟨rfl, ?_⟩
  exact below_two _ _ _

set_option maxHeartbeats 2000000 in
theorem turned_any (b : Bx) (w : World) :
    Calls Try.prog 20 #[.agg #[.int .i64 b.x0, .int .i64 b.y0, .int .i64 b.x1, .int .i64 b.y1]] w fun e w' =>
      e = .returned (.agg #[.int .i64 b.y0, .int .i64 b.x0, .int .i64 b.y1, .int .i64 b.x1]) ∧ Below w.heap.size w w' := by
  obtain ⟨b0, b1, b2, b3⟩ := b
  simp only
  go_enter Try.func20, Try.ntmps20
  go_wp2
  refine bodyPost_ret (v := .agg #[.int .i64 b1, .int .i64 b0, .int .i64 b3, .int .i64 b2]) (by simp [results, Try.results20, go_sem]) rfl ⟨rfl, ?_⟩
  exact below_two _ _ _
end Go.Proofs.Ytbgafimiodfkaaa
