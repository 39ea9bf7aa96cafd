/- The domain of FixedProducts, FixedRemainder and FixedNegation: 'small'. -/
import Derived.Test.YtkmajoobagbajaaFixSqrt
namespace Go.Proofs.Ytkmajoobagbajaa
open Go.ChangeShapes Go.WideShapes Go.ChangeAt Go.RowKit
open Fxm
theorem small_any (n : Int) (w : World) (h1 : -9223372036854775808 ≤ n) (h2 : n ≤ 9223372036854775807) :
    Calls Try.prog 10 #[.int .i64 n] w fun e w' => (∃ x, -2147483648 ≤ x ∧ x ≤ 2147483648 ∧ e = .returned (.int .i64 x)) ∧ w = w' := by
  go_enter Try.func10, Try.ntmps10
  go_wp2_with (go_at_call 19; refine (boundx_any _ _ _ (by omega) (by omega) (by omega) (by omega)).mono ?_; rintro e w' ⟨⟨x, hx, hy, rfl⟩, rfl⟩)
  go_ret
  exact ⟨⟨x, hx, hy, rfl⟩, rfl⟩
end Go.Proofs.Ytkmajoobagbajaa
