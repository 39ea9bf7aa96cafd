/- Contracts of package fixed and of its reference: floor division. -/
import Derived.Test.YtknjdkgemkmoeaaRows
import Derived.Test.YtknjdkgemkmoeaaFixMath
import Derived.WalkKit
import Derived.ProofKit
import Derived.WalkLawsBesides
import Derived.WalkSpells
import Derived.Deep.QuietTactic
import Derived.BigQuiet
import Derived.Lib.Hide
namespace Go.Proofs.Ytknjdkgemkmoeaa
open Go.ChangeShapes Go.WideShapes Go.ChangeAt Go.RowKit
open Fxm

theorem ri {a b : Int} (h : a = b) : Ending.returned (.int .i64 a) = .returned (.int .i64 b) := by rw [h]

theorem wq {n d : Int} (h1 : -9223372036854775807 ≤ n) (h2 : n ≤ 9223372036854775807) : wrap64 (n.tdiv d) = n.tdiv d := by
  have := tdiv_bd n d 9223372036854775807 h1 h2
  exact IntWalk.wrap64_in _ ⟨by omega, by omega⟩

/-! Around, Bound, small -/
def arnd (n m : Int) : Int := (if n < 0 then -(n + 1) else n) % m
theorem arnd_bd (n : Int) {m : Int} (h : 0 < m) : 0 ≤ arnd n m ∧ arnd n m < m := by
  unfold arnd; exact ⟨Int.emod_nonneg _ (by omega), Int.emod_lt_of_pos _ h⟩

theorem around_any (n m : Int) (w : World) (h1 : -9223372036854775808 ≤ n) (h2 : n ≤ 9223372036854775807) (hm : 0 < m) :
    Calls Try.prog 14 #[.int .i64 n, .int .i64 m] w fun e w' => e = .returned (.int .i64 (arnd n m)) ∧ w = w' := by
  by_cases hn : n < 0
  · have h : arnd n m = (-(n + 1)) % m := by unfold arnd; rw [if_pos hn]
    rw [h]
    clear h
    have h3 := IntWalk.rem_in (-(n + 1)) m (by omega)
    go_enter Try.func14, Try.ntmps14
    go_wp2
    go_ret
    exact ⟨rfl, rfl⟩
  · have h : arnd n m = n % m := by unfold arnd; rw [if_neg hn]
    rw [h]
    clear h
    go_enter Try.func14, Try.ntmps14
    go_wp2
    go_ret
    exact ⟨rfl, rfl⟩

/-! Clamp, Abs, Sign -/
def clampV (n l h : Int) : Int := if n < l then l else if h < n then h else n
def absV (n : Int) : Int := if n < 0 then -n else n
def signV (n : Int) : Int := if n < 0 then -1 else if 0 < n then 1 else 0

/-! Numbers of the domain -/
theorem aroundx_any (n m : Int) (w : World) (h1 : -9223372036854775808 ≤ n) (h2 : n ≤ 9223372036854775807) (hm : 0 < m) :
    Calls Try.prog 14 #[.int .i64 n, .int .i64 m] w fun e w' => (∃ x, 0 ≤ x ∧ x < m ∧ e = .returned (.int .i64 x)) ∧ w = w' := by
  have hb := arnd_bd n (m := m) (by omega)
  exact (around_any n m w h1 h2 hm).mono fun e w' ⟨he, hw⟩ => ⟨⟨_, by omega, by omega, he⟩, hw⟩
end Go.Proofs.Ytknjdkgemkmoeaa
