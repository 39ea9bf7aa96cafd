/- Contracts of package fixed and of its reference: floor division. -/
import Derived.Test.YtihoanoanoaneaaRows
import Derived.Test.YtihoanoanoaneaaFixMath
import Derived.WalkKit
import Derived.ProofKit
import Derived.WalkLawsBesides
import Derived.WalkSpells
import Derived.Deep.QuietTactic
import Derived.BigQuiet
import Derived.Lib.Hide
namespace Go.Proofs.Ytihoanoanoaneaa
open Go.ChangeShapes Go.WideShapes Go.ChangeAt Go.RowKit
open Fxm

theorem ri {a b : Int} (h : a = b) : Ending.returned (.int .i64 a) = .returned (.int .i64 b) := by rw [h]

theorem wq {n d : Int} (h1 : -9223372036854775807 ≤ n) (h2 : n ≤ 9223372036854775807) : wrap64 (n.tdiv d) = n.tdiv d := by
  have := tdiv_bd n d 9223372036854775807 h1 h2
  exact IntWalk.wrap64_in _ ⟨by omega, by omega⟩

theorem floor_any (n d : Int) (w : World) (h1 : -9223372036854775807 ≤ n) (h2 : n ≤ 9223372036854775807) (h0 : d ≠ 0) :
    Calls Try.prog 47 #[.int .i64 n, .int .i64 d] w fun e w' => e = .returned (.int .i64 (flr n d)) ∧ w = w' := by
  have hq := wq (d := d) h1 h2
  have hb := tdiv_bd n d 9223372036854775807 h1 h2
  have hl : d < 0 ∨ 0 < d := by omega
  have hs : ((n.tmod d = 0 ∨ (n < 0 ↔ d < 0)) ∧ flr n d = n.tdiv d) ∨ (n.tmod d ≠ 0 ∧ ¬ (n < 0 ↔ d < 0) ∧ flr n d = n.tdiv d - 1) := by
    have p := tparts n d
    by_cases hn : n < 0
    · have a := tmod_np d (n := n) (by omega)
      rcases hl with hd | hd
      · exact Or.inl ⟨Or.inr ⟨fun _ => hd, fun _ => hn⟩, flr_same_n hd a⟩
      · by_cases hr : n.tmod d = 0
        · exact Or.inl ⟨Or.inl hr, flr_same_p hd (by omega)⟩
        · exact Or.inr ⟨hr, by omega, flr_down_p hd (by omega)⟩
    · have a := tmod_nn d (n := n) (by omega)
      rcases hl with hd | hd
      · by_cases hr : n.tmod d = 0
        · exact Or.inl ⟨Or.inl hr, flr_same_n hd (by omega)⟩
        · exact Or.inr ⟨hr, by omega, flr_down_n hd (by omega)⟩
      · exact Or.inl ⟨Or.inr (by omega), flr_same_p hd a⟩
  have HS := Lib.hid hs
  clear hs
  by_cases hn : n < 0 <;> by_cases hd : d < 0
  all_goals
    go_enter Try.func47, Try.ntmps47
    go_wp2
  all_goals
    go_ret
    refine ⟨ri ?_, rfl⟩
    have he : 0 ≤ n → n.tmod d = n % d := fun h => Int.tmod_eq_emod_of_nonneg h
    rcases HS.out with ⟨a, e⟩ | ⟨a, b, e⟩ <;> rw [e] <;> omega

theorem floorDiv_any (n d : Int) (w : World) (h1 : -9223372036854775807 ≤ n) (h2 : n ≤ 9223372036854775807) :
    Calls Try.prog 43 #[.int .i64 n, .int .i64 d] w fun e w' => e = .returned (.int .i64 (flr n d)) ∧ ∃ k, w' = w.drewN k := by
  by_cases h0 : d = 0
  · subst h0
    go_enter Try.func43, Try.ntmps43
    go_wp2
    go_ret
    exact ⟨ri (flr_zero n).symm, 0, rfl⟩
  · have hq := wq (d := d) h1 h2
    have hb := tdiv_bd n d 9223372036854775807 h1 h2
    have hc : (d == 0) = false := by simpa using h0
    go_enter Try.func43, Try.ntmps43
    go_wp2
    go_quiet (fail)
    go_wp2
    all_goals
      go_ret
      refine ⟨ri ?_, _, rfl⟩
      first
        | exact (flr_down_p (by omega) (by omega)).symm
        | exact (flr_down_n (by omega) (by omega)).symm
        | exact (flr_same_p (by omega) (by omega)).symm
        | exact (flr_same_n (by omega) (by omega)).symm
        | (rcases (show d < 0 ∨ 0 < d by omega) with hd | hd <;> first | exact (flr_same_n hd (by omega)).symm | exact (flr_same_p hd (by omega)).symm)


theorem refMul_any (a b : Int) (w : World) (h1 : -4611686018427387904 ≤ a * b) (h2 : a * b ≤ 4611686018427387904) :
    Calls Try.prog 36 #[.int .i64 a, .int .i64 b] w fun e w' => e = .returned (.int .i64 (flr (a * b) 1024)) ∧ w = w' := by
  go_enter Try.func36, Try.ntmps36
  go_wp2_with (go_at_call 47; refine (floor_any _ _ _ (by omega) (by omega) (by omega)).mono ?_; rintro e w' ⟨rfl, rfl⟩)
  go_ret
  exact ⟨rfl, rfl⟩

theorem mul_any (a b : Int) (w : World) (h1 : -4611686018427387904 ≤ a * b) (h2 : a * b ≤ 4611686018427387904) :
    Calls Try.prog 28 #[.int .i64 a, .int .i64 b] w fun e w' => e = .returned (.int .i64 (flr (a * b) 1024)) ∧ ∃ k, w' = w.drewN k := by
  go_enter Try.func28, Try.ntmps28
  go_wp2_with (go_at_call 43; refine (floorDiv_any _ _ _ (by omega) (by omega)).mono ?_; rintro e w' ⟨rfl, k, rfl⟩)
  go_ret
  exact ⟨rfl, _, rfl⟩

theorem refMulDiv_any (a b c : Int) (w : World) (h1 : -4611686018427387904 ≤ a * b) (h2 : a * b ≤ 4611686018427387904) :
    Calls Try.prog 34 #[.int .i64 a, .int .i64 b, .int .i64 c] w fun e w' => e = .returned (.int .i64 (flr (a * b) c)) ∧ w = w' := by
  by_cases hb : c = 0
  · subst hb
    go_enter Try.func34, Try.ntmps34
    go_wp2
    go_ret
    exact ⟨ri (flr_zero _).symm, rfl⟩
  · have hc : (c == 0) = false := by simpa using hb
    go_enter Try.func34, Try.ntmps34
    go_wp2_with (go_at_call 47; refine (floor_any _ _ _ (by omega) (by omega) (by omega)).mono ?_; rintro e w' ⟨rfl, rfl⟩)
    go_ret
    exact ⟨rfl, rfl⟩

theorem mulDiv_any (a b c : Int) (w : World) (h1 : -4611686018427387904 ≤ a * b) (h2 : a * b ≤ 4611686018427387904) :
    Calls Try.prog 26 #[.int .i64 a, .int .i64 b, .int .i64 c] w fun e w' => e = .returned (.int .i64 (flr (a * b) c)) ∧ ∃ k, w' = w.drewN k := by
  go_enter Try.func26, Try.ntmps26
  go_wp2_with (go_at_call 43; refine (floorDiv_any _ _ _ (by omega) (by omega)).mono ?_; rintro e w' ⟨rfl, k, rfl⟩)
  go_ret
  exact ⟨rfl, _, rfl⟩

/-! Around, Bound, small -/
def arnd (n m : Int) : Int := (if n < 0 then -(n + 1) else n) % m
theorem arnd_bd (n : Int) {m : Int} (h : 0 < m) : 0 ≤ arnd n m ∧ arnd n m < m := by
  unfold arnd; exact ⟨Int.emod_nonneg _ (by omega), Int.emod_lt_of_pos _ h⟩

theorem around_any (n m : Int) (w : World) (h1 : -9223372036854775808 ≤ n) (h2 : n ≤ 9223372036854775807) (hm : 0 < m) :
    Calls Try.prog 11 #[.int .i64 n, .int .i64 m] w fun e w' => e = .returned (.int .i64 (arnd n m)) ∧ w = w' := by
  by_cases hn : n < 0
  · have h : arnd n m = (-(n + 1)) % m := by unfold arnd; rw [if_pos hn]
    rw [h]
    clear h
    have h3 := IntWalk.rem_in (-(n + 1)) m (by omega)
    go_enter Try.func11, Try.ntmps11
    go_wp2
    go_ret
    exact ⟨rfl, rfl⟩
  · have h : arnd n m = n % m := by unfold arnd; rw [if_neg hn]
    rw [h]
    clear h
    go_enter Try.func11, Try.ntmps11
    go_wp2
    go_ret
    exact ⟨rfl, rfl⟩

theorem bound_any (n m : Int) (w : World) (h1 : -9223372036854775808 ≤ n) (h2 : n ≤ 9223372036854775807) (hm : 0 ≤ m) (hM : m ≤ 2305843009213693952) :
    Calls Try.prog 22 #[.int .i64 n, .int .i64 m] w fun e w' => e = .returned (.int .i64 (arnd n (2 * m + 1) - m)) ∧ w = w' := by
  have hb := arnd_bd n (m := 2 * m + 1) (by omega)
  go_enter Try.func22, Try.ntmps22
  go_wp2_with (go_at_call 11; refine (around_any _ _ _ (by omega) (by omega) (by omega)).mono ?_; rintro e w' ⟨rfl, rfl⟩)
  go_ret
  exact ⟨rfl, rfl⟩

/-! Clamp, Abs, Sign -/
def clampV (n l h : Int) : Int := if n < l then l else if h < n then h else n
def absV (n : Int) : Int := if n < 0 then -n else n
def signV (n : Int) : Int := if n < 0 then -1 else if 0 < n then 1 else 0

theorem clamp_any (n l h : Int) (w : World) :
    Calls Try.prog 51 #[.int .i64 n, .int .i64 l, .int .i64 h] w fun e w' => e = .returned (.int .i64 (clampV n l h)) ∧ w = w' := by
  by_cases h1 : n < l
  · have e : clampV n l h = l := by unfold clampV; rw [if_pos h1]
    rw [e]; clear e
    go_enter Try.func51, Try.ntmps51
    go_wp2
    go_ret
    exact ⟨rfl, rfl⟩
  · by_cases h2 : h < n
    · have e : clampV n l h = h := by unfold clampV; rw [if_neg h1, if_pos h2]
      rw [e]; clear e
      go_enter Try.func51, Try.ntmps51
      go_wp2
      go_ret
      exact ⟨rfl, rfl⟩
    · have e : clampV n l h = n := by unfold clampV; rw [if_neg h1, if_neg h2]
      rw [e]; clear e
      go_enter Try.func51, Try.ntmps51
      go_wp2
      go_ret
      exact ⟨rfl, rfl⟩

theorem refClamp_any (n l h : Int) (w : World) :
    Calls Try.prog 49 #[.int .i64 n, .int .i64 l, .int .i64 h] w fun e w' => e = .returned (.int .i64 (clampV n l h)) ∧ w = w' := by
  by_cases h1 : n < l
  · have e : clampV n l h = l := by unfold clampV; rw [if_pos h1]
    rw [e]; clear e
    go_enter Try.func49, Try.ntmps49
    go_wp2
    go_ret
    exact ⟨rfl, rfl⟩
  · by_cases h2 : h < n
    · have e : clampV n l h = h := by unfold clampV; rw [if_neg h1, if_pos h2]
      rw [e]; clear e
      go_enter Try.func49, Try.ntmps49
      go_wp2
      go_ret
      exact ⟨rfl, rfl⟩
    · have e : clampV n l h = n := by unfold clampV; rw [if_neg h1, if_neg h2]
      rw [e]; clear e
      go_enter Try.func49, Try.ntmps49
      go_wp2
      go_ret
      exact ⟨rfl, rfl⟩

/-! Numbers of the domain -/
theorem boundx_any (n m : Int) (w : World) (h1 : -9223372036854775808 ≤ n) (h2 : n ≤ 9223372036854775807) (hm : 0 ≤ m) (hM : m ≤ 2305843009213693952) :
    Calls Try.prog 22 #[.int .i64 n, .int .i64 m] w fun e w' => (∃ x, -m ≤ x ∧ x ≤ m ∧ e = .returned (.int .i64 x)) ∧ w = w' := by
  have hb := arnd_bd n (m := 2 * m + 1) (by omega)
  exact (bound_any n m w h1 h2 hm hM).mono fun e w' ⟨he, hw⟩ => ⟨⟨_, by omega, by omega, he⟩, hw⟩
theorem aroundx_any (n m : Int) (w : World) (h1 : -9223372036854775808 ≤ n) (h2 : n ≤ 9223372036854775807) (hm : 0 < m) :
    Calls Try.prog 11 #[.int .i64 n, .int .i64 m] w fun e w' => (∃ x, 0 ≤ x ∧ x < m ∧ e = .returned (.int .i64 x)) ∧ w = w' := by
  have hb := arnd_bd n (m := m) (by omega)
  exact (around_any n m w h1 h2 hm).mono fun e w' ⟨he, hw⟩ => ⟨⟨_, by omega, by omega, he⟩, hw⟩
end Go.Proofs.Ytihoanoanoaneaa
