/- Contracts of package fixed and of its reference: integer square roots. -/
import Derived.Test.YtfbgghkkgmgnjaaFixed
import Derived.Deep.LoopGhost
namespace Go.Proofs.Ytfbgghkkgmgnjaa
open Go.ChangeShapes Go.WideShapes Go.ChangeAt Go.RowKit
open Fxm
set_option linter.unusedVariables false

/-- The bisection's state: low and high enclose the root. -/
structure Bis (n l h : Int) : Prop where
  l0 : 0 ≤ l
  lh : l < h
  hM : h ≤ 2147483649
  ll : l * l ≤ n
  hh : n < h * h

theorem Bis.start {n : Int} (h0 : 0 ≤ n) (h1 : n ≤ 4611686018427387904) : Bis n 0 2147483649 :=
  ⟨by omega, by omega, by omega, by omega, by omega⟩
theorem Bis.mid {n l h : Int} (b : Bis n l h) (hg : 1 < h - l) : l < l + (h - l) / 2 ∧ l + (h - l) / 2 < h := by omega
theorem Bis.sqb {n l h : Int} (b : Bis n l h) (hg : 1 < h - l) :
    0 ≤ (l + (h - l) / 2) * (l + (h - l) / 2) ∧ (l + (h - l) / 2) * (l + (h - l) / 2) ≤ 4611686022722355201 := by
  obtain ⟨m1, m2⟩ := b.mid hg
  have := b.l0
  have := b.hM
  have e : (2147483649 : Int) * 2147483649 = 4611686022722355201 := by decide
  exact ⟨Int.mul_nonneg (by omega) (by omega), by rw [← e]; exact sq_le (by omega) (by omega)⟩
theorem Bis.up {n l h : Int} (b : Bis n l h) (hg : 1 < h - l) (hm : (l + (h - l) / 2) * (l + (h - l) / 2) ≤ n) : Bis n (l + (h - l) / 2) h := by
  obtain ⟨m1, m2⟩ := b.mid hg
  exact ⟨by have := b.l0; omega, m2, b.hM, hm, b.hh⟩
theorem Bis.down {n l h : Int} (b : Bis n l h) (hg : 1 < h - l) (hm : n < (l + (h - l) / 2) * (l + (h - l) / 2)) : Bis n l (l + (h - l) / 2) := by
  obtain ⟨m1, m2⟩ := b.mid hg
  exact ⟨b.l0, m1, by have := b.hM; omega, b.ll, hm⟩
theorem Bis.done {n l h : Int} (b : Bis n l h) (hg : ¬ 1 < h - l) : l = isq n := by
  have e : h = l + 1 := by have := b.lh; omega
  have := b.hh
  rw [e] at this
  exact (isq_unique b.l0 b.ll this).symm

theorem refIsqrt_any (n : Int) (w : World) (h1 : n ≤ 4611686018427387904) :
    Calls Try.prog 95 #[.int .i64 n] w fun e w' => e = .returned (.int .i64 (isq n)) ∧ w = w' := by
  by_cases hn : n < 0
  · have h := isq_neg hn
    rw [h]; clear h
    go_enter Try.func95, Try.ntmps95
    go_wp2
    go_ret
    exact ⟨rfl, rfl⟩
  · go_enter Try.func95, Try.ntmps95
    go_wp2
    go_loop [3, 4] (fun a b => ∃ l h : Int, a = .int .i64 l ∧ b = .int .i64 h ∧ Bis n l h) (fun a b => (intOf b - intOf a).toNat)
    case atStart => exact ⟨_, _, rfl, rfl, Bis.start (by omega) h1⟩
    case round =>
      obtain ⟨l, h, rfl, rfl, b⟩ := hrel
      have l0 := b.l0
      have lh := b.lh
      have hM := b.hM
      by_cases hg : 1 < h - l
      · obtain ⟨sq0, sq1⟩ := b.sqb hg
        obtain ⟨m1, m2⟩ := b.mid hg
        by_cases hm : (l + (h - l) / 2) * (l + (h - l) / 2) ≤ n
        · have B := Lib.hid (b.up hg hm)
          clear b
          go_wp2
          go_round
          case rel => exact ⟨_, _, rfl, rfl, B.out⟩
          case measure => simp [intOf]; omega
        · have B := Lib.hid (b.down hg (by omega))
          clear b
          go_wp2
          go_round
          case rel => exact ⟨_, _, rfl, rfl, B.out⟩
          case measure => simp [intOf]; omega
      · have B := Lib.hid (b.done hg)
        clear b
        go_wp2
        go_ret
        exact ⟨ri B.out, rfl⟩

/-- The square of the binary digit that is asked next, with j digits still to come; 0 at the end. -/
def sqv : Nat → Int
  | 0 => 0
  | j + 1 => 2 ^ j * 2 ^ j
theorem sqv_div (j : Nat) : sqv (j + 1) / 4 = sqv j := by
  cases j with
  | zero => rfl
  | succ j =>
    show (2 : Int) ^ (j + 1) * 2 ^ (j + 1) / 4 = 2 ^ j * 2 ^ j
    have e : (2 : Int) ^ (j + 1) * 2 ^ (j + 1) = 2 ^ j * 2 ^ j * 4 := by
      rw [Int.pow_succ]
      generalize (2 : Int) ^ j = d
      rw [Int.mul_comm d 2, Int.mul_assoc, Int.mul_left_comm d 2 d]
      generalize d * d = q
      omega
    omega
theorem sqx (a b : Int) : (a + b) * (a + b) = a * a + 2 * (a * b) + b * b := by
  rw [Int.add_mul, Int.mul_add, Int.mul_add, Int.mul_comm b a]; omega

/-- The state of the root that is found digit by digit: p is what is found so far, g digits are still to come. -/
def Dig (n : Int) (g : Nat) (x y : Int) : Prop :=
  ∃ p : Int, 0 ≤ p ∧ p + 2 ^ g ≤ 4294967296 ∧ x = p * 2 ^ g ∧ y = n - p * p ∧ p * p ≤ n ∧ n < (p + 2 ^ g) * (p + 2 ^ g)

theorem two_pow_le (g : Nat) (h : g ≤ 30) : 1 ≤ (2 : Int) ^ g ∧ (2 : Int) ^ g ≤ 1073741824 := by
  have h1 : 2 ^ g ≤ 2 ^ 30 := Nat.pow_le_pow_right (by omega) h
  have h2 : 1 ≤ 2 ^ g := Nat.one_le_two_pow
  have e : ((2 ^ g : Nat) : Int) = (2 : Int) ^ g := by simp
  omega

theorem Dig.start {n : Int} (h0 : 0 ≤ n) (h1 : n ≤ 4611686018427387904) : Dig n 32 0 n :=
  ⟨0, by omega, by decide, by omega, by omega, by omega, by have e : ((0 : Int) + 2 ^ 32) * (0 + 2 ^ 32) = 18446744073709551616 := (by decide); omega⟩
theorem Dig.done {n x y : Int} (d : Dig n 0 x y) : x = isq n := by
  obtain ⟨p, p0, _, hx, _, h1, h2⟩ := d
  have e : (2 : Int) ^ 0 = 1 := by decide
  rw [e] at hx h2
  rw [hx, Int.mul_one]
  exact (isq_unique p0 h1 h2).symm

theorem Dig.bd {n x y : Int} {g : Nat} (hg : g ≤ 31) (h1 : n ≤ 4611686018427387904) (d : Dig n (g + 1) x y) :
    0 ≤ x ∧ 0 < sqv (g + 1) ∧ x + sqv (g + 1) ≤ 9000000000000000000 ∧ 0 ≤ y ∧ y ≤ 4611686018427387904 := by
  obtain ⟨p, p0, pM, hx, hy, hp, h2⟩ := d
  have pp := Int.mul_nonneg p0 p0
  refine ⟨?_, ?_, ?_, by omega, by omega⟩
  · rw [hx]; exact Int.mul_nonneg p0 (Int.le_of_lt (Int.pow_pos (by omega)))
  · show 0 < (2 : Int) ^ g * 2 ^ g
    exact Int.mul_pos (Int.pow_pos (by omega)) (Int.pow_pos (by omega))
  · by_cases e : g = 31
    · subst e
      have e2 : (2 : Int) ^ (31 + 1) = 4294967296 := by decide
      have e3 : sqv (31 + 1) = 4611686018427387904 := by decide
      rw [e2] at pM hx
      rw [e3]
      omega
    · have q := two_pow_le g (by omega)
      have hp2 : p < 2147483649 := lt_of_sq (by omega) (by omega)
      have a := Int.mul_le_mul (show p ≤ 2147483648 by omega) q.2 (by omega) (by omega)
      have b := Int.mul_le_mul q.2 q.2 (by omega) (by omega)
      have e2 : x = 2 * (p * 2 ^ g) := by rw [hx, Int.pow_succ, ← Int.mul_assoc]; omega
      have e3 : sqv (g + 1) = 2 ^ g * 2 ^ g := rfl
      rw [e2, e3]
      omega

theorem Dig.no {n x y : Int} {g : Nat} (d : Dig n (g + 1) x y) (ht : y < x + sqv (g + 1)) : Dig n g (x / 2) y := by
  obtain ⟨p, p0, pM, hx, hy, hp, h2⟩ := d
  have e2 : x = 2 * (p * 2 ^ g) := by rw [hx, Int.pow_succ, ← Int.mul_assoc]; omega
  have e3 : sqv (g + 1) = 2 ^ g * 2 ^ g := rfl
  have e4 : (2 : Int) ^ (g + 1) = 2 ^ g * 2 := Int.pow_succ ..
  have q : 0 < (2 : Int) ^ g := Int.pow_pos (by omega)
  refine ⟨p, p0, by omega, by omega, hy, hp, ?_⟩
  rw [sqx]; omega

theorem Dig.yes {n x y : Int} {g : Nat} (d : Dig n (g + 1) x y) (ht : x + sqv (g + 1) ≤ y) : Dig n g (x / 2 + sqv (g + 1)) (y - (x + sqv (g + 1))) := by
  obtain ⟨p, p0, pM, hx, hy, hp, h2⟩ := d
  have e2 : x = 2 * (p * 2 ^ g) := by rw [hx, Int.pow_succ, ← Int.mul_assoc]; omega
  have e3 : sqv (g + 1) = 2 ^ g * 2 ^ g := rfl
  have e4 : (2 : Int) ^ (g + 1) = 2 ^ g * 2 := Int.pow_succ ..
  have q : 0 < (2 : Int) ^ g := Int.pow_pos (by omega)
  have e5 := sqx p (2 ^ g)
  refine ⟨p + 2 ^ g, by omega, by omega, ?_, by omega, by omega, ?_⟩
  · rw [Int.add_mul]; omega
  · have e6 : p + 2 ^ g + 2 ^ g = p + 2 ^ (g + 1) := by omega
    rw [e6]; exact h2

theorem isqrt_any (n : Int) (w : World) (h1 : n ≤ 4611686018427387904) :
    Calls Try.prog 96 #[.int .i64 n] w fun e w' => e = .returned (.int .i64 (isq n)) ∧ w = w' := by
  by_cases hn : n < 0
  · have h := isq_neg hn
    rw [h]; clear h
    go_enter Try.func96, Try.ntmps96
    go_wp2
    go_step3
    go_wp2
    rw [Exit.noGoto_ret]
    go_ret
    exact ⟨rfl, rfl⟩
  · go_enter Try.func96, Try.ntmps96
    go_wp2
    go_step3
    go_wp2
    go_step3
    go_wp2
    go_loopg [3, 4, 5] 32 (fun g a b c wr => ∃ x y : Int, wr = w ∧ g ≤ 32 ∧ a = .int .i64 x ∧ b = .int .i64 y ∧ c = .int .i64 (sqv g) ∧ Dig n g x y)
    case atStart => exact ⟨0, n, rfl, by omega, rfl, rfl, rfl, Dig.start (by omega) h1⟩
    case round =>
      obtain ⟨x, y, rfl, hg, rfl, rfl, rfl, D⟩ := hrel
      cases gk with
      | zero =>
        have B := Lib.hid D.done
        clear D
        have e : sqv 0 = 0 := rfl
        rw [e]
        go_wp2
        rw [Exit.noGoto_ret]
        go_ret
        exact ⟨ri B.out, rfl⟩
      | succ g =>
        obtain ⟨hx, hs, hxs, hy, hy2⟩ := D.bd (by omega) h1
        have HD := Lib.hid (sqv_div g)
        by_cases ht : y < x + sqv (g + 1)
        · have B := Lib.hid (D.no ht)
          clear D
          go_wp2
          go_roundg g
          case measure => omega
          case rel => exact ⟨_, _, rfl, by omega, rfl, rfl, by rw [HD.out], B.out⟩
        · have B := Lib.hid (D.yes (by omega))
          clear D
          go_wp2
          go_roundg g
          case measure => omega
          case rel => exact ⟨_, _, rfl, by omega, rfl, rfl, by rw [HD.out], B.out⟩

theorem grown_drewN {W w : World} (h : Grown W w) (k : Nat) : Grown W (w.drewN k) := h
end Go.Proofs.Ytfbgghkkgmgnjaa
