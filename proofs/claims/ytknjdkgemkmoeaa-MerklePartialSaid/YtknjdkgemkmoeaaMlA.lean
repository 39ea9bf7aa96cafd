/- Package merkle: the height of a tree; the hash of a leaf; a node's sibling, its parent's hash. -/
import Derived.Test.YtknjdkgemkmoeaaHaL
import Derived.Test.YtknjdkgemkmoeaaMerk
import Derived.Test.YtknjdkgemkmoeaaBits
import Derived.Lib.BitFns
namespace Go.Proofs.Ytknjdkgemkmoeaa
open Go.ChangeShapes Go.WideShapes Go.ChangeAt Go.RowKit Go.Shelf
set_option linter.unusedSimpArgs false
set_option linter.unusedVariables false

/-! ## The height -/
theorem bitLen_log (x : Nat) (h0 : x ≠ 0) (h : x < 2 ^ 64) : Lib.bitLen x = x.log2 + 1 := by
  induction x using Nat.strongRecOn with
  | _ x ih =>
    rw [Lib.bitLen_half x h0 h, Nat.log2_def]
    by_cases h2 : 2 ≤ x
    · rw [if_pos h2, ih (x / 2) (by omega) (by omega) (by omega)]; omega
    · rw [if_neg h2, show x / 2 = 0 by omega]; rfl
theorem ht_bitLen (n : Nat) (hn : 1 < n) (hl : n ≤ 65536) : Lib.bitLen (n - 1) = ht n := by
  rw [bitLen_log _ (by omega) (by omega)]
  unfold ht
  rw [if_neg (by omega)]
theorem len64_any (x : Nat) (w : World) (hx : x < 65536) : Calls Try.prog 104 #[.int .u64 (x : Nat)] w fun e w' => e = .returned (.int .i64 ((Lib.bitLen x : Nat) : Int)) ∧ w' = w := by
  have h := Any.bits_Len64 Try.lenA (x : Int) w (by omega) (by omega)
  rw [Int.toNat_natCast] at h
  exact h
theorem len_any (x : Nat) (w : World) (hx : x < 65536) : Calls Try.prog 86 #[.int .u64 (x : Nat)] w fun e w' => e = .returned (.int .i64 ((Lib.bitLen x : Nat) : Int)) ∧ w' = w := by
  have K := fun w => len64_any x w hx
  generalize Lib.bitLen x = z at *
  have hK := Lib.hid K
  clear K
  go_enter Try.func86, Try.ntmps86
  go_wp2_with fail
  refine (hK.out _).mono ?_
  rintro e w1 ⟨rfl, rfl⟩
  go_wp2
  go_ret
  exact ⟨rfl, rfl⟩
theorem height_any (n : Nat) (w : World) (hn : n ≤ 65536) : Calls Try.prog 53 #[.int .i64 (n : Nat)] w fun e w' => e = .returned (.int .i64 ((ht n : Nat) : Int)) ∧ w' = w := by
  by_cases h : n ≤ 1
  · have h1 : (n : Int) ≤ 1 := by omega
    have h2 : ht n = 0 := by unfold ht; rw [if_pos h]
    rw [h2]
    clear h2
    go_enter Try.func53, Try.ntmps53
    go_wp2
    go_ret
    exact ⟨rfl, rfl⟩
  · have h1 : ¬ (n : Int) ≤ 1 := by omega
    have K := fun w => len_any (n - 1) w (by omega)
    rw [ht_bitLen n (by omega) hn] at K
    obtain ⟨m, rfl⟩ : ∃ m, n = m + 1 := ⟨n - 1, by omega⟩
    rw [Nat.add_sub_cancel] at K
    generalize ht (m + 1) = z at *
    have hK := Lib.hid K
    clear K
    go_enter Try.func53, Try.ntmps53
    go_wp2_with fail
    refine (hK.out _).mono ?_
    rintro e w1 ⟨rfl, rfl⟩
    go_wp2
    go_ret
    exact ⟨rfl, rfl⟩
theorem leafHash_any (i v : Int) (w : World) : Calls Try.prog 85 #[.int .i64 i, .int .i64 v] w fun e w' => e = .returned (.int .u64 ((leafV i v).toNat : Int)) ∧ Below w.heap.size w w' := by
  have K := sum_any { data := #[108, 101, 97, 102] } _ [i, v] _ (two_new w i v) (by decide) (by simp)
  rw [show labL { data := #[108, 101, 97, 102] } = leafLab by decide] at K
  rw [show sumW leafLab (([i, v] : List Int).map (BitVec.ofInt 64)) = leafV i v from rfl] at K
  have hB := Lib.hid (alloc_below w (.cells #[.int .i64 i, .int .i64 v] 3))
  generalize (leafV i v).toNat = r at *
  have hK := Lib.hid K
  clear K
  go_enter Try.func85, Try.ntmps85
  go_wp2_with fail
  refine (hK.out).mono ?_
  rintro e w1 ⟨rfl, hb1⟩
  go_wp2
  go_ret
  exact ⟨rfl, below_step hB.out hb1⟩
/-! ## Places -/
/-- A node's place as a value. -/
def plV (t j : Nat) : Value := .agg #[.int .i64 (t : Nat), .int .i64 (j : Nat)]
theorem sib_lt {j m : Nat} (h : j < m) : sib j < m + 1 := by unfold sib; split <;> omega
theorem xor_sib (j : Nat) (hj : j < 1000000) : bits .xor .i64 (j : Int) 1 = (sib j : Nat) := by
  have e : (BitVec.ofNat 64 j ^^^ 1#64) = BitVec.ofNat 64 (sib j) := by
    apply BitVec.eq_of_toNat_eq
    rw [BitVec.toNat_xor, BitVec.toNat_ofNat, BitVec.toNat_ofNat, BitVec.toNat_ofNat, Nat.mod_eq_of_lt (show j < 2 ^ 64 by omega), Nat.mod_eq_of_lt (show 1 < 2 ^ 64 by omega), Nat.mod_eq_of_lt (show sib j < 2 ^ 64 by have := sib_lt hj; omega)]
    apply Nat.eq_of_testBit_eq
    intro i
    rw [Nat.testBit_xor]
    cases i with
    | zero =>
      unfold sib
      simp only [Nat.testBit_zero]
      rcases Nat.mod_two_eq_zero_or_one j with h | h
      · rw [if_pos h, h, show (j + 1) % 2 = 1 by omega]; rfl
      · rw [if_neg (by omega), h, show (j - 1) % 2 = 0 by omega]; rfl
    | succ i =>
      rw [Nat.testBit_succ, Nat.testBit_succ, Nat.testBit_succ, sib_half]
      simp
  have h2 := sib_lt hj
  show IntKind.i64.wrap (((BitVec.ofInt 64 (j : Int)) ^^^ (BitVec.ofInt 64 1)).toNat : Int) = _
  rw [BitVec.ofInt_natCast, show BitVec.ofInt 64 1 = 1#64 from rfl, e, BitVec.toNat_ofNat, Nat.mod_eq_of_lt (show sib j < 2 ^ 64 by omega)]
  generalize sib j = m at *
  simp [IntKind.wrap, IntKind.bits, IntKind.signed]
  omega
theorem sibling_any (t j : Nat) (w : World) (hj : j < 1000000) : Calls Try.prog 60 #[.agg #[.int .i64 (t : Nat), .int .i64 (j : Nat)]] w fun e w' => e = .returned (.agg #[.int .i64 (t : Nat), .int .i64 (sib j : Nat)]) ∧ Below w.heap.size w w' := by
  have hx := Lib.hid (xor_sib j hj)
  go_enter Try.func60, Try.ntmps60
  go_wp2
  refine bodyPost_ret (v := .agg #[.int .i64 (t : Nat), .int .i64 (bits .xor .i64 (j : Int) 1)]) (by simp [results, Try.results60, go_sem]) rfl ⟨by rw [hx.out], ?_⟩
  repeat (first | exact Below.refl _ _ | (refine Below.setCell ?_ (by first | (simp; done) | (simp; omega) | omega) _) | (refine Below.alloc ?_ (by first | exact Nat.le_refl _ | (simp; done) | (simp; omega) | omega) _) | refine Below.drew ?_ | (refine Below.trans ?_ ((hb _).mono (by first | (simp; done) | (simp; omega) | omega))) | (refine Below.trans ?_ (hb1.mono (by first | (simp; done) | (simp; omega) | omega))))
theorem parent_any (t j : Nat) (x y : W64) (w : World) (hj : j < 1000000) : Calls Try.prog 90 #[.agg #[.int .i64 (t : Nat), .int .i64 (j : Nat)], .int .u64 (x.toNat : Int), .int .u64 (y.toNat : Int)] w fun e w' => e = .returned (.int .u64 ((parW j x y).toNat : Int)) ∧ Below w.heap.size w w' := by
  have hB := Lib.hid (alloc_below w (.cells #[.int .i64 (t : Nat), .int .i64 (j : Nat)] 99))
  by_cases h : j % 2 = 0
  · have K := fun w => pair_any x y w
    rw [show parW j x y = pairW x y from if_pos h]
    generalize ((pairW x y).toNat : Int) = z at *
    generalize (x.toNat : Int) = x1 at *
    generalize (y.toNat : Int) = y1 at *
    have hK := Lib.hid K
    clear K
    have h1 : ((j : Int) % 2 == 0) = true := by simp only [beq_iff_eq]; omega
    have h2 : (j : Int) % 2 = 0 := by omega
    clear h
    go_enter Try.func90, Try.ntmps90
    go_wp2_with fail
    refine (hK.out _).mono ?_
    rintro e w1 ⟨rfl, hb⟩
    go_wp2
    go_ret
    exact ⟨rfl, below_step hB.out hb⟩
  · have K := fun w => pair_any y x w
    rw [show parW j x y = pairW y x from if_neg h]
    generalize ((pairW y x).toNat : Int) = z at *
    generalize (x.toNat : Int) = x1 at *
    generalize (y.toNat : Int) = y1 at *
    have hK := Lib.hid K
    clear K
    have h1 : ((j : Int) % 2 == 0) = false := by simp only [beq_eq_false_iff_ne, ne_eq]; omega
    have h2 : ¬ (j : Int) % 2 = 0 := by omega
    clear h
    go_enter Try.func90, Try.ntmps90
    go_wp2_with fail
    refine (hK.out _).mono ?_
    rintro e w1 ⟨rfl, hb⟩
    go_wp2
    go_ret
    exact ⟨rfl, below_step hB.out hb⟩
end Go.Proofs.Ytknjdkgemkmoeaa
