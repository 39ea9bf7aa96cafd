/- Package hash64: mixing; the reference's; the word of a group of bytes. -/
import Derived.Test.YtknjdkgemkmoeaaHash
import Derived.Test.YtknjdkgemkmoeaaMade
import Derived.Test.YtknjdkgemkmoeaaLawKit
import Derived.WalkKit
import Derived.Lib.Hide
import Derived.BigQuiet
namespace Go.Proofs.Ytknjdkgemkmoeaa
open Go.ChangeShapes Go.WideShapes Go.ChangeAt Go.RowKit
set_option linter.unusedSimpArgs false
set_option linter.unusedVariables false

theorem bits_xor (a b : W64) : bits .xor .u64 (a.toNat : Int) (b.toNat : Int) = ((a ^^^ b).toNat : Int) := u64_xor a b
theorem div_word (a : W64) : (a.toNat : Int) / (4294967296 : Int) = ((a >>> 32).toNat : Int) := by
  rw [← u64_shr, Int.fdiv_eq_ediv_of_nonneg _ (by decide)]
theorem mix_any (s x : W64) (w : World) : Calls Try.prog 84 #[.int .u64 (s.toNat : Int), .int .u64 (x.toNat : Int)] w fun e w' => e = .returned (.int .u64 ((mix s x).toNat : Int)) ∧ w = w' := by
  go_enter Try.func84, Try.ntmps84
  go_wp2
  go_ret
  refine ⟨?_, rfl⟩
  simp only [bits_xor, u64_mulK, div_word]
  rfl
theorem refMix_any (s x : W64) (w : World) : Calls Try.prog 109 #[.int .u64 (s.toNat : Int), .int .u64 (x.toNat : Int)] w fun e w' => e = .returned (.int .u64 ((mix s x).toNat : Int)) ∧ w = w' := by
  go_enter Try.func109, Try.ntmps109
  go_wp2
  go_ret
  refine ⟨?_, rfl⟩
  simp only [bits_xor, u64_mulK, u64_quo, u64_wrap_toNat]
  rfl

/-! ## A group's word -/
theorem le_snoc : ∀ (l : List Nat) (b : Nat), le (l ++ [b]) = le l + b * 256 ^ l.length
  | [], b => by show b + 256 * 0 = 0 + b * 1; omega
  | c :: l, b => by
    show c + 256 * le (l ++ [b]) = c + 256 * le l + b * 256 ^ (l.length + 1)
    rw [le_snoc l b, Nat.pow_succ, Nat.mul_add, Nat.add_assoc, Nat.mul_comm (256 ^ l.length) 256, Nat.mul_left_comm]
theorem le_take_succ {l : List Nat} {k b : Nat} (h : l[k]? = some b) : le (l.take (k + 1)) = le (l.take k) + b * 256 ^ k := by
  have hk := (List.getElem?_eq_some_iff.1 h).1
  have e : l.take (k + 1) = l.take k ++ [b] := by rw [List.take_add_one, h]; rfl
  rw [e, le_snoc, List.length_take, Nat.min_eq_left (by omega)]
theorem pow_256 (k : Nat) : 256 ^ k = 2 ^ (8 * k) := by rw [Nat.pow_mul]
/-- One byte more. -/
theorem or_byte {l : List Nat} (hB : Byt l) {k b : Nat} (h : l[k]? = some b) (hk : k < 8) :
    bits .or .u64 ((le (l.take k) : Nat) : Int) (IntKind.u64.wrap ((b : Int) * 2 ^ (8 * k))) = ((le (l.take (k + 1)) : Nat) : Int) := by
  have h1 : le (l.take k) < 256 ^ k := by
    have := le_lt (l := l.take k) fun c hc => hB c (List.mem_of_mem_take hc)
    have h2 : (l.take k).length = k := by rw [List.length_take]; have := (List.getElem?_eq_some_iff.1 h).1; omega
    rwa [h2] at this
  have hb : b < 256 := hB b (List.mem_of_getElem? h)
  have h3 : le (l.take (k + 1)) < 256 ^ 8 := by
    have := le_lt (l := l.take (k + 1)) fun c hc => hB c (List.mem_of_mem_take hc)
    exact Nat.lt_of_lt_of_le this (Nat.pow_le_pow_right (by decide) (by rw [List.length_take]; omega))
  rw [le_take_succ h] at h3 ⊢
  generalize le (l.take k) = a at *
  rw [pow_256] at h1 h3 ⊢
  have e2 : ((b : Int) * 2 ^ (8 * k)) = ((b * 2 ^ (8 * k) : Nat) : Int) := by push_cast; rfl
  rw [e2]
  have e4 : (256 : Nat) ^ 8 = 18446744073709551616 := by decide
  rw [show (256 : Nat) ^ 8 = 18446744073709551616 by decide] at *
  have e3 : IntKind.u64.wrap ((b * 2 ^ (8 * k) : Nat) : Int) = ((b * 2 ^ (8 * k) : Nat) : Int) := by
    generalize b * 2 ^ (8 * k) = m at *
    simp only [IntKind.wrap, IntKind.bits, IntKind.signed, Bool.false_and, Bool.false_eq_true, if_false]
    omega
  rw [e3]
  show IntKind.u64.wrap (((BitVec.ofInt 64 (a : Int)) ||| (BitVec.ofInt 64 ((b * 2 ^ (8 * k) : Nat) : Int))).toNat : Int) = _
  rw [BitVec.toNat_or, BitVec.ofInt_natCast, BitVec.ofInt_natCast, BitVec.toNat_ofNat, BitVec.toNat_ofNat]
  rw [Nat.mod_eq_of_lt (show a < 2 ^ 64 by omega), Nat.mod_eq_of_lt (show b * 2 ^ (8 * k) < 2 ^ 64 by omega)]
  have e5 : a ||| b * 2 ^ (8 * k) = a + b * 2 ^ (8 * k) := by
    rw [Nat.or_comm, Nat.mul_comm, ← Nat.two_pow_add_eq_or_of_lt h1]
    omega
  rw [e5]
  generalize a + b * 2 ^ (8 * k) = m at *
  simp only [IntKind.wrap, IntKind.bits, IntKind.signed, Bool.false_and, Bool.false_eq_true, if_false]
  omega

set_option maxHeartbeats 2000000 in
theorem word_any (L : List Nat) (g off cap : Nat) (w : World) (hB : Byt L) (hn : L.length ≤ 8) (hcell : ∀ i b, L[i]? = some b → w.cell? ⟨g, off + i, none⟩ = some (.int .u8 (b : Nat))) :
    Calls Try.prog 102 #[.slice (some ⟨g, off, none⟩) L.length cap] w fun e w' => e = .returned (.int .u64 (le L : Nat)) ∧ w = w' := by
  have hc := Lib.hid hcell
  have hF := Lib.hid (fun k b h hk => or_byte hB (k := k) (b := b) h hk)
  have hA := Lib.hid (show le (L.take L.length) = le L by rw [List.take_length])
  have hb := Lib.hid (fun (k : Nat) (hk : k < L.length) => (⟨L[k], List.getElem?_eq_getElem hk, hB _ (List.getElem_mem hk)⟩ : ∃ b, L[k]? = some b ∧ b < 256))
  have hR := Lib.hid (show (le ([] : List Nat)) = le (L.take 0) from rfl)
  clear hcell hB
  generalize L.length = n at *
  go_enter Try.func102, Try.ntmps102
  go_wp2_with fail
  go_loop [3, 8] (fun a i => ∃ k : Nat, k ≤ n ∧ i = .int .i64 (k : Nat) ∧ a = .int .u64 (le (L.take k) : Nat)) (fun _ i => n - (intOf i).toNat)
  case atStart => exact ⟨0, Nat.zero_le _, rfl, rfl⟩
  case round =>
    obtain ⟨k, hk, rfl, rfl⟩ := hrel
    by_cases hlt : k < n
    · obtain ⟨b, h1, h2⟩ := hb.out k hlt
      have c0 := hc.out k b h1
      have h3 := Lib.hid (hF.out k b h1 (by omega))
      clear h1
      go_wp2
      go_round
      case rel => exact ⟨k + 1, by omega, by go_num, by rw [← h3.out]⟩
      case measure => simp [intOf]; omega
    · obtain rfl : k = n := by omega
      go_wp2
      go_ret
      exact ⟨by rw [← hA.out]; rfl, rfl⟩
end Go.Proofs.Ytknjdkgemkmoeaa
