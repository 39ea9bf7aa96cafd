/- The reference of merkle: Size, Height, leaf, Node, Root. -/
import Derived.Test.YtknjdkgemkmoeaaHaH
import Derived.Test.YtknjdkgemkmoeaaMerk
namespace Go.Proofs.Ytknjdkgemkmoeaa
open Go.ChangeShapes Go.WideShapes Go.ChangeAt Go.RowKit Go.Shelf
set_option linter.unusedSimpArgs false
set_option linter.unusedVariables false

set_option maxHeartbeats 2000000 in
theorem refSize_any (n : Nat) (w : World) (hn : n ≤ 65536) : Calls Try.prog 67 #[.int .i64 (n : Nat)] w fun e w' => e = .returned (.int .i64 ((sz n : Nat) : Int)) ∧ w = w' := by
  have hF := Lib.hid (fun (h p : Nat) (e : p = 2 ^ h) => (by rw [e]; exact ht_lt.symm : p < n ↔ h < ht n))
  go_enter Try.func67, Try.ntmps67
  go_wp2_with fail
  go_loop [3] (fun i => ∃ h p : Nat, h ≤ ht n ∧ p = 2 ^ h ∧ i = .int .i64 (p : Nat) ∧ p ≤ 200000) (fun i => (400000 - intOf i).toNat)
  case atStart => exact ⟨0, 1, Nat.zero_le _, rfl, rfl, by omega⟩
  case round =>
    obtain ⟨h, p, hh, hp, rfl, hpp⟩ := hrel
    have hlt := hF.out h p hp
    have hp' := Lib.hid hp
    have h1 : 1 ≤ p := by rw [hp]; exact Nat.one_le_two_pow
    clear hp
    by_cases hc : p < n
    · have hq := hlt.1 hc
      go_wp2
      go_round
      case rel => exact ⟨h + 1, 2 * p, hq, by rw [hp'.out, Nat.pow_succ, Nat.mul_comm], by go_num, by omega⟩
      case measure => simp [intOf]; omega
    · have hq : h = ht n := Nat.le_antisymm hh (Nat.not_lt.1 fun k => hc (hlt.2 k))
      have hy := Lib.hid (show sz n = p from by rw [sz_eq, ← hq, hp'.out])
      clear hq hlt hh
      go_wp2
      go_ret
      exact ⟨by rw [hy.out]; rfl, rfl⟩

theorem leafLab_of : labL { data := #[108, 101, 97, 102] } = leafLab := by decide
theorem emptyLab_of : labL { data := #[101, 109, 112, 116, 121] } = emptyLab := by decide
theorem leafLab_size : ByteArray.size { data := #[108, 101, 97, 102] } ≤ 1000 := by decide
theorem emptyLab_size : ByteArray.size { data := #[101, 109, 112, 116, 121] } ≤ 1000 := by decide
theorem refLeafSum (i v : Int) (w : World) : Calls Try.prog 105 #[.string { data := #[108, 101, 97, 102] }, .slice (some ⟨w.heap.size, 0, none⟩) 2 2] (w.alloc (.cells #[.int .i64 i, .int .i64 v] 3)) fun e w' =>
    e = .returned (.int .u64 ((leafV i v).toNat : Int)) ∧ Below (w.alloc (.cells #[.int .i64 i, .int .i64 v] 3)).heap.size (w.alloc (.cells #[.int .i64 i, .int .i64 v] 3)) w' := by
  have h := refSum_any { data := #[108, 101, 97, 102] } _ [i, v] _ (two_new w i v) leafLab_size (by simp)
  rw [leafLab_of] at h
  exact h
theorem refEmptySum (w : World) : Calls Try.prog 105 #[.string { data := #[101, 109, 112, 116, 121] }, .slice none 0 0] w fun e w' => e = .returned (.int .u64 (emptyV.toNat : Int)) ∧ Below w.heap.size w w' := by
  have h := refSum_any { data := #[101, 109, 112, 116, 121] } _ [] w (IL.nil w) emptyLab_size (by simp)
  rw [emptyLab_of] at h
  exact h
set_option maxHeartbeats 2000000 in
theorem refLeaf_any (v : Value) (C : List Int) (i : Nat) (w : World) (hI : IL w v C) (hl : C.length ≤ 65536) (hi : i ≤ 1000000) :
    Calls Try.prog 91 #[v, .int .i64 (i : Nat)] w fun e w' => e = .returned (.int .u64 ((leafW C i).toNat : Int)) ∧ Below w.heap.size w w' := by
  obtain ⟨a, cap, rfl, h1, h2, h3⟩ := hI.shape
  unfold maxLen at h2
  clear hI
  by_cases hlt : i < C.length
  · obtain ⟨g, off, rfl, hg, hc⟩ := h3 (by omega)
    obtain ⟨x, hx⟩ : ∃ x, C[i]? = some x := ⟨_, List.getElem?_eq_getElem hlt⟩
    have c0 := hc i x hx
    have K := refLeafSum (i : Int) x w
    rw [← leafW_in hx] at K
    have hB := Lib.hid (alloc_below w (.cells #[.int .i64 (i : Int), .int .i64 x] 3))
    generalize (leafW C i).toNat = r at *
    have hK := Lib.hid K
    clear K hx hc h3
    generalize C.length = n at *
    have hn : ¬ (n : Int) ≤ (i : Int) := by omega
    go_enter Try.func91, Try.ntmps91
    go_wp2_with fail
    refine (hK.out).mono ?_
    rintro e w1 ⟨rfl, hb1⟩
    go_wp2
    go_ret
    exact ⟨rfl, below_step hB.out hb1⟩
  · have K := refEmptySum w
    rw [← leafW_out (Nat.not_lt.1 hlt)] at K
    generalize (leafW C i).toNat = r at *
    have hK := Lib.hid K
    clear K h3
    generalize C.length = n at *
    have hn : (n : Int) ≤ (i : Int) := by omega
    go_enter Try.func91, Try.ntmps91
    go_wp2_with fail
    refine (hK.out).mono ?_
    rintro e w1 ⟨rfl, hb1⟩
    go_wp2
    go_ret
    exact ⟨rfl, hb1⟩

set_option maxHeartbeats 4000000 in
theorem refNode_any (C : List Int) (hl : C.length ≤ 65536) : ∀ (h j a b : Nat) (v : Value) (w : World), IL w v C → a = j * 2 ^ h → b = (j + 1) * 2 ^ h → b ≤ 1000000 →
    Calls Try.prog 66 #[v, .int .i64 (a : Nat), .int .i64 (b : Nat)] w fun e w' => e = .returned (.int .u64 ((nodeW C h j).toNat : Int)) ∧ Below w.heap.size w w' := by
  intro h
  induction h with
  | zero =>
    intro j a b v w hI ha hb hbb
    rw [Nat.pow_zero, Nat.mul_one] at ha hb
    subst ha
    have K := refLeaf_any v C a w hI hl (by omega)
    have e1 : ((b : Int) - (a : Int) == 1) = true := by simp only [beq_iff_eq]; omega
    have hK := Lib.hid K
    have hb' : (b : Int) - (a : Int) = 1 := by omega
    clear K hI hb
    show Calls _ _ _ _ fun e w' => e = .returned (.int .u64 ((leafW C a).toNat : Int)) ∧ _
    generalize (leafW C a).toNat = r at *
    go_enter Try.func66, Try.ntmps66
    go_wp2_with fail
    refine (hK.out).mono ?_
    rintro e w1 ⟨rfl, hb1⟩
    go_wp2
    go_ret
    exact ⟨rfl, hb1⟩
  | succ h ih =>
    intro j a b v w hI ha hb hbb
    obtain ⟨m, hm⟩ : ∃ m, m = (2 * j + 1) * 2 ^ h := ⟨_, rfl⟩
    have hm2 : (a + b) / 2 = m := by rw [ha, hb, hm, mid_of]
    have ha2 : a = (2 * j) * 2 ^ h := by rw [ha, left_from]
    have hb2 : b = (2 * j + 1 + 1) * 2 ^ h := by rw [hb, right_to]
    have hp : 1 ≤ 2 ^ h := Nat.one_le_two_pow
    have q1 : m = a + 2 ^ h := by rw [hm, ha2, Nat.add_mul, Nat.one_mul]
    have q2 : b = m + 2 ^ h := by rw [hb2, hm, Nat.add_mul (2 * j + 1), Nat.one_mul]
    have K1 := ih (2 * j) a m v w hI ha2 (by rw [hm]) (by omega)
    have e3 : (m : Int) = ((a : Int) + (b : Int)) / 2 := by omega
    have K2 := fun W (hW : Below w.heap.size w W) => ih (2 * j + 1) m b v W (hI.carry hW) hm hb2 hbb
    rw [e3] at K1
    simp only [e3] at K2
    have K3 := fun W => refPair_any (nodeW C h (2 * j)) (nodeW C h (2 * j + 1)) W
    rw [show pairW (nodeW C h (2 * j)) (nodeW C h (2 * j + 1)) = nodeW C (h + 1) j from rfl] at K3
    have e1 : ((b : Int) - (a : Int) == 1) = false := by simp only [beq_eq_false_iff_ne, ne_eq]; omega
    have e2 : ¬ (b : Int) - (a : Int) = 1 := by omega
    clear e3
    have hab : a + 2 ≤ b := by omega
    generalize ((nodeW C h (2 * j)).toNat : Int) = z1 at *
    generalize ((nodeW C h (2 * j + 1)).toNat : Int) = z2 at *
    generalize ((nodeW C (h + 1) j).toNat : Int) = z3 at *
    have hK := Lib.hid (And.intro K1 (And.intro K2 K3))
    clear K1 K2 K3 ih ha hb ha2 hb2 hm hm2 q1 q2 hI hp
    go_enter Try.func66, Try.ntmps66
    go_wp2_with (first
      | (go_at_call 66; with_reducible refine (hK.out.1).mono ?_; rintro e w1 ⟨rfl, hb⟩; have hB1 := Lib.hid hb; clear hb)
      | (go_at_call 66; with_reducible refine (hK.out.2.1 w1 hB1.out).mono ?_; rintro e w2 ⟨rfl, hb⟩; have hB2 := Lib.hid (below_step hB1.out hb); clear hb)
      | (go_at_call 92; with_reducible refine (hK.out.2.2 w2).mono ?_; rintro e w3 ⟨rfl, hb⟩; have hB3 := Lib.hid (below_step hB2.out hb); clear hb))
    go_ret
    exact ⟨rfl, hB3.out⟩

theorem refRoot_any (v : Value) (C : List Int) (w : World) (hI : IL w v C) (hl : C.length ≤ 65536) :
    Calls Try.prog 23 #[v] w fun e w' => e = .returned (.int .u64 ((rootW C).toNat : Int)) ∧ Below w.heap.size w w' := by
  obtain ⟨a, cap, rfl, h1, h2, h3⟩ := hI.shape
  unfold maxLen at h2
  have hz : sz C.length ≤ 65536 := by rw [sz_eq]; exact Nat.pow_le_pow_right (n := 2) (by decide) (ht_small hl)
  have K1 := refSize_any C.length w hl
  have K2 := refNode_any C hl (ht C.length) 0 0 (sz C.length) _ w hI (by rw [Nat.zero_mul]) (by rw [Nat.zero_add, Nat.one_mul, sz_eq]) (by omega)
  rw [show nodeW C (ht C.length) 0 = rootW C from rfl] at K2
  generalize ((rootW C).toNat : Int) = z at *
  generalize sz C.length = m at *
  have hK := Lib.hid (And.intro K1 K2)
  clear K1 K2 hI h3
  generalize C.length = n at *
  go_enter Try.func23, Try.ntmps23
  go_wp2_with fail
  refine (hK.out.1).mono ?_
  rintro e w1 ⟨rfl, rfl⟩
  go_wp2_with fail
  refine (hK.out.2).mono ?_
  rintro e w1 ⟨rfl, hb⟩
  go_wp2
  go_ret
  exact ⟨rfl, hb⟩
end Go.Proofs.Ytknjdkgemkmoeaa
