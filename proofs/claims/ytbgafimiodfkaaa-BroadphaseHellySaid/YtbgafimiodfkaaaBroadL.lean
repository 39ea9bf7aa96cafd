/- For the laws over lists of boxes: has; lists of pairs by a test; reversed lists and prefixes. -/
import Derived.Test.YtbgafimiodfkaaaBroadK
namespace Go.Proofs.Ytbgafimiodfkaaa
open Go.ChangeShapes Go.WideShapes Go.ChangeAt Go.RowKit
open Bo
set_option linter.unusedSimpArgs false
set_option linter.unusedVariables false

def hasB (ps : List (Nat × Nat)) (a b : Int) : Bool := ps.any fun p => (p.1 : Int) == a && (p.2 : Int) == b
theorem hasB_true {ps : List (Nat × Nat)} {a b : Int} {i : Nat} (hi : i < ps.length) (h1 : ((atP ps i).1 : Int) = a) (h2 : ((atP ps i).2 : Int) = b) : hasB ps a b = true :=
  List.any_eq_true.2 ⟨atP ps i, List.mem_of_getElem? (atP_get hi), by simp [h1, h2]⟩
theorem hasB_false {ps : List (Nat × Nat)} {a b : Int} (h : ∀ i, i < ps.length → ¬ (((atP ps i).1 : Int) = a ∧ ((atP ps i).2 : Int) = b)) : hasB ps a b = false := by
  cases hh : hasB ps a b
  · rfl
  · obtain ⟨p, hp, hq⟩ := List.any_eq_true.1 hh
    obtain ⟨i, hi, rfl⟩ := List.getElem_of_mem hp
    have e : atP ps i = ps[i] := by simp [atP, List.getD, hi]
    rw [← e] at hq
    simp only [Bool.and_eq_true, beq_iff_eq] at hq
    exact absurd hq (h i hi)
theorem hasB_pairs {bs : List Bx} {i j : Nat} (hij : i < j) (hj : j < bs.length) : hasB (pairs bs) (i : Int) (j : Int) = ov (at' bs i) (at' bs j) := by
  by_cases h : Ov (at' bs i) (at' bs j)
  · rw [ov_true h]
    exact List.any_eq_true.2 ⟨(i, j), mem_pairs.2 ⟨hij, hj, h⟩, by simp⟩
  · rw [ov_false h]
    cases hh : hasB (pairs bs) (i : Int) (j : Int)
    · rfl
    · obtain ⟨p, hp, hq⟩ := List.any_eq_true.1 hh
      simp only [Bool.and_eq_true, beq_iff_eq] at hq
      have e1 : p.1 = i := by omega
      have e2 : p.2 = j := by omega
      have := (mem_pairs.1 hp).2.2
      rw [e1, e2] at this
      exact absurd this h

set_option maxHeartbeats 2000000 in
theorem hasN_any (g off cap : Nat) (ps : List (Nat × Nat)) (a b : Int) (w : World) (hR : RowK encPr w g off cap ps) :
    Calls Try.prog 22 #[.slice (some ⟨g, off, none⟩) ps.length cap, .int .i64 a, .int .i64 b] w fun e w' => e = .returned (.bool (hasB ps a b)) ∧ w = w' := by
  have m1 := hR.le
  have m2 := hR.max
  unfold maxLen at m2
  have hR' := Lib.hid hR
  clear hR
  go_enter Try.func22, Try.ntmps22
  go_wp2_with fail
  go_loop [7] (fun i => ∃ k : Nat, k ≤ ps.length ∧ i = .int .i64 k ∧ ∀ t, t < k → ¬ (((atP ps t).1 : Int) = a ∧ ((atP ps t).2 : Int) = b)) (fun i => ps.length - (intOf i).toNat)
  case atStart => exact ⟨0, Nat.zero_le _, rfl, fun t ht => absurd ht (Nat.not_lt_zero _)⟩
  case round =>
    obtain ⟨k, hk, rfl, hno⟩ := hrel
    have hno' := Lib.hid hno
    clear hno
    by_cases hlt : k < ps.length
    · obtain ⟨c0, c1⟩ := row_pair hR'.out hlt
      by_cases h1 : ((atP ps k).1 : Int) = a
      · by_cases h2 : ((atP ps k).2 : Int) = b
        · have hy := Lib.hid (hasB_true hlt h1 h2)
          rw [h1] at c0
          rw [h2] at c1
          clear h1 h2
          have b1 : (a == a) = true := by simp
          have b2 : (b == b) = true := by simp
          go_wp2
          go_ret
          exact ⟨by rw [hy.out]; first | done | rfl, rfl⟩
        · have hn : ¬ (((atP ps k).1 : Int) = a ∧ ((atP ps k).2 : Int) = b) := fun h => h2 h.2
          have hn' := Lib.hid hn
          have b2 : (((atP ps k).2 : Int) == b) = false := by simpa using h2
          rw [h1] at c0
          clear hn h1 h2
          have b1 : (a == a) = true := by simp
          generalize ((atP ps k).2 : Int) = P2 at c1 b2
          go_wp2
          go_round
          case rel => exact ⟨k + 1, by omega, by go_num, fun t ht => by
            rcases Nat.lt_or_ge t k with h | h
            · exact hno'.out t h
            · obtain rfl : t = k := by omega
              exact hn'.out⟩
          case measure => simp [intOf]; omega
      · have hn : ¬ (((atP ps k).1 : Int) = a ∧ ((atP ps k).2 : Int) = b) := fun h => h1 h.1
        have hn' := Lib.hid hn
        have b1 : (((atP ps k).1 : Int) == a) = false := by simpa using h1
        clear hn h1
        generalize ((atP ps k).1 : Int) = P1 at c0 b1
        go_wp2
        go_round
        case rel => exact ⟨k + 1, by omega, by go_num, fun t ht => by
          rcases Nat.lt_or_ge t k with h | h
          · exact hno'.out t h
          · obtain rfl : t = k := by omega
            exact hn'.out⟩
        case measure => simp [intOf]; omega
    · obtain rfl : k = ps.length := by omega
      have hy := Lib.hid (hasB_false hno'.out)
      go_wp2
      go_ret
      exact ⟨by rw [hy.out]; first | done | rfl, rfl⟩
theorem hasE_any (x : Option Addr) (cap : Nat) (a b : Int) (w : World) :
    Calls Try.prog 22 #[.slice x 0 cap, .int .i64 a, .int .i64 b] w fun e w' => e = .returned (.bool false) ∧ w = w' := by
  go_enter Try.func22, Try.ntmps22
  go_wp2_with fail
  refine wp_loop_rounds 1 ?_
  rw [rounds_succ]
  go_wp2
  go_ret
  exact ⟨rfl, rfl⟩
theorem has_any (v : Value) (ps : List (Nat × Nat)) (a b : Int) (w : World) (h : PairsAt w v ps) :
    Calls Try.prog 22 #[v, .int .i64 a, .int .i64 b] w fun e w' => e = .returned (.bool (hasB ps a b)) ∧ w = w' := by
  rcases h with ⟨rfl, x, cap, rfl⟩ | ⟨g, off, cap, rfl, hR⟩
  · exact hasE_any x cap a b w
  · exact hasN_any g off cap ps a b w hR

/-! ### lists of pairs by a test -/
def rowF (f : Nat → Nat → Bool) (i : Nat) : Nat → List (Nat × Nat)
  | 0 => []
  | k + 1 => rowF f i k ++ if i < k ∧ f i k = true then [(i, k)] else []
def lexF (f : Nat → Nat → Bool) (n : Nat) : Nat → List (Nat × Nat)
  | 0 => []
  | i + 1 => lexF f n i ++ rowF f i n
theorem rowF_yes {f : Nat → Nat → Bool} {i k : Nat} (h : i < k) (ho : f i k = true) : rowF f i (k + 1) = rowF f i k ++ [(i, k)] := by
  rw [rowF, if_pos ⟨h, ho⟩]
theorem rowF_no {f : Nat → Nat → Bool} {i k : Nat} (ho : f i k = false) : rowF f i (k + 1) = rowF f i k := by
  rw [rowF, if_neg fun h => by rw [ho] at h; exact absurd h.2 (by simp), List.append_nil]
theorem rowF_start (f : Nat → Nat → Bool) (i : Nat) : ∀ k, k ≤ i + 1 → rowF f i k = []
  | 0, _ => rfl
  | k + 1, h => by rw [rowF, rowF_start f i k (by omega), if_neg (by omega)]; rfl
theorem mem_rowF {f : Nat → Nat → Bool} {i : Nat} : ∀ {k : Nat} {p : Nat × Nat}, p ∈ rowF f i k ↔ p.1 = i ∧ i < p.2 ∧ p.2 < k ∧ f i p.2 = true
  | 0, p => by simp [rowF]
  | k + 1, p => by
    rw [rowF, List.mem_append, mem_rowF]
    by_cases h : i < k ∧ f i k = true
    · rw [if_pos h, List.mem_singleton]
      constructor
      · rintro (h1 | h1)
        · exact ⟨h1.1, h1.2.1, by omega, h1.2.2.2⟩
        · subst h1; exact ⟨rfl, h.1, by simp, h.2⟩
      · rintro ⟨h1, h2, h3, h4⟩
        by_cases e : p.2 = k
        · exact Or.inr (by cases p; simp_all)
        · exact Or.inl ⟨h1, h2, by omega, h4⟩
    · rw [if_neg h]
      constructor
      · rintro (h1 | h1)
        · exact ⟨h1.1, h1.2.1, by omega, h1.2.2.2⟩
        · cases h1
      · rintro ⟨h1, h2, h3, h4⟩
        by_cases e : p.2 = k
        · rw [e] at h2 h4; exact absurd ⟨h2, h4⟩ h
        · exact Or.inl ⟨h1, h2, by omega, h4⟩
theorem mem_lexF {f : Nat → Nat → Bool} {n : Nat} : ∀ {m : Nat} {p : Nat × Nat}, p ∈ lexF f n m ↔ p.1 < m ∧ p.1 < p.2 ∧ p.2 < n ∧ f p.1 p.2 = true
  | 0, p => by simp [lexF]
  | m + 1, p => by
    rw [lexF, List.mem_append, mem_lexF, mem_rowF]
    constructor
    · rintro (⟨h1, h2⟩ | ⟨h1, h2⟩)
      · exact ⟨by omega, h2⟩
      · rw [h1]; exact ⟨by omega, h2⟩
    · rintro ⟨h1, h2⟩
      by_cases e : p.1 = m
      · refine Or.inr ⟨e, ?_⟩; rw [e] at h2; exact h2
      · exact Or.inl ⟨by omega, h2⟩
theorem rowF_rising (f : Nat → Nat → Bool) (i : Nat) : ∀ k, (rowF f i k).Pairwise PLt
  | 0 => List.Pairwise.nil
  | k + 1 => by
    rw [rowF, List.pairwise_append]
    refine ⟨rowF_rising f i k, by split <;> simp, fun a ha b hb => ?_⟩
    have h1 := mem_rowF.1 ha
    split at hb
    · rw [List.mem_singleton] at hb; subst hb; exact Or.inr ⟨h1.1, h1.2.2.1⟩
    · cases hb
theorem lexF_rising (f : Nat → Nat → Bool) (n : Nat) : ∀ m, (lexF f n m).Pairwise PLt
  | 0 => List.Pairwise.nil
  | m + 1 => by
    rw [lexF, List.pairwise_append]
    refine ⟨lexF_rising f n m, rowF_rising f m n, fun a ha b hb => ?_⟩
    have h1 := mem_lexF.1 ha
    have h2 := mem_rowF.1 hb
    exact Or.inl (by omega)
theorem rowF_len (f : Nat → Nat → Bool) (i : Nat) : ∀ k, (rowF f i k).length ≤ k
  | 0 => Nat.le_refl _
  | k + 1 => by have := rowF_len f i k; rw [rowF]; split <;> simp <;> omega
theorem lexF_len (f : Nat → Nat → Bool) (n : Nat) : ∀ m, (lexF f n m).length ≤ m * n
  | 0 => by simp [lexF]
  | m + 1 => by
    have := lexF_len f n m
    have h2 := rowF_len f m n
    rw [lexF, List.length_append, Nat.add_mul, Nat.one_mul]; omega
/-- The pairs that have been taken when the round (i, t) begins. -/
def parF (f : Nat → Nat → Bool) (n i t : Nat) : List (Nat × Nat) := lexF f n i ++ rowF f i t
theorem parF_len {f : Nat → Nat → Bool} {n i t : Nat} (hi : i ≤ n) (ht : t ≤ n) (hn : n ≤ 20) : (parF f n i t).length ≤ 420 := by
  have h1 := lexF_len f n i
  have h2 := rowF_len f i t
  have h3 : i * n ≤ 20 * 20 := Nat.mul_le_mul (by omega) hn
  unfold parF
  rw [List.length_append]; omega
theorem parF_yes {f : Nat → Nat → Bool} {n i t : Nat} (h : i < t) (ho : f i t = true) : parF f n i (t + 1) = parF f n i t ++ [(i, t)] := by
  unfold parF; rw [rowF_yes h ho, List.append_assoc]
theorem parF_no {f : Nat → Nat → Bool} {n i t : Nat} (ho : f i t = false) : parF f n i (t + 1) = parF f n i t := by
  unfold parF; rw [rowF_no ho]
theorem parF_start (f : Nat → Nat → Bool) (n i : Nat) : parF f n i (i + 1) = lexF f n i := by
  unfold parF; rw [rowF_start f i (i + 1) (Nat.le_refl _), List.append_nil]
theorem parF_end (f : Nat → Nat → Bool) (n i : Nat) : parF f n i n = lexF f n (i + 1) := rfl

/-! ### reversed lists and prefixes -/
theorem at_reverse {bs : List Bx} {i : Nat} (h : i < bs.length) : at' bs.reverse i = at' bs (bs.length - 1 - i) := by
  simp [at', List.getD, List.getElem?_reverse h]
theorem pairs_reverse (bs : List Bx) : lexF (fun i t => hasB (pairs bs) ((bs.length : Int) - 1 - (t : Int)) ((bs.length : Int) - 1 - (i : Int))) bs.length bs.length = pairs bs.reverse := by
  refine eq_of_rising (lexF_rising _ _ _) (pairs_rising _) fun p => ?_
  rw [mem_lexF, mem_pairs, List.length_reverse]
  have key : p.1 < p.2 → p.2 < bs.length → ((hasB (pairs bs) ((bs.length : Int) - 1 - (p.2 : Int)) ((bs.length : Int) - 1 - (p.1 : Int)) = true) ↔ Ov (at' bs.reverse p.1) (at' bs.reverse p.2)) := fun h1 h2 => by
    rw [show (bs.length : Int) - 1 - (p.2 : Int) = ((bs.length - 1 - p.2 : Nat) : Int) by omega, show (bs.length : Int) - 1 - (p.1 : Int) = ((bs.length - 1 - p.1 : Nat) : Int) by omega,
      hasB_pairs (by omega) (by omega), ov_iff, at_reverse (by omega), at_reverse h2]
    exact ⟨Ov.symm, Ov.symm⟩
  constructor
  · rintro ⟨_, h1, h2, h3⟩; exact ⟨h1, h2, (key h1 h2).1 h3⟩
  · rintro ⟨h1, h2, h3⟩; exact ⟨by omega, h1, h2, (key h1 h2).2 h3⟩
theorem pairs_take (bs : List Bx) (k : Nat) (hk : k ≤ bs.length) : lexF (fun i t => decide (t < k) && hasB (pairs bs) (i : Int) (t : Int)) bs.length bs.length = pairs (bs.take k) := by
  refine eq_of_rising (lexF_rising _ _ _) (pairs_rising _) fun p => ?_
  have hl : (bs.take k).length = k := by rw [List.length_take]; omega
  rw [mem_lexF, mem_pairs, hl]
  constructor
  · rintro ⟨_, h1, h2, h3⟩
    simp only [Bool.and_eq_true, decide_eq_true_eq] at h3
    rw [hasB_pairs h1 h2, ov_iff] at h3
    exact ⟨h1, h3.1, by rw [at_take (by omega), at_take h3.1]; exact h3.2⟩
  · rintro ⟨h1, h2, h3⟩
    rw [at_take (by omega), at_take h2] at h3
    refine ⟨by omega, h1, by omega, ?_⟩
    simp only [Bool.and_eq_true, decide_eq_true_eq]
    exact ⟨h2, by rw [hasB_pairs h1 (by omega), ov_iff]; exact h3⟩
theorem rev_take {bs : List Bx} {j : Nat} (h : j < bs.length) : bs.reverse.take (bs.length - j) = bs.reverse.take (bs.length - (j + 1)) ++ [at' bs j] := by
  have e : bs.length - j = bs.length - (j + 1) + 1 := by omega
  rw [e, List.take_add_one]
  congr 1
  have h1 : bs.length - (j + 1) < bs.reverse.length := by rw [List.length_reverse]; omega
  have h2 := at_get h1
  rw [h2, at_reverse (by omega), show bs.length - 1 - (bs.length - (j + 1)) = j by omega]; rfl
end Go.Proofs.Ytbgafimiodfkaaa
