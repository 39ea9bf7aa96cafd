/- Hash trees over integers: nodes, proofs, what climbs from a leaf; one leaf set. Nothing of the code. -/
import Derived.Test.YtknjdkgemkmoeaaHash
namespace Go.Proofs.Ytknjdkgemkmoeaa
set_option linter.unusedSimpArgs false
set_option linter.unusedVariables false

theorem bq_self (z : Int) : (z == z) = true := by simp
theorem bq_toNat {a b : W64} : (((a.toNat : Int)) == (b.toNat : Int)) = decide (a = b) := by
  by_cases h : a = b
  · subst h; simp
  · rw [decide_eq_false h]
    simp only [beq_eq_false_iff_ne, ne_eq]
    exact fun e => h (toNat_inj'.1 e)
/-! ## The height -/
/-- The least h with n ≤ 2 ^ h. -/
def ht (n : Nat) : Nat := if n ≤ 1 then 0 else Nat.log2 (n - 1) + 1
theorem ht_lt {n h : Nat} : h < ht n ↔ 2 ^ h < n := by
  unfold ht
  split
  · rename_i hn
    have := Nat.one_le_two_pow (n := h)
    omega
  · rename_i hn
    rw [Nat.lt_succ_iff, Nat.le_log2 (by omega)]
    omega
theorem ht_le {n h : Nat} : ht n ≤ h ↔ n ≤ 2 ^ h := by
  rw [← Nat.not_lt, ht_lt, Nat.not_lt]
theorem ht_self (n : Nat) : n ≤ 2 ^ ht n := ht_le.1 (Nat.le_refl _)
/-- The number of leaves. -/
def sz (n : Nat) : Nat := 2 ^ ht n
theorem sz_eq (n : Nat) : sz n = 2 ^ ht n := rfl
theorem ht_div {n i : Nat} (h : i < n) : i / 2 ^ ht n = 0 := Nat.div_eq_of_lt (Nat.lt_of_lt_of_le h (ht_self n))
theorem ht_small {n : Nat} (h : n ≤ 65536) : ht n ≤ 16 := ht_le.2 h

/-! ## Nodes -/
def leafLab : List Nat := [108, 101, 97, 102]
def emptyLab : List Nat := [101, 109, 112, 116, 121]
def leafV (i v : Int) : W64 := sumW leafLab [BitVec.ofInt 64 i, BitVec.ofInt 64 v]
def emptyV : W64 := sumW emptyLab []
def leafW (C : List Int) (j : Nat) : W64 := match C[j]? with
  | some v => leafV j v
  | none => emptyV
theorem leafW_in {C : List Int} {j : Nat} {v : Int} (h : C[j]? = some v) : leafW C j = leafV j v := by unfold leafW; rw [h]
theorem leafW_out {C : List Int} {j : Nat} (h : C.length ≤ j) : leafW C j = emptyV := by unfold leafW; rw [List.getElem?_eq_none h]
/-- Node j of level h: over the leaves from j * 2 ^ h on. -/
def nodeW (C : List Int) : Nat → Nat → W64
  | 0, j => leafW C j
  | h + 1, j => pairW (nodeW C h (2 * j)) (nodeW C h (2 * j + 1))
def rootW (C : List Int) : W64 := nodeW C (ht C.length) 0
/-- The other child of one's parent. -/
def sib (k : Nat) : Nat := if k % 2 = 0 then k + 1 else k - 1
theorem sib_sib (k : Nat) : sib (sib k) = k := by unfold sib; split <;> split <;> omega
theorem sib_half (k : Nat) : sib k / 2 = k / 2 := by unfold sib; split <;> omega
theorem sib_ne (k : Nat) : sib k ≠ k := by unfold sib; split <;> omega
/-- The parent's hash, from a child's and its sibling's. -/
def parW (k : Nat) (x p : W64) : W64 := if k % 2 = 0 then pairW x p else pairW p x
theorem parW_left {k : Nat} {x y p : W64} : parW k x p = parW k y p ↔ x = y := by
  unfold parW; split
  · exact pairW_left x y p
  · exact pairW_right x y p
theorem parW_right {k : Nat} {x p q : W64} : parW k x p = parW k x q ↔ p = q := by
  unfold parW; split
  · exact pairW_right p q x
  · exact pairW_left p q x
theorem node_par (C : List Int) (h k : Nat) : nodeW C (h + 1) (k / 2) = parW k (nodeW C h k) (nodeW C h (sib k)) := by
  show pairW (nodeW C h (2 * (k / 2))) (nodeW C h (2 * (k / 2) + 1)) = _
  unfold parW sib
  split
  · rw [show 2 * (k / 2) = k by omega]
  · rw [show 2 * (k / 2) = k - 1 by omega, show k - 1 + 1 = k by omega]

/-! ## What climbs from a leaf -/
def up (k : Nat) (x : W64) : List W64 → W64
  | [] => x
  | p :: l => up (k / 2) (parW k x p) l
theorem up_inj (l : List W64) : ∀ {k : Nat} {x y : W64}, up k x l = up k y l ↔ x = y := by
  induction l with
  | nil => exact fun {k x y} => Iff.rfl
  | cons p l ih => exact fun {k x y} => (ih (k := k / 2)).trans parW_left
theorem up_one : ∀ (l m : List W64) {k : Nat} {x p q : W64}, up k x (l ++ p :: m) = up k x (l ++ q :: m) ↔ p = q
  | [], m, k, x, p, q => (up_inj m (k := k / 2)).trans parW_right
  | r :: l, m, k, x, p, q => up_one l m (k := k / 2) (x := parW k x r)
theorem up_set (l : List W64) {t : Nat} (ht : t < l.length) (k : Nat) (x p q : W64) : up k x (l.set t p) = up k x (l.set t q) ↔ p = q := by
  rw [List.set_eq_take_append_cons_drop, List.set_eq_take_append_cons_drop, if_pos ht, if_pos ht]
  exact up_one _ _
theorem up_snoc : ∀ (l : List W64) (k : Nat) (x p : W64), up k x (l ++ [p]) = parW (k / 2 ^ l.length) (up k x l) p
  | [], k, x, p => by show parW k x p = parW (k / 1) x p; rw [Nat.div_one]
  | r :: l, k, x, p => by
    show up (k / 2) (parW k x r) (l ++ [p]) = parW (k / 2 ^ (l.length + 1)) (up (k / 2) (parW k x r) l) p
    rw [up_snoc l, Nat.div_div_eq_div_mul, Nat.pow_succ, Nat.mul_comm 2]
/-- The proof of leaf i: h hashes. -/
def proofW (C : List Int) (i h : Nat) : List W64 := (List.range h).map fun t => nodeW C t (sib (i / 2 ^ t))
theorem proofW_len (C : List Int) (i h : Nat) : (proofW C i h).length = h := by unfold proofW; simp
theorem proofW_succ (C : List Int) (i h : Nat) : proofW C i (h + 1) = proofW C i h ++ [nodeW C h (sib (i / 2 ^ h))] := by unfold proofW; rw [List.range_succ, List.map_append]; rfl
theorem proofW_at (C : List Int) (i : Nat) {h t : Nat} (ht : t < h) : (proofW C i h)[t]? = some (nodeW C t (sib (i / 2 ^ t))) := by unfold proofW; simp [ht]
/-- Completeness. -/
theorem up_proof (C : List Int) (i : Nat) : ∀ h, up i (leafW C i) (proofW C i h) = nodeW C h (i / 2 ^ h)
  | 0 => by show leafW C i = leafW C (i / 1); rw [Nat.div_one]
  | h + 1 => by
    rw [proofW_succ, up_snoc, proofW_len, up_proof C i h, ← node_par, Nat.div_div_eq_div_mul, Nat.pow_succ]
theorem up_root {C : List Int} {i : Nat} (hi : i < C.length) : up i (leafW C i) (proofW C i (ht C.length)) = rootW C := by
  rw [up_proof, ht_div hi]; rfl

/-! ## A leaf set -/
theorem leafW_set {C : List Int} {i j : Nat} (v : Int) (h : i ≠ j) : leafW (C.set i v) j = leafW C j := by
  unfold leafW; rw [List.getElem?_set_ne h]
theorem node_set {C : List Int} {i : Nat} (v : Int) : ∀ {h j : Nat}, i / 2 ^ h ≠ j → nodeW (C.set i v) h j = nodeW C h j
  | 0, j, hj => leafW_set v (by rwa [Nat.pow_zero, Nat.div_one] at hj)
  | h + 1, j, hj => by
    rw [Nat.pow_succ, ← Nat.div_div_eq_div_mul] at hj
    show pairW _ _ = pairW _ _
    rw [node_set v (h := h) (j := 2 * j) (by omega), node_set v (h := h) (j := 2 * j + 1) (by omega)]
theorem node_sib {C : List Int} {i : Nat} (v : Int) (t : Nat) : nodeW (C.set i v) t (sib (i / 2 ^ t)) = nodeW C t (sib (i / 2 ^ t)) := node_set v fun e => sib_ne _ e.symm
theorem proof_set {C : List Int} {i : Nat} (v : Int) (h : Nat) : proofW (C.set i v) i h = proofW C i h := by
  unfold proofW
  exact List.map_congr_left fun t _ => node_sib v t
/-- The path's hashes anew. -/
theorem node_path {C : List Int} {i : Nat} (v : Int) (t : Nat) : nodeW (C.set i v) (t + 1) (i / 2 ^ (t + 1)) = parW (i / 2 ^ t) (nodeW (C.set i v) t (i / 2 ^ t)) (nodeW C t (sib (i / 2 ^ t))) := by
  rw [Nat.pow_succ, ← Nat.div_div_eq_div_mul, node_par, node_sib]
theorem leafW_here {C : List Int} {i : Nat} (v : Int) (h : i < C.length) : leafW (C.set i v) i = leafV i v := leafW_in (by simp [h])

/-! ## Soundness -/
abbrev I64 (x : Int) : Prop := -9223372036854775808 ≤ x ∧ x ≤ 9223372036854775807
theorem leafV_val {i x y : Int} (hx : I64 x) (hy : I64 y) : leafV i x = leafV i y ↔ x = y := by
  unfold leafV
  exact (sumW_set leafLab [BitVec.ofInt 64 i, 0] (i := 1) (by simp) (BitVec.ofInt 64 x) (BitVec.ofInt 64 y)).trans (ofInt_inj hx hy)
theorem leafV_idx {i j x : Int} (hi : I64 i) (hj : I64 j) : leafV i x = leafV j x ↔ i = j := by
  unfold leafV
  exact (sumW_set leafLab [0, BitVec.ofInt 64 x] (i := 0) (by simp) (BitVec.ofInt 64 i) (BitVec.ofInt 64 j)).trans (ofInt_inj hi hj)
/-- What Verify says. -/
def verW (root : W64) (n : Nat) (i v : Int) (l : List W64) : Bool := decide (0 ≤ i) && decide (i < n) && decide (l.length = ht n) && decide (up i.toNat (leafV i v) l = root)
theorem verW_iff {root : W64} {n : Nat} {i v : Int} {l : List W64} : verW root n i v l = true ↔ (0 ≤ i ∧ i < n ∧ l.length = ht n ∧ up i.toNat (leafV i v) l = root) := by
  unfold verW; simp [and_assoc]
theorem ver_proof {C : List Int} {i : Nat} {v : Int} (h : C[i]? = some v) : verW (rootW C) C.length i v (proofW C i (ht C.length)) = true := by
  have hi := (List.getElem?_eq_some_iff.1 h).1
  refine verW_iff.2 ⟨by omega, by omega, proofW_len _ _ _, ?_⟩
  rw [Int.toNat_natCast, ← leafW_in h, up_root hi]
theorem ver_val {root : W64} {n : Nat} {i v u : Int} {l : List W64} (h : verW root n i v l = true) (hv : I64 v) (hu : I64 u) (hne : u ≠ v) : verW root n i u l = false := by
  have h1 := (verW_iff.1 h).2.2.2
  cases h2 : verW root n i u l with
  | false => rfl
  | true => exact absurd ((leafV_val hu hv).1 ((up_inj l).1 ((verW_iff.1 h2).2.2.2.trans h1.symm))) hne
theorem ver_one {root : W64} {n : Nat} {i v : Int} {l : List W64} {t : Nat} {p q : W64} (h : verW root n i v l = true) (hp : l[t]? = some p) (hne : q ≠ p) : verW root n i v (l.set t q) = false := by
  have ht := (List.getElem?_eq_some_iff.1 hp).1
  have e : l.set t p = l := by
    refine List.ext_getElem? fun j => ?_
    rw [List.getElem?_set]
    split
    · rename_i e; subst e; simp [ht]; exact (List.getElem?_eq_some_iff.1 hp).2.symm
    · rfl
  have h1 := (verW_iff.1 h).2.2.2
  rw [← e] at h1
  cases h2 : verW root n i v (l.set t q) with
  | false => rfl
  | true => exact absurd ((up_set l ht i.toNat (leafV i v) q p).1 ((verW_iff.1 h2).2.2.2.trans h1.symm)) hne

/-! ## The reference's ranges -/
/-- The middle of node j of level h + 1. -/
theorem mid_of (h j : Nat) : (j * 2 ^ (h + 1) + (j + 1) * 2 ^ (h + 1)) / 2 = (2 * j + 1) * 2 ^ h := by
  rw [Nat.pow_succ]
  generalize 2 ^ h = p
  have e1 : j * (p * 2) = (j * p) * 2 := (Nat.mul_assoc ..).symm
  have e2 : (j + 1) * (p * 2) = (j * p) * 2 + p * 2 := by rw [Nat.add_mul, e1, Nat.one_mul]
  have e3 : (2 * j + 1) * p = 2 * (j * p) + p := by rw [Nat.add_mul, Nat.one_mul, Nat.mul_assoc]
  rw [e1, e2, e3]
  omega
theorem left_from (h j : Nat) : j * 2 ^ (h + 1) = (2 * j) * 2 ^ h := by rw [Nat.pow_succ, Nat.mul_comm (2 ^ h) 2, ← Nat.mul_assoc, Nat.mul_comm j 2]
theorem right_to (h j : Nat) : (j + 1) * 2 ^ (h + 1) = (2 * j + 1 + 1) * 2 ^ h := by rw [left_from]; congr 1
/-- The sibling's range, of the leaf i at level t. -/
theorem sib_even {k : Nat} (h : k % 2 = 0) : sib k = k + 1 := if_pos h
theorem sib_odd {k : Nat} (h : ¬ k % 2 = 0) : sib k = k - 1 := if_neg h

/-! ## Assignments in a row -/
def setsW (C : List Int) : List (Nat × Int) → List Int
  | [] => C
  | (i, v) :: l => setsW (C.set i v) l
theorem setsW_len : ∀ (l : List (Nat × Int)) (C : List Int), (setsW C l).length = C.length
  | [], _ => rfl
  | (i, v) :: l, C => by show (setsW (C.set i v) l).length = _; rw [setsW_len l, List.length_set]
theorem setsW_append : ∀ (l m : List (Nat × Int)) (C : List Int), setsW C (l ++ m) = setsW (setsW C l) m
  | [], _, _ => rfl
  | (i, v) :: l, m, C => setsW_append l m (C.set i v)
theorem setsW_snoc (l : List (Nat × Int)) (i : Nat) (v : Int) (C : List Int) : setsW C (l ++ [(i, v)]) = (setsW C l).set i v := by rw [setsW_append]; rfl
/-- An assignment, then the old value again. -/
theorem set_back {C : List Int} {i : Nat} {x : Int} (v : Int) (h : C[i]? = some x) : (C.set i v).set i x = C := by
  refine List.ext_getElem? fun j => ?_
  rw [List.getElem?_set, List.getElem?_set]
  have hi := (List.getElem?_eq_some_iff.1 h).1
  split
  · rename_i e; subst e; rw [List.length_set, if_pos hi, h]
  · rfl

/-! ## A tree laid out in a row: node j of level t at 2 ^ (h - t) + j -/
def slot (h t j : Nat) : Nat := 2 ^ (h - t) + j
theorem slot_left {h t j : Nat} (ht : t < h) : 2 * slot h (t + 1) j = slot h t (2 * j) := by
  unfold slot
  rw [show h - t = (h - (t + 1)) + 1 by omega, Nat.pow_succ]
  omega
theorem slot_right {h t j : Nat} (ht : t < h) : 2 * slot h (t + 1) j + 1 = slot h t (2 * j + 1) := by
  rw [slot_left ht]; unfold slot; omega
theorem slot_half {h t j : Nat} (ht : t < h) : slot h t j / 2 = slot h (t + 1) (j / 2) := by
  unfold slot
  rw [show h - t = (h - (t + 1)) + 1 by omega, Nat.pow_succ]
  omega
theorem slot_root (h : Nat) : slot h h 0 = 1 := by unfold slot; rw [Nat.sub_self]
theorem slot_leaf (h j : Nat) : slot h 0 j = 2 ^ h + j := rfl
theorem slot_sib {h t j : Nat} (ht : t < h) : slot h t (sib j) = sib (slot h t j) := by
  have h2 : 2 ^ (h - t) = 2 * 2 ^ (h - t - 1) := by
    rw [show h - t = (h - t - 1) + 1 by omega, Nat.pow_succ, Nat.add_sub_cancel, Nat.mul_comm]
  unfold slot sib
  rw [h2]
  split <;> split <;> omega
theorem slot_inj {h t t' j j' : Nat} (ht : t ≤ h) (ht' : t' ≤ h) (hj : j < 2 ^ (h - t)) (hj' : j' < 2 ^ (h - t')) (e : slot h t j = slot h t' j') : t = t' ∧ j = j' := by
  unfold slot at e
  have key : ∀ a b : Nat, a < b → 2 ^ a + 2 ^ a ≤ 2 ^ b := fun a b hab => by
    have := Nat.pow_le_pow_right (n := 2) (by decide) (show a + 1 ≤ b from hab)
    rw [Nat.pow_succ] at this
    omega
  rcases Nat.lt_trichotomy t t' with hlt | rfl | hlt
  · have := key (h - t') (h - t) (by omega); omega
  · exact ⟨rfl, by omega⟩
  · have := key (h - t) (h - t') (by omega); omega
theorem slot_lt {h t j : Nat} (ht : t ≤ h) (hj : j < 2 ^ (h - t)) : slot h t j < 2 ^ (h + 1) ∧ 0 < slot h t j := by
  unfold slot
  have h1 := Nat.one_le_two_pow (n := h - t)
  have h2 := Nat.pow_le_pow_right (n := 2) (by decide) (show h - t ≤ h by omega)
  rw [Nat.pow_succ]
  omega
end Go.Proofs.Ytknjdkgemkmoeaa
