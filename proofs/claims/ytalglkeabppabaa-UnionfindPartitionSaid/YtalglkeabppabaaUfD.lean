/- Package unionfind: a slice of parents as a forest: what shortening a path and linking two roots do to it; groups gathered in the order of their heads. Nothing here speaks of the package's code. -/
import Derived.Test.YtalglkeabppabaaUfC
namespace Go.Proofs.Ytalglkeabppabaa
namespace Uf
set_option linter.unusedSimpArgs false
set_option linter.unusedVariables false

def upd (P : Nat → Nat) (a b : Nat) : Nat → Nat := fun i => if i = a then b else P i
theorem upd_at (P : Nat → Nat) (a b : Nat) : upd P a b a = b := by unfold upd; rw [if_pos rfl]
theorem upd_ne {P : Nat → Nat} {a b i : Nat} (h : i ≠ a) : upd P a b i = P i := by unfold upd; rw [if_neg h]

/-- P: the parents; R: the roots; d falls on the way up. -/
structure Forest (k : Nat) (P R d : Nat → Nat) : Prop where
  lt : ∀ i, i < k → P i < k
  rlt : ∀ i, i < k → R i < k
  step : ∀ i, i < k → R (P i) = R i
  root : ∀ i, i < k → P (R i) = R i
  fix : ∀ i, i < k → P i = i → R i = i
  down : ∀ i, i < k → P i ≠ i → d (P i) < d i
section
variable {k : Nat} {P R d : Nat → Nat}
theorem Forest.start (k : Nat) : Forest k (fun i => i) (fun i => i) (fun _ => 0) :=
  ⟨fun _ h => h, fun _ h => h, fun _ _ => rfl, fun _ _ => rfl, fun _ _ h => h, fun _ _ h => absurd rfl h⟩
theorem Forest.rr (h : Forest k P R d) {i : Nat} (hi : i < k) : R (R i) = R i := h.fix _ (h.rlt i hi) (h.root i hi)
/-- A root is reached: an element that is its own parent is the root of whatever has it on its way. -/
theorem Forest.top (h : Forest k P R d) {a i : Nat} (hi : i < k) (e : R i = R a) (ht : P i = i) : i = R a := by rw [← e]; exact (h.fix i hi ht).symm
/-- Shortening: a's parent becomes another one of the same tree that lies higher. -/
theorem Forest.shorten (h : Forest k P R d) {a b : Nat} (ha : a < k) (hb : b < k) (hne : P a ≠ a) (hr : R b = R a) (hd : d b < d a) : Forest k (upd P a b) R d := by
  have hra : ∀ i, i < k → R i ≠ a := fun i hi e => hne (by have := h.root i hi; rwa [e] at this)
  refine ⟨fun i hi => ?_, h.rlt, fun i hi => ?_, fun i hi => ?_, fun i hi e => ?_, fun i hi e => ?_⟩
  · by_cases hia : i = a
    · rw [hia, upd_at]; exact hb
    · rw [upd_ne hia]; exact h.lt i hi
  · by_cases hia : i = a
    · rw [hia, upd_at]; exact hr
    · rw [upd_ne hia]; exact h.step i hi
  · rw [upd_ne (hra i hi)]; exact h.root i hi
  · by_cases hia : i = a
    · rw [hia, upd_at] at e
      subst e
      omega
    · rw [upd_ne hia] at e; exact h.fix i hi e
  · by_cases hia : i = a
    · rw [hia, upd_at]; exact hd
    · rw [upd_ne hia] at e ⊢; exact h.down i hi e
/-- Halving: a's parent becomes its grandparent. -/
theorem Forest.halve (h : Forest k P R d) {a : Nat} (ha : a < k) (hne : P a ≠ a) : Forest k (upd P a (P (P a))) R d := by
  have hp := h.lt a ha
  by_cases e : P (P a) = P a
  · rw [e]
    have : upd P a (P a) = P := funext fun i => by
      by_cases hia : i = a
      · rw [hia, upd_at]
      · rw [upd_ne hia]
    rw [this]; exact h
  · exact h.shorten ha (h.lt _ hp) hne ((h.step _ hp).trans (h.step _ ha)) (Nat.lt_trans (h.down _ hp e) (h.down _ ha hne))
/-- Compressing: a's parent becomes its root. -/
theorem Forest.down_root (h : Forest k P R d) : ∀ (n : Nat) {a : Nat}, a < k → d a ≤ n → P a ≠ a → d (R a) < d a
  | 0, a, ha, hd, hne => by have := h.down a ha hne; omega
  | n + 1, a, ha, hd, hne => by
    have h1 := h.down a ha hne
    by_cases e : P (P a) = P a
    · have := h.fix _ (h.lt a ha) e
      rw [h.step a ha] at this
      rw [this]; exact h1
    · have := h.down_root n (h.lt a ha) (by omega) e
      rw [h.step a ha] at this
      omega
theorem Forest.compress (h : Forest k P R d) {a : Nat} (ha : a < k) (hne : P a ≠ a) : Forest k (upd P a (R a)) R d :=
  h.shorten ha (h.rlt a ha) hne (h.rr ha) (h.down_root _ ha (Nat.le_refl _) hne)
/-- Linking: the root y becomes a child of the root x. -/
theorem Forest.link (h : Forest k P R d) {x y : Nat} (hx : x < k) (hy : y < k) (ex : P x = x) (ey : P y = y) (hne : x ≠ y) :
    Forest k (upd P y x) (fun i => if R i = y then x else R i) (fun i => if R i = y then d i + d x + 1 else d i) := by
  have rx := h.fix x hx ex
  have ry := h.fix y hy ey
  refine ⟨fun i hi => ?_, fun i hi => ?_, fun i hi => ?_, fun i hi => ?_, fun i hi e => ?_, fun i hi e => ?_⟩
  · by_cases hiy : i = y
    · rw [hiy, upd_at]; exact hx
    · rw [upd_ne hiy]; exact h.lt i hi
  · show (if R i = y then x else R i) < k
    split
    · exact hx
    · exact h.rlt i hi
  · by_cases hiy : i = y
    · rw [hiy, upd_at]
      show (if R x = y then x else R x) = (if R y = y then x else R y)
      rw [rx, ry, if_neg hne, if_pos rfl]
    · rw [upd_ne hiy]
      show (if R (P i) = y then x else R (P i)) = (if R i = y then x else R i)
      rw [h.step i hi]
  · show upd P y x (if R i = y then x else R i) = (if R i = y then x else R i)
    split
    · rw [upd_ne hne]; exact ex
    · rename_i hr
      rw [upd_ne hr]; exact h.root i hi
  · show (if R i = y then x else R i) = i
    by_cases hiy : i = y
    · rw [hiy, upd_at] at e; exact absurd e hne
    · rw [upd_ne hiy] at e
      have := h.fix i hi e
      rw [if_neg (by rw [this]; exact hiy)]; exact this
  · by_cases hiy : i = y
    · rw [hiy, upd_at]
      show (if R x = y then d x + d x + 1 else d x) < (if R y = y then d y + d x + 1 else d y)
      rw [rx, ry, if_neg hne, if_pos rfl]
      omega
    · rw [upd_ne hiy] at e ⊢
      show (if R (P i) = y then d (P i) + d x + 1 else d (P i)) < (if R i = y then d i + d x + 1 else d i)
      rw [h.step i hi]
      have := h.down i hi e
      split <;> omega
end

/-- The forest says what the labels say. -/
structure Reps (k : Nat) (P : Nat → Nat) (f : Nat → Int) : Prop where
  forest : ∃ R d, Forest k P R d ∧ ∀ i j, i < k → j < k → (R i = R j ↔ f i = f j)
theorem Reps.start (k : Nat) : Reps k (fun i => i) idL := ⟨_, _, Forest.start k, fun i j _ _ => by unfold idL; omega⟩
theorem Reps.link {k : Nat} {P R d : Nat → Nat} {f : Nat → Int} (h : Forest k P R d) (hf : ∀ i j, i < k → j < k → (R i = R j ↔ f i = f j)) {a b : Nat} (ha : a < k) (hb : b < k) (hne : R a ≠ R b) :
    Reps k (upd P (R b) (R a)) (mrg f a b) ∧ Reps k (upd P (R a) (R b)) (mrg f a b) := by
  refine ⟨⟨_, _, h.link (h.rlt a ha) (h.rlt b hb) (h.root a ha) (h.root b hb) hne, fun i j hi hj => ?_⟩, ⟨_, _, h.link (h.rlt b hb) (h.rlt a ha) (h.root b hb) (h.root a ha) (Ne.symm hne), fun i j hi hj => ?_⟩⟩
  all_goals
    rw [mrg_iff, ← hf i j hi hj, ← hf i a hi ha, ← hf j b hj hb, ← hf i b hi hb, ← hf j a hj ha]
    generalize R i = ri at *
    generalize R j = rj at *
    generalize R a = ra at *
    generalize R b = rb at *
    split <;> split <;> omega

/-! ## Groups in the order of their heads, as far as i elements have been seen -/
def hds (f : Nat → Int) (i : Nat) : List Nat := (List.range i).filter (isHead f)
def outP (f : Nat → Int) (i : Nat) : List (List Nat) := (hds f i).map fun h => clsL f h i
theorem outP_end (k : Nat) (f : Nat → Int) : outP f k = grps k f := rfl
theorem hds_yes {f : Nat → Int} {i : Nat} (h : isHead f i = true) : hds f (i + 1) = hds f i ++ [i] := upto_yes h
theorem hds_no {f : Nat → Int} {i : Nat} (h : isHead f i = false) : hds f (i + 1) = hds f i := upto_no h
theorem mem_hds {f : Nat → Int} {i p : Nat} : p ∈ hds f i ↔ p < i ∧ isHead f p = true := by unfold hds; rw [List.mem_filter, List.mem_range]
theorem hds_le (f : Nat → Int) {p i : Nat} (h : p ≤ i) : ∃ r, hds f i = hds f p ++ r := by
  induction i with
  | zero => obtain rfl : p = 0 := by omega
            exact ⟨[], by simp⟩
  | succ i ih =>
    by_cases e : p = i + 1
    · subst e; exact ⟨[], by simp⟩
    · obtain ⟨r, hr⟩ := ih (by omega)
      cases hi : isHead f i with
      | true => exact ⟨r ++ [i], by rw [hds_yes hi, hr, List.append_assoc]⟩
      | false => exact ⟨r, by rw [hds_no hi, hr]⟩
/-- The place of a head among the heads: how many stand before it. -/
def posH (f : Nat → Int) (p : Nat) : Nat := (hds f p).length
theorem posH_at {f : Nat → Int} {p i : Nat} (hp : isHead f p = true) (h : p < i) : (hds f i)[posH f p]? = some p := by
  obtain ⟨r, hr⟩ := hds_le f (show p + 1 ≤ i from h)
  rw [hr, hds_yes hp, List.append_assoc, List.getElem?_append_right (by unfold posH; omega)]
  unfold posH
  simp
theorem posH_lt {f : Nat → Int} {p i : Nat} (hp : isHead f p = true) (h : p < i) : posH f p < (hds f i).length := by
  have := posH_at hp h
  exact (List.getElem?_eq_some_iff.1 this).1
theorem posH_inj {f : Nat → Int} {p q : Nat} (hp : isHead f p = true) (hq : isHead f q = true) (h : posH f p = posH f q) : p = q := by
  have h1 := posH_at hp (show p < p + q + 1 by omega)
  have h2 := posH_at hq (show q < p + q + 1 by omega)
  rw [h, h2] at h1
  exact (Option.some.inj h1).symm
/-- A new head: a group of its own behind the others. -/
theorem outP_new {f : Nat → Int} {i : Nat} (h : isHead f i = true) : outP f (i + 1) = outP f i ++ [[i]] := by
  unfold outP
  rw [hds_yes h, List.map_append, List.map_singleton]
  have e1 : (hds f i).map (fun h => clsL f h (i + 1)) = (hds f i).map fun h => clsL f h i := List.map_congr_left fun p hp => by
    rw [mem_hds] at hp
    exact clsL_no fun e => isHead_iff.1 h p hp.1 e.symm
  have e2 : clsL f i (i + 1) = [i] := by
    rw [clsL_yes rfl]
    have : clsL f i i = [] := by
      unfold clsL
      rw [List.filter_eq_nil_iff]
      intro x hx
      rw [decide_eq_true_iff]
      exact isHead_iff.1 h x (List.mem_range.1 hx)
    rw [this]; rfl
  rw [e1, e2]
/-- No head: the group of its head is longer by it. -/
theorem outP_old {f : Nat → Int} {i p : Nat} (hp : isHead f p = true) (hpi : p < i) (e : f p = f i) : isHead f i = false ∧ (outP f i)[posH f p]? = some (clsL f p i) ∧ outP f (i + 1) = (outP f i).set (posH f p) (clsL f p i ++ [i]) := by
  have hi : isHead f i = false := by
    rw [Bool.eq_false_iff]
    exact fun h => isHead_iff.1 h p hpi e
  have hat := posH_at hp hpi
  refine ⟨hi, by unfold outP; rw [List.getElem?_map, hat]; rfl, ?_⟩
  have hl : posH f p < (hds f i).length := posH_lt hp hpi
  refine List.ext_getElem? fun t => ?_
  unfold outP
  rw [hds_no hi, List.getElem?_map, List.getElem?_set]
  by_cases ht : posH f p = t
  · subst ht
    rw [if_pos rfl, if_pos (by rw [List.length_map]; exact hl), hat]
    exact congrArg some (clsL_yes e.symm)
  · rw [if_neg ht, List.getElem?_map]
    cases hq : (hds f i)[t]? with
    | none => rfl
    | some q =>
      have hqm : q ∈ hds f i := List.mem_of_getElem? hq
      rw [mem_hds] at hqm
      refine congrArg some (clsL_no fun e' => ht ?_)
      have hpq : p = q := head_unique (k := i) (mem_heads.2 ⟨hpi, isHead_iff.1 hp⟩) (mem_heads.2 ⟨hqm.1, isHead_iff.1 hqm.2⟩) (e.trans e')
      subst hpq
      have h1 := (List.getElem?_eq_some_iff.1 hq)
      have h2 := (List.getElem?_eq_some_iff.1 hat)
      have hnd : (hds f i).Nodup := (List.Pairwise.filter _ List.pairwise_lt_range : (hds f i).Pairwise (· < ·)).imp Nat.ne_of_lt
      exact (List.getElem_inj hnd).1 (h2.2.trans h1.2.symm)
end Uf
end Go.Proofs.Ytalglkeabppabaa
