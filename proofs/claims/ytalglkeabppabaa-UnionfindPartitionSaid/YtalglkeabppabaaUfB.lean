/- Package unionfind: heads, classes and groups: how many, in what order, and what a merge does to them. Nothing here speaks of its code. -/
import Derived.Test.YtalglkeabppabaaUf
namespace Go.Proofs.Ytalglkeabppabaa
namespace Uf
set_option linter.unusedSimpArgs false
set_option linter.unusedVariables false

/-! ## Lists -/
theorem nodup_le : ∀ {l m : List Nat}, l.Nodup → (∀ x, x ∈ l → x ∈ m) → l.length ≤ m.length
  | [], _, _, _ => Nat.zero_le _
  | x :: l, m, h, hs => by
    rw [List.nodup_cons] at h
    have hx : x ∈ m := hs x (List.mem_cons_self ..)
    have := nodup_le (l := l) (m := m.erase x) h.2 (fun y hy => (List.mem_erase_of_ne (fun e => h.1 (by rw [← e]; exact hy))).2 (hs y (List.mem_cons_of_mem _ hy)))
    rw [List.length_erase_of_mem hx] at this
    have hp := List.length_pos_of_mem hx
    simp only [List.length_cons]
    omega
theorem nodup_len {l m : List Nat} (hl : l.Nodup) (hm : m.Nodup) (h : ∀ x, x ∈ l ↔ x ∈ m) : l.length = m.length :=
  Nat.le_antisymm (nodup_le hl fun x => (h x).1) (nodup_le hm fun x => (h x).2)
theorem filter_two {α : Type} (p q : α → Bool) : ∀ (l : List α), (∀ x, x ∈ l → ¬ (p x = true ∧ q x = true)) → (l.filter p).length + (l.filter q).length = (l.filter fun x => p x || q x).length
  | [], _ => rfl
  | x :: l, h => by
    have ih := filter_two p q l (fun y hy => h y (List.mem_cons_of_mem _ hy))
    have hx := h x (List.mem_cons_self ..)
    cases hp : p x <;> cases hq : q x <;> simp [List.filter_cons, hp, hq] at hx ⊢ <;> omega
theorem filter_not {α : Type} (p : α → Bool) : ∀ (l : List α), (l.filter p).length + (l.filter fun x => !p x).length = l.length
  | [] => rfl
  | x :: l => by
    have ih := filter_not p l
    cases hp : p x <;> simp [List.filter_cons, hp] <;> omega
theorem filter_one {p : Nat → Bool} {m : Nat} {l : List Nat} (hl : l.Nodup) (hm : m ∈ l) (h : ∀ x, x ∈ l → (p x = true ↔ x = m)) : (l.filter p).length = 1 := by
  have := nodup_len (l := l.filter p) (m := [m]) (hl.filter p) (by simp) (fun x => by
    rw [List.mem_filter, List.mem_singleton]
    constructor
    · rintro ⟨h1, h2⟩; exact (h x h1).1 h2
    · rintro rfl; exact ⟨hm, (h x hm).2 rfl⟩)
  simpa using this

/-! ## Heads -/
theorem hd_exists (f : Nat → Int) : ∀ i, ∃ p, p ≤ i ∧ f p = f i ∧ ∀ j, j < p → f j ≠ f i := by
  intro i
  induction i using Nat.strongRecOn with
  | _ i ih =>
    by_cases h : ∀ j, j < i → f j ≠ f i
    · exact ⟨i, Nat.le_refl _, rfl, h⟩
    · obtain ⟨j, hj⟩ := Classical.not_forall.1 h
      obtain ⟨hji, hne⟩ := Classical.not_imp.1 hj
      have e : f j = f i := Classical.not_not.1 hne
      obtain ⟨p, h1, h2, h3⟩ := ih j hji
      exact ⟨p, by omega, h2.trans e, fun l hl => by rw [← e]; exact h3 l hl⟩
theorem head_of {k : Nat} (f : Nat → Int) {i : Nat} (hi : i < k) : ∃ p, p ∈ heads k f ∧ p ≤ i ∧ f p = f i := by
  obtain ⟨p, h1, h2, h3⟩ := hd_exists f i
  exact ⟨p, mem_heads.2 ⟨by omega, fun j hj => by rw [h2]; exact h3 j hj⟩, h1, h2⟩
theorem head_unique {k : Nat} {f : Nat → Int} {p q : Nat} (hp : p ∈ heads k f) (hq : q ∈ heads k f) (h : f p = f q) : p = q := by
  rw [mem_heads] at hp hq
  rcases Nat.lt_trichotomy p q with hl | hl | hl
  · exact absurd h (hq.2 p hl)
  · exact hl
  · exact absurd h.symm (hp.2 q hl)
theorem heads_sorted (k : Nat) (f : Nat → Int) : (heads k f).Pairwise (· < ·) := List.Pairwise.filter _ List.pairwise_lt_range
theorem heads_nodup (k : Nat) (f : Nat → Int) : (heads k f).Nodup := (heads_sorted k f).imp Nat.ne_of_lt
theorem cls_sorted (k : Nat) (f : Nat → Int) (i : Nat) : (cls k f i).Pairwise (· < ·) := List.Pairwise.filter _ List.pairwise_lt_range
theorem cls_nodup (k : Nat) (f : Nat → Int) (i : Nat) : (cls k f i).Nodup := (cls_sorted k f i).imp Nat.ne_of_lt
theorem cls_eq {k : Nat} {f : Nat → Int} {i j : Nat} (h : f i = f j) : cls k f i = cls k f j := by unfold cls; rw [h]
/-- A class begins with its head. -/
theorem cls_head {k : Nat} {f : Nat → Int} {i : Nat} (hi : i ∈ heads k f) : ∃ r, cls k f i = i :: r := by
  have h := mem_heads.1 hi
  have hm : i ∈ cls k f i := mem_cls.2 ⟨h.1, rfl⟩
  have hs := cls_sorted k f i
  cases hc : cls k f i with
  | nil => rw [hc] at hm; cases hm
  | cons x r =>
    refine ⟨r, ?_⟩
    have hx : x ∈ cls k f i := by rw [hc]; exact List.mem_cons_self ..
    have hx' := mem_cls.1 hx
    rw [hc] at hm hs
    rcases List.mem_cons.1 hm with e | e
    · rw [e]
    · have hlt := (List.pairwise_cons.1 hs).1 i e
      exact absurd hx'.2 (h.2 x hlt)
theorem grps_length (k : Nat) (f : Nat → Int) : (grps k f).length = (heads k f).length := by unfold grps; rw [List.length_map]

/-! ## How many -/
theorem sum_cls (k : Nat) (f : Nat → Int) (L : List Nat) : ∀ (H : List Nat), H.Pairwise (fun p q => f p ≠ f q) →
    (H.map fun i => (L.filter fun j => decide (f j = f i)).length).sum = (L.filter fun j => H.any fun i => decide (f j = f i)).length
  | [], _ => by
    have : (L.filter fun j => ([] : List Nat).any fun i => decide (f j = f i)) = [] := List.filter_eq_nil_iff.2 (by simp)
    rw [this]
    rfl
  | i :: H, h => by
    rw [List.pairwise_cons] at h
    rw [List.map_cons, List.sum_cons, sum_cls k f L H h.2]
    have := filter_two (fun j => decide (f j = f i)) (fun j => H.any fun i => decide (f j = f i)) L (fun x _ => by
      rintro ⟨h1, h2⟩
      rw [decide_eq_true_iff] at h1
      rw [List.any_eq_true] at h2
      obtain ⟨q, hq, h3⟩ := h2
      rw [decide_eq_true_iff] at h3
      exact h.1 q hq (h1.symm.trans h3))
    rw [this]
    simp only [List.any_cons]
/-- The groups have k elements together. -/
theorem grps_sum (k : Nat) (f : Nat → Int) : ((grps k f).map List.length).sum = k := by
  unfold grps
  rw [List.map_map]
  have h := sum_cls k f (List.range k) (heads k f) ((heads_nodup k f).imp_of_mem fun {p q} hp hq hne e => hne (head_unique hp hq e))
  have e : (List.length ∘ cls k f) = fun i => ((List.range k).filter fun j => decide (f j = f i)).length := rfl
  rw [e, h, List.filter_eq_self.2, List.length_range]
  intro j hj
  obtain ⟨p, hp, _, h2⟩ := head_of f (List.mem_range.1 hj)
  exact List.any_eq_true.2 ⟨p, hp, decide_eq_true h2.symm⟩
theorem heads_idL (k : Nat) : heads k idL = List.range k := by
  unfold heads
  rw [List.filter_eq_self]
  intro i _
  rw [isHead_iff]
  intro j hj e
  unfold idL at e
  omega

/-! ## What a merge does -/
section
variable {k : Nat} {f : Nat → Int} {a b p q : Nat}
theorem isHead_mrg (hp : p ∈ heads k f) (hq : q ∈ heads k f) (hpa : f p = f a) (hqb : f q = f b) (hne : f a ≠ f b) {i : Nat} (hi : i < k) :
    (isHead (mrg f a b) i = true) ↔ isHead f i = true ∧ i ≠ max p q := by
  have hp' := (mem_heads.1 hp).2
  have hq' := (mem_heads.1 hq).2
  have hpq : p ≠ q := fun e => hne (by rw [← hpa, ← hqb, e])
  rw [isHead_iff, isHead_iff]
  constructor
  · intro H
    refine ⟨fun j hj e => H j hj (mrg_keep e), ?_⟩
    rintro rfl
    rcases Nat.lt_or_ge p q with h | h
    · refine H p (by omega) ((mrg_iff _ _).2 (.inr (.inl ⟨hpa, ?_⟩)))
      rw [show max p q = q by omega]; exact hqb
    · refine H q (by omega) ((mrg_iff _ _).2 (.inr (.inr ⟨hqb, ?_⟩)))
      rw [show max p q = p by omega]; exact hpa
  · rintro ⟨H, hm⟩ j hj e
    have hih : i ∈ heads k f := mem_heads.2 ⟨hi, H⟩
    rcases (mrg_iff _ _).1 e with h | ⟨h1, h2⟩ | ⟨h1, h2⟩
    · exact H j hj h
    · obtain rfl : i = q := head_unique hih hq (h2.trans hqb.symm)
      have : p ≤ j := by
        rcases Nat.lt_or_ge j p with hl | hl
        · exact absurd (h1.trans hpa.symm) (hp' j hl)
        · exact hl
      omega
    · obtain rfl : i = p := head_unique hih hp (h2.trans hpa.symm)
      have : q ≤ j := by
        rcases Nat.lt_or_ge j q with hl | hl
        · exact absurd (h1.trans hqb.symm) (hq' j hl)
        · exact hl
      omega
/-- A merge leaves one head less. -/
theorem heads_mrg (ha : a < k) (hb : b < k) (hne : f a ≠ f b) : (heads k (mrg f a b)).length + 1 = (heads k f).length := by
  obtain ⟨p, hp, _, hpa⟩ := head_of f ha
  obtain ⟨q, hq, _, hqb⟩ := head_of f hb
  have hm : max p q ∈ heads k f := by
    rcases Nat.le_total p q with h | h
    · rw [Nat.max_eq_right h]; exact hq
    · rw [Nat.max_eq_left h]; exact hp
  have e : heads k (mrg f a b) = (heads k f).filter fun i => !decide (i = max p q) := by
    unfold heads
    rw [List.filter_filter]
    apply List.filter_congr
    intro i hi
    rw [Bool.eq_iff_iff, isHead_mrg hp hq hpa hqb hne (List.mem_range.1 hi)]
    simp [and_comm]
  have h1 := filter_not (fun i => decide (i = max p q)) (heads k f)
  have h2 := filter_one (p := fun i => decide (i = max p q)) (heads_nodup k f) hm (fun x _ => decide_eq_true_iff)
  rw [e]
  omega
theorem cls_mrg (hne : f a ≠ f b) {i : Nat} (h1 : f i ≠ f a) (h2 : f i ≠ f b) : cls k (mrg f a b) i = cls k f i := by
  unfold cls
  apply List.filter_congr
  intro j _
  rw [Bool.eq_iff_iff, decide_eq_true_iff, decide_eq_true_iff, mrg_iff]
  constructor
  · rintro (h | ⟨_, h⟩ | ⟨_, h⟩)
    · exact h
    · exact absurd h h2
    · exact absurd h h1
  · exact .inl
/-- Which of the old groups are among the new ones. -/
theorem found_iff (ha : a < k) (hb : b < k) (hne : f a ≠ f b) {i : Nat} (hi : i ∈ heads k f) : cls k f i ∈ grps k (mrg f a b) ↔ f i ≠ f a ∧ f i ≠ f b := by
  have hik := (mem_heads.1 hi).1
  constructor
  · intro h
    obtain ⟨i', hi', e⟩ := List.mem_map.1 h
    have hii : i ∈ cls k (mrg f a b) i' := by rw [e]; exact mem_cls.2 ⟨hik, rfl⟩
    have g1 := (mem_cls.1 hii).2
    constructor
    · intro h1
      have g2 : mrg f a b b = mrg f a b i' := (mrg_ends f a b).symm.trans ((mrg_keep h1).symm.trans g1)
      have : b ∈ cls k f i := by rw [← e]; exact mem_cls.2 ⟨hb, g2⟩
      exact hne (h1.symm.trans (mem_cls.1 this).2.symm)
    · intro h1
      have g2 : mrg f a b a = mrg f a b i' := (mrg_ends f a b).trans ((mrg_keep h1).symm.trans g1)
      have : a ∈ cls k f i := by rw [← e]; exact mem_cls.2 ⟨ha, g2⟩
      exact hne ((mem_cls.1 this).2.trans h1)
  · rintro ⟨h1, h2⟩
    obtain ⟨p, hp, _, hpa⟩ := head_of f ha
    obtain ⟨q, hq, _, hqb⟩ := head_of f hb
    refine List.mem_map.2 ⟨i, mem_heads.2 ⟨hik, isHead_iff.1 ((isHead_mrg hp hq hpa hqb hne hik).2 ⟨isHead_iff.2 (mem_heads.1 hi).2, ?_⟩)⟩, cls_mrg hne h1 h2⟩
    rintro rfl
    rcases Nat.le_total p q with h | h
    · rw [Nat.max_eq_right h] at h2; exact h2 hqb
    · rw [Nat.max_eq_left h] at h1; exact h1 hpa
/-- Two of the old groups are not among the new ones. -/
theorem lost_two (ha : a < k) (hb : b < k) (hne : f a ≠ f b) : ((heads k f).filter fun i => decide (f i = f a) || decide (f i = f b)).length = 2 := by
  obtain ⟨p, hp, _, hpa⟩ := head_of f ha
  obtain ⟨q, hq, _, hqb⟩ := head_of f hb
  rw [← filter_two (fun i => decide (f i = f a)) (fun i => decide (f i = f b)) (heads k f) (fun x _ => by
    rintro ⟨h1, h2⟩
    rw [decide_eq_true_iff] at h1 h2
    exact hne (h1.symm.trans h2))]
  rw [filter_one (heads_nodup k f) hp (fun x hx => by rw [decide_eq_true_iff]; exact ⟨fun h => head_unique hx hp (h.trans hpa.symm), fun h => by rw [h]; exact hpa⟩),
    filter_one (heads_nodup k f) hq (fun x hx => by rw [decide_eq_true_iff]; exact ⟨fun h => head_unique hx hq (h.trans hqb.symm), fun h => by rw [h]; exact hqb⟩)]
end

/-! ## What can be reached -/
/-- A list that holds a start and with each number all that an edge leads to, holds the whole of the start's island. -/
theorem reach_all {k : Nat} {E : List (Int × Int)} {r : List Nat} (hcl : ∀ a b, (a, b) ∈ E → inB k a = true → inB k b = true → (a.toNat ∈ r ↔ b.toNat ∈ r)) {i j : Nat} (h : Conn k E i j) : i ∈ r ↔ j ∈ r := by
  induction h with
  | refl i => exact Iff.rfl
  | edge a b h ha hb => exact hcl a b h ha hb
  | symm _ ih => exact ih.symm
  | trans _ _ ih ih' => exact ih.trans ih'
theorem reach_len {k : Nat} {E : List (Int × Int)} {r : List Nat} {s : Nat} (hs : s ∈ r) (hn : r.Nodup) (hk : ∀ x, x ∈ r → x < k ∧ Conn k E s x)
    (hcl : ∀ a b, (a, b) ∈ E → inB k a = true → inB k b = true → (a.toNat ∈ r ↔ b.toNat ∈ r)) :
    (∀ x, x ∈ r ↔ x ∈ cls k (playF k idL E) s) ∧ r.length = (cls k (playF k idL E) s).length := by
  have h : ∀ x, x ∈ r ↔ x ∈ cls k (playF k idL E) s := fun x => by
    rw [mem_cls, play_conn]
    exact ⟨fun hx => ⟨(hk x hx).1, (hk x hx).2.symm⟩, fun hx => (reach_all hcl hx.2).2 hs⟩
  exact ⟨h, nodup_len hn (cls_nodup _ _ _) h⟩
end Uf
end Go.Proofs.Ytalglkeabppabaa
