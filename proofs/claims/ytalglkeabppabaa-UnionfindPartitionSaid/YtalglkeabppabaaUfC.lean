/- Package unionfind: the steps of the loops that gather labels, heads, classes and what can be reached. Nothing here speaks of its code. -/
import Derived.Test.YtalglkeabppabaaUfB
import Derived.Test.YtalglkeabppabaaLists
namespace Go.Proofs.Ytalglkeabppabaa
namespace Uf
set_option linter.unusedSimpArgs false
set_option linter.unusedVariables false

theorem upto_yes {p : Nat → Bool} {i : Nat} (h : p i = true) : (List.range (i + 1)).filter p = (List.range i).filter p ++ [i] := by
  rw [List.range_succ, List.filter_append, List.filter_cons_of_pos h, List.filter_nil]
theorem upto_no {p : Nat → Bool} {i : Nat} (h : p i = false) : (List.range (i + 1)).filter p = (List.range i).filter p := by
  rw [List.range_succ, List.filter_append, List.filter_cons_of_neg (by rw [h]; simp), List.filter_nil, List.append_nil]

/-! ## Labels as a list -/
def labs (n : Nat) (f : Nat → Int) : List Int := (List.range n).map f
theorem labs_length (n : Nat) (f : Nat → Int) : (labs n f).length = n := by simp [labs]
theorem labs_at {n i : Nat} (f : Nat → Int) (h : i < n) : (labs n f)[i]? = some (f i) := by simp [labs, h]
theorem labs_succ (n : Nat) (f : Nat → Int) : labs (n + 1) f = labs n f ++ [f n] := by simp [labs, List.range_succ]
theorem labs_zero (f : Nat → Int) : labs 0 f = [] := rfl
theorem labs_congr {n : Nat} {f g : Nat → Int} (h : ∀ i, i < n → f i = g i) : labs n f = labs n g := by
  unfold labs
  exact List.map_congr_left fun i hi => h i (List.mem_range.1 hi)

/-! ## The reference's Groups: after i elements -/
/-- The labels that are done after i elements. -/
def doneL (f : Nat → Int) (i : Nat) : List Int := ((List.range i).filter (isHead f)).map f
/-- The groups after i elements, of n in all. -/
def outL (n : Nat) (f : Nat → Int) (i : Nat) : List (List Nat) := ((List.range i).filter (isHead f)).map (cls n f)
/-- A class, the elements below j. -/
def clsL (f : Nat → Int) (i j : Nat) : List Nat := (List.range j).filter fun x => decide (f x = f i)
theorem mem_doneL {f : Nat → Int} {i : Nat} : f i ∈ doneL f i ↔ isHead f i = false := by
  unfold doneL
  rw [List.mem_map]
  constructor
  · rintro ⟨j, hj, e⟩
    rw [List.mem_filter, List.mem_range] at hj
    rw [Bool.eq_false_iff]
    intro h
    exact isHead_iff.1 h j hj.1 e
  · intro h
    obtain ⟨p, h1, h2, h3⟩ := hd_exists f i
    have hp : p ≠ i := by
      rintro rfl
      rw [isHead_iff.2 h3] at h
      cases h
    exact ⟨p, List.mem_filter.2 ⟨List.mem_range.2 (by omega), isHead_iff.2 (fun j hj => by rw [h2]; exact h3 j hj)⟩, h2⟩
theorem doneL_yes {f : Nat → Int} {i : Nat} (h : isHead f i = true) : doneL f (i + 1) = doneL f i ++ [f i] := by
  unfold doneL; rw [upto_yes h, List.map_append]; rfl
theorem doneL_no {f : Nat → Int} {i : Nat} (h : isHead f i = false) : doneL f (i + 1) = doneL f i := by
  unfold doneL; rw [upto_no h]
theorem outL_yes {n : Nat} {f : Nat → Int} {i : Nat} (h : isHead f i = true) : outL n f (i + 1) = outL n f i ++ [cls n f i] := by
  unfold outL; rw [upto_yes h, List.map_append]; rfl
theorem outL_no {n : Nat} {f : Nat → Int} {i : Nat} (h : isHead f i = false) : outL n f (i + 1) = outL n f i := by
  unfold outL; rw [upto_no h]
theorem outL_end (n : Nat) (f : Nat → Int) : outL n f n = grps n f := rfl
theorem clsL_yes {f : Nat → Int} {i j : Nat} (h : f j = f i) : clsL f i (j + 1) = clsL f i j ++ [j] := upto_yes (decide_eq_true h)
theorem clsL_no {f : Nat → Int} {i j : Nat} (h : f j ≠ f i) : clsL f i (j + 1) = clsL f i j := upto_no (decide_eq_false h)
theorem clsL_end (n : Nat) (f : Nat → Int) (i : Nat) : clsL f i n = cls n f i := rfl
theorem doneL_len (f : Nat → Int) (i : Nat) : (doneL f i).length ≤ i := by
  unfold doneL; rw [List.length_map]; have := List.length_filter_le (isHead f) (List.range i); rwa [List.length_range] at this
theorem outL_len (n : Nat) (f : Nat → Int) (i : Nat) : (outL n f i).length ≤ i := by
  unfold outL; rw [List.length_map]; have := List.length_filter_le (isHead f) (List.range i); rwa [List.length_range] at this
theorem clsL_len (f : Nat → Int) (i j : Nat) : (clsL f i j).length ≤ j := by
  unfold clsL; have := List.length_filter_le (fun x => decide (f x = f i)) (List.range j); rwa [List.length_range] at this

/-! ## How many are left -/
theorem heads_uni (k : Nat) (f : Nat → Int) (a b : Int) : (heads k (uniF k f a b)).length + (if canU k f a b = true then 1 else 0) = (heads k f).length := by
  unfold uniF
  split
  · rename_i h
    rw [canU_iff] at h
    exact heads_mrg (inB_lt h.1) (inB_lt h.2.1) h.2.2
  · rfl
theorem canU_after {k : Nat} {f : Nat → Int} {a b : Int} (h : inB k a = true → inB k b = true → f a.toNat = f b.toNat) : canU k f a b = false := by
  rw [Bool.eq_false_iff]
  intro hc
  rw [canU_iff] at hc
  exact hc.2.2 (h hc.1 hc.2.1)
theorem uniF_none {k : Nat} {f : Nat → Int} {a b : Int} (h : canU k f a b = false) : uniF k f a b = f := by
  unfold uniF; rw [if_neg (by rw [h]; simp)]
theorem sameF_after {k : Nat} {f : Nat → Int} {a b : Int} (h : inB k a = true → inB k b = true → f a.toNat = f b.toNat) : sameF k f a b = (inB k a && inB k b) := by
  rw [Bool.eq_iff_iff, sameF_iff, Bool.and_eq_true]
  exact ⟨fun ⟨h1, h2, _⟩ => ⟨h1, h2⟩, fun ⟨h1, h2⟩ => ⟨h1, h2, h h1 h2⟩⟩
theorem sameF_symm (k : Nat) (f : Nat → Int) (a b : Int) : sameF k f a b = sameF k f b a := by
  rw [Bool.eq_iff_iff, sameF_iff, sameF_iff]
  exact ⟨fun ⟨h1, h2, h3⟩ => ⟨h2, h1, h3.symm⟩, fun ⟨h1, h2, h3⟩ => ⟨h2, h1, h3.symm⟩⟩
theorem sameF_trans {k : Nat} {f : Nat → Int} {a b c : Int} (h : sameF k f a b = true) (h' : sameF k f b c = true) : sameF k f a c = true := by
  rw [sameF_iff] at *
  exact ⟨h.1, h'.2.1, h.2.2.trans h'.2.2⟩

/-! ## All groups one behind the other -/
/-- The elements of the first t groups and the first j of the next. -/
theorem flat_nodup (k : Nat) (f : Nat → Int) : (grps k f).flatten.Nodup := by
  unfold grps
  unfold List.Nodup
  rw [List.pairwise_flatten]
  constructor
  · intro l hl
    obtain ⟨i, _, rfl⟩ := List.mem_map.1 hl
    exact cls_nodup k f i
  · rw [List.pairwise_map]
    refine (heads_nodup k f).imp_of_mem fun {p q} hp hq hne => ?_
    rintro x hx y hx' rfl
    exact hne (head_unique hp hq ((mem_cls.1 hx).2.symm.trans (mem_cls.1 hx').2))
theorem flat_len (k : Nat) (f : Nat → Int) : (grps k f).flatten.length = k := by
  rw [List.length_flatten]; exact grps_sum k f

/-! ## What can be reached: the search's steps -/
/-- All that an edge joins to u is in r. -/
def Led (k : Nat) (E : List (Int × Int)) (r : List Nat) (u : Nat) : Prop :=
  ∀ a b, (a, b) ∈ E → inB k a = true → inB k b = true → (a.toNat = u → b.toNat ∈ r) ∧ (b.toNat = u → a.toNat ∈ r)
theorem Led.mono {k : Nat} {E : List (Int × Int)} {r r' : List Nat} {u : Nat} (h : Led k E r u) (hr : ∀ x, x ∈ r → x ∈ r') : Led k E r' u :=
  fun a b hab ha hb => ⟨fun e => hr _ ((h a b hab ha hb).1 e), fun e => hr _ ((h a b hab ha hb).2 e)⟩
theorem Led.append {k : Nat} {E E' : List (Int × Int)} {r : List Nat} {u : Nat} (h : Led k E r u) (h' : Led k E' r u) : Led k (E ++ E') r u :=
  fun a b hab => by
    rcases List.mem_append.1 hab with h1 | h1
    · exact h a b h1
    · exact h' a b h1
theorem led_all {k : Nat} {E : List (Int × Int)} {r : List Nat} (h : ∀ u, u ∈ r → Led k E r u) : ∀ a b, (a, b) ∈ E → inB k a = true → inB k b = true → (a.toNat ∈ r ↔ b.toNat ∈ r) :=
  fun a b hab ha hb => ⟨fun hr => (h _ hr a b hab ha hb).1 rfl, fun hr => (h _ hr a b hab ha hb).2 rfl⟩
theorem reach_le {k : Nat} {r : List Nat} (hn : r.Nodup) (hk : ∀ x, x ∈ r → x < k) : r.length ≤ k := by
  have := nodup_le hn (m := List.range k) fun x hx => List.mem_range.2 (hk x hx)
  rwa [List.length_range] at this
end Uf
end Go.Proofs.Ytalglkeabppabaa
