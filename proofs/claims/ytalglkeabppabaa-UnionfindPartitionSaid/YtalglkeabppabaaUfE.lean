/- Package unionfind: the groups by index: what the laws' loops over groups ask. Nothing here speaks of the package's code. -/
import Derived.Test.YtalglkeabppabaaUfD
namespace Go.Proofs.Ytalglkeabppabaa
namespace Uf
set_option linter.unusedSimpArgs false
set_option linter.unusedVariables false

theorem flat_split {α : Type} : ∀ {gs : List (List α)} {t j : Nat} {g : List α} {x : α}, gs[t]? = some g → g[j]? = some x → ∃ r, gs.flatten = ((gs.take t).flatten ++ g.take j) ++ x :: r
  | [], t, j, g, x, h, _ => by simp at h
  | g' :: gs, 0, j, g, x, h, hx => by
    simp only [List.getElem?_cons_zero, Option.some.injEq] at h
    subst h
    obtain ⟨hj, e⟩ := List.getElem?_eq_some_iff.1 hx
    refine ⟨g'.drop (j + 1) ++ gs.flatten, ?_⟩
    rw [List.flatten_cons, List.take_zero, List.flatten_nil, List.nil_append]
    conv => lhs; rw [← List.take_append_drop j g', List.drop_eq_getElem_cons hj, e]
    rw [List.append_assoc, List.cons_append]
  | g' :: gs, t + 1, j, g, x, h, hx => by
    obtain ⟨r, hr⟩ := flat_split (gs := gs) (t := t) (by simpa using h) hx
    exact ⟨r, by rw [List.flatten_cons, hr, List.take_succ_cons, List.flatten_cons, List.append_assoc, List.append_assoc, List.append_assoc]⟩
/-- What stands at place j of group t stands nowhere before. -/
theorem not_before {k : Nat} {f : Nat → Int} {t j : Nat} {g : List Nat} {x : Nat} (hg : (grps k f)[t]? = some g) (hx : g[j]? = some x) : x ∉ ((grps k f).take t).flatten ++ g.take j := by
  obtain ⟨r, hr⟩ := flat_split hg hx
  have hn := flat_nodup k f
  rw [hr] at hn
  intro hm
  exact (List.nodup_append.1 hn).2.2 x hm x (List.mem_cons_self ..) rfl
theorem grps_at {k : Nat} {f : Nat → Int} {t : Nat} {g : List Nat} (h : (grps k f)[t]? = some g) : ∃ p, (heads k f)[t]? = some p ∧ p ∈ heads k f ∧ g = cls k f p := by
  unfold grps at h
  rw [List.getElem?_map] at h
  cases hp : (heads k f)[t]? with
  | none => rw [hp] at h; cases h
  | some p =>
    rw [hp] at h
    exact ⟨p, rfl, List.mem_of_getElem? hp, (Option.some.inj h).symm⟩
theorem cls_first {k : Nat} {f : Nat → Int} {p : Nat} (hp : p ∈ heads k f) : (cls k f p)[0]? = some p := by
  obtain ⟨r, hr⟩ := cls_head hp
  rw [hr]; rfl
theorem cls_pos {k : Nat} {f : Nat → Int} {p : Nat} (hp : p ∈ heads k f) : 0 < (cls k f p).length := by
  obtain ⟨r, hr⟩ := cls_head hp
  rw [hr]; simp
theorem sorted_lt {l : List Nat} (h : l.Pairwise (· < ·)) {i j : Nat} {x y : Nat} (hij : i < j) (hx : l[i]? = some x) (hy : l[j]? = some y) : x < y := by
  obtain ⟨h1, e1⟩ := List.getElem?_eq_some_iff.1 hx
  obtain ⟨h2, e2⟩ := List.getElem?_eq_some_iff.1 hy
  have := List.pairwise_iff_getElem.1 h i j h1 h2 hij
  rwa [e1, e2] at this
/-- The groups' first elements rise. -/
theorem firsts_rise {k : Nat} {f : Nat → Int} {t : Nat} {g g' : List Nat} (h : (grps k f)[t]? = some g) (h' : (grps k f)[t + 1]? = some g') : ∃ p q, g[0]? = some p ∧ g'[0]? = some q ∧ p < q := by
  obtain ⟨p, h1, h2, rfl⟩ := grps_at h
  obtain ⟨q, h3, h4, rfl⟩ := grps_at h'
  exact ⟨p, q, cls_first h2, cls_first h4, sorted_lt (heads_sorted k f) (Nat.lt_succ_self t) h1 h3⟩
/-- An element of a group, and its first one. -/
theorem grps_same {k : Nat} {f : Nat → Int} {t j : Nat} {g : List Nat} {x : Nat} (h : (grps k f)[t]? = some g) (hx : g[j]? = some x) : x < k ∧ ∃ p, g[0]? = some p ∧ p < k ∧ f x = f p := by
  obtain ⟨p, h1, h2, rfl⟩ := grps_at h
  have hm := mem_cls.1 (List.mem_of_getElem? hx)
  exact ⟨hm.1, p, cls_first h2, (mem_heads.1 h2).1, hm.2⟩
theorem grps_rise {k : Nat} {f : Nat → Int} {t j : Nat} {g : List Nat} {x y : Nat} (h : (grps k f)[t]? = some g) (hx : g[j]? = some x) (hy : g[j + 1]? = some y) : x < y := by
  obtain ⟨p, h1, h2, rfl⟩ := grps_at h
  exact sorted_lt (cls_sorted k f p) (Nat.lt_succ_self j) hx hy
/-- The group that holds s. -/
theorem group_of {k : Nat} (f : Nat → Int) {s : Nat} (hs : s < k) : ∃ t, t < (grps k f).length ∧ (grps k f)[t]? = some (cls k f s) := by
  obtain ⟨p, hp, _, e⟩ := head_of f hs
  obtain ⟨t, ht, e2⟩ := List.getElem_of_mem hp
  refine ⟨t, by rw [grps_length]; exact ht, ?_⟩
  unfold grps
  rw [List.getElem?_map, List.getElem?_eq_getElem ht, e2]
  exact congrArg some (cls_eq e)
theorem group_other {k : Nat} {f : Nat → Int} {t : Nat} {g : List Nat} {s : Nat} (h : (grps k f)[t]? = some g) (hs : s ∈ g) : g = cls k f s := by
  obtain ⟨p, h1, h2, rfl⟩ := grps_at h
  exact cls_eq (mem_cls.1 hs).2.symm
/-- How many of the first t old groups are not among the new ones. -/
def lostN (k : Nat) (f : Nat → Int) (G : List (List Nat)) (t : Nat) : Nat := (((grps k f).take t).filter fun g => !decide (g ∈ G)).length
theorem lostN_zero (k : Nat) (f : Nat → Int) (G : List (List Nat)) : lostN k f G 0 = 0 := rfl
theorem lostN_step {k : Nat} {f : Nat → Int} {G : List (List Nat)} {t : Nat} {g : List Nat} (h : (grps k f)[t]? = some g) : lostN k f G (t + 1) = lostN k f G t + (if g ∈ G then 0 else 1) := by
  unfold lostN
  rw [List.take_add_one, h, Option.toList_some, List.filter_append, List.length_append]
  congr 1
  by_cases e : g ∈ G
  · rw [if_pos e, List.filter_cons_of_neg (by simp [e])]; rfl
  · rw [if_neg e, List.filter_cons_of_pos (by simp [e])]; rfl
theorem lostN_end (k : Nat) (f : Nat → Int) (G : List (List Nat)) : lostN k f G (grps k f).length = ((heads k f).filter fun p => !decide (cls k f p ∈ G)).length := by
  unfold lostN
  rw [List.take_length]
  unfold grps
  rw [List.filter_map, List.length_map]
  rfl
theorem lost_none (k : Nat) (f : Nat → Int) : lostN k f (grps k f) (grps k f).length = 0 := by
  rw [lostN_end, List.length_eq_zero_iff, List.filter_eq_nil_iff]
  intro p hp
  have : cls k f p ∈ grps k f := List.mem_map.2 ⟨p, hp, rfl⟩
  simp [this]
theorem lost_mrg {k : Nat} {f : Nat → Int} {a b : Nat} (ha : a < k) (hb : b < k) (hne : f a ≠ f b) : lostN k f (grps k (mrg f a b)) (grps k f).length = 2 := by
  rw [lostN_end, ← lost_two ha hb hne]
  congr 1
  apply List.filter_congr
  intro p hp
  have := found_iff ha hb hne hp
  by_cases h1 : f p = f a <;> by_cases h2 : f p = f b <;> simp [this, h1, h2]
/-- An old group that is not among the new ones holds one end of the new edge and not the other. -/
theorem lost_one {k : Nat} {f : Nat → Int} {a b t : Nat} {g : List Nat} (ha : a < k) (hb : b < k) (hne : f a ≠ f b) (h : (grps k f)[t]? = some g) (hl : g ∉ grps k (mrg f a b)) : decide (a ∈ g) ≠ decide (b ∈ g) := by
  obtain ⟨p, h1, h2, rfl⟩ := grps_at h
  have hf := (not_congr (found_iff ha hb hne h2)).1 hl
  have ea : a ∈ cls k f p ↔ f a = f p := ⟨fun h => (mem_cls.1 h).2, fun h => mem_cls.2 ⟨ha, h⟩⟩
  have eb : b ∈ cls k f p ↔ f b = f p := ⟨fun h => (mem_cls.1 h).2, fun h => mem_cls.2 ⟨hb, h⟩⟩
  intro e
  rw [decide_eq_decide, ea, eb] at e
  by_cases h3 : f a = f p
  · exact hne (h3.trans (e.1 h3).symm)
  · exact hf ⟨fun h4 => h3 h4.symm, fun h4 => h3 (e.2 h4.symm)⟩
end Uf
end Go.Proofs.Ytalglkeabppabaa
