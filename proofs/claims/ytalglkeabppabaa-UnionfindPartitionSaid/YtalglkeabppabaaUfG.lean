/- Package unionfind: the map of groups as it grows, as a datum; the keys in their order; lists of groups that may be written over. -/
import Derived.Test.YtalglkeabppabaaUfK
namespace Go.Proofs.Ytalglkeabppabaa
open Go.ChangeShapes Go.WideShapes Go.RowKit Go.Maps
open Uf
set_option linter.unusedSimpArgs false
set_option linter.unusedVariables false

/-- The map's datum after i elements. -/
noncomputable def Gd (f : Nat → Int) : Nat → DataW Unit
  | 0 => .map []
  | i + 1 => (Gd f i).put (.int .i64 (hd f i : Nat)) (.slice (lits .i64 (natI (clsL f (hd f i) (i + 1)))) [])
theorem key_ne {a b : Nat} (h : a ≠ b) : Lit.int .i64 ((a : Nat) : Int) ≠ .int .i64 ((b : Nat) : Int) := by
  intro e
  have h2 : ((a : Nat) : Int) = ((b : Nat) : Int) := by simpa using e
  exact h (by omega)
/-- All keys are integers, none stands twice. -/
def KI (D : DataW Unit) : Prop := ∃ es, D = .map es ∧ es.Pairwise (fun p q => p.1 ≠ q.1) ∧ ∀ p ∈ es, ∃ x, p.1 = .int .i64 x
theorem insert_mem {x p : Lit × DataW Unit} : ∀ {l : List (Lit × DataW Unit)}, p ∈ DataW.insert x l → p = x ∨ p ∈ l := by
  intro l h
  have := (insert_perm x l).mem_iff.1 h
  simpa using this
theorem KI.put {D : DataW Unit} (h : KI D) (x : Int) (d : DataW Unit) : KI (D.put (.int .i64 x) d) := by
  obtain ⟨es, rfl, hp, hk⟩ := h
  obtain ⟨es', he', hp'⟩ := Tidy.put (D := .map es) ⟨es, rfl, hp⟩ (k := .int .i64 x) (by simp [WideAt.IsKeyLit]) d
  refine ⟨es', he', hp', fun p hp => ?_⟩
  have e : es' = DataW.insert (.int .i64 x, d) (es.filter fun p => !p.1.sameKey (.int .i64 x)) := by
    have : DataW.map es' = DataW.map (DataW.insert (.int .i64 x, d) (es.filter fun p => !p.1.sameKey (.int .i64 x))) := he'.symm
    exact DataW.map.inj this
  rw [e] at hp
  rcases insert_mem hp with rfl | h
  · exact ⟨x, rfl⟩
  · exact hk p (List.mem_filter.1 h).1
theorem Gd_KI (f : Nat → Int) : ∀ i, KI (Gd f i)
  | 0 => ⟨[], rfl, List.Pairwise.nil, by simp⟩
  | i + 1 => (Gd_KI f i).put _ _
theorem Gd_map (f : Nat → Int) (i : Nat) : IsMap (Gd f i) := by obtain ⟨es, h, _⟩ := Gd_KI f i; exact ⟨es, h⟩
theorem Gd_tidy (f : Nat → Int) (i : Nat) : Tidy (Gd f i) := by obtain ⟨es, h, h2, _⟩ := Gd_KI f i; exact ⟨es, h, h2⟩
/-- What stands at a head. -/
theorem Gd_at (f : Nat → Int) {p : Nat} (hp : isHead f p = true) : ∀ i, (Gd f i).atKey (.int .i64 (p : Nat)) .nil = if p < i then .slice (lits .i64 (natI (clsL f p i))) [] else .nil
  | 0 => by rw [if_neg (by omega)]; rfl
  | i + 1 => by
    unfold Gd
    by_cases e : hd f i = p
    · rw [e, atKey_put_same (Gd_map f i) (by simp [WideAt.IsKeyLit])]
      rw [if_pos (by have := hd_le f i; omega)]
    · rw [atKey_put_other (key_ne (fun h => e h.symm)), Gd_at f hp i]
      by_cases h : p < i
      · rw [if_pos h, if_pos (by omega)]
        rw [clsL_no (fun h2 => e (hd_unique hp h2.symm))]
      · by_cases h2 : p = i
        · subst h2; exact absurd (hd_self hp) e
        · rw [if_neg h, if_neg (by omega)]
theorem clsL_none {f : Nat → Int} {p i : Nat} (hp : isHead f p = true) (h : i ≤ p) : clsL f p i = [] := by
  unfold clsL
  rw [List.filter_eq_nil_iff]
  intro x hx
  rw [decide_eq_true_iff]
  exact isHead_iff.1 hp x (by have := List.mem_range.1 hx; omega)
theorem lits_inj {a b : List Int} (h : lits (H := Unit) .i64 a = lits .i64 b) : a = b := by
  unfold lits at h
  exact (List.map_inj_right (fun _ _ h => by simpa using h)).1 h
/-- What the look-up hands over is the group as far as it has come. -/
theorem Gd_look {f : Nat → Int} {p i : Nat} (hp : isHead f p = true) {w : World} {base : Nat} {e : TypeId} {v : Value} {zs : List Int} (ho : w.ownsInts base e .i64 v zs)
    (hat : (Gd f i).atKey (.int .i64 (p : Nat)) .nil = rowDatum .i64 v zs) : zs = natI (clsL f p i) := by
  rw [Gd_at f hp] at hat
  split at hat
  · rcases ho.datum (H := Unit) with ⟨h1, rfl⟩ | h1 <;> rw [h1] at hat
    · cases hat
    · simp only [DataW.slice.injEq, and_true] at hat
      exact (lits_inj hat).symm
  · rename_i h
    rw [clsL_none hp (by omega)]
    rcases ho.datum (H := Unit) with ⟨h1, rfl⟩ | h1 <;> rw [h1] at hat
    · rfl
    · cases hat
theorem natI_snoc (l : List Nat) (x : Nat) : natI (l ++ [x]) = natI l ++ [(x : Int)] := by unfold natI; rw [List.map_append]; rfl
/-- One round. -/
theorem Gd_step {f : Nat → Int} {i : Nat} {w1 : World} {base : Nat} {e : TypeId} {v' : Value} (ho : w1.ownsInts base e .i64 v' (natI (clsL f (hd f i) i) ++ [(i : Int)])) :
    (Gd f i).put (.int .i64 (hd f i : Nat)) (rowDatum .i64 v' (natI (clsL f (hd f i) i) ++ [(i : Int)])) = Gd f (i + 1) := by
  rw [ho.datum_pos (by simp)]
  show _ = (Gd f i).put _ _
  rw [clsL_yes (hd_same f i).symm, natI_snoc]
theorem Gd_has (f : Nat → Int) : ∀ (i : Nat) (x : Int), Maps.has (Gd f i) (.int .i64 x) = true ↔ x ∈ natI (hds f i)
  | 0, x => by simp [Gd, Maps.has, natI, hds]
  | i + 1, x => by
    unfold Gd
    by_cases e : x = (hd f i : Nat)
    · subst e
      rw [has_put_same (Gd_map f i) (by simp [WideAt.IsKeyLit]), mem_natI]
      refine iff_of_true rfl ⟨by omega, mem_hds.2 ⟨by have := hd_le f i; simp; omega, by simpa using hd_head f i⟩⟩
    · rw [has_put_other (fun h => e (by simpa using h)), Gd_has f i x, mem_natI, mem_natI, mem_hds, mem_hds]
      constructor
      · rintro ⟨h1, h2, h3⟩; exact ⟨h1, by omega, h3⟩
      · rintro ⟨h1, h2, h3⟩
        refine ⟨h1, ?_, h3⟩
        rcases Nat.lt_or_ge x.toNat i with h | h
        · exact h
        · have h4 : x.toNat = i := by omega
          rw [h4] at h3
          exact absurd (by rw [hd_self h3]; omega) e
theorem natI_nodup {l : List Nat} (h : l.Nodup) : (natI l).Nodup := by
  unfold natI
  exact List.Pairwise.map _ (fun a b hab e => hab (Int.ofNat.inj e)) h
theorem Gd_keys (f : Nat → Int) (i : Nat) : (natI (hds f i)).Perm (intKeys (Gd f i)) := by
  obtain ⟨es, he, hp, hk⟩ := Gd_KI f i
  have hh := Gd_has f i
  rw [he] at hh ⊢
  exact perm_intKeys hp hk (natI_nodup (heads_nodup i f)) fun x => (hh x).symm
theorem Gd_size (f : Nat → Int) (i : Nat) : Maps.size (Gd f i) = (hds f i).length := by
  have := (Gd_keys f i).length_eq
  rw [natI_length] at this
  rw [this]
  obtain ⟨es, he, hp, hk⟩ := Gd_KI f i
  rw [he]
  show es.length = (es.map _).length
  rw [List.length_map]
/-- The keys sorted are the heads. -/
theorem Gd_sorted (f : Nat → Int) (i : Nat) {ss : List Int} (h : ss.Perm (intKeys (Gd f i))) : ss.mergeSort (fun x y => decide (x ≤ y)) = natI (hds f i) ∧ ss.length = (hds f i).length := by
  have hp : ss.Perm (natI (hds f i)) := h.trans (Gd_keys f i).symm
  refine ⟨?_, by rw [hp.length_eq, natI_length]⟩
  rw [show ss.mergeSort (fun x y => decide (x ≤ y)) = (natI (hds f i)).mergeSort leI from mergeSort_of_perm_i hp]
  apply List.mergeSort_of_pairwise
  unfold natI
  rw [List.pairwise_map]
  refine (heads_sorted i f).imp fun {a b} hab => ?_
  simp
  omega
end Go.Proofs.Ytalglkeabppabaa
