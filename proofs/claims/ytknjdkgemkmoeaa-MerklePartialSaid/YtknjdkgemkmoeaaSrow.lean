/- A slice that lies in a block from an offset on (its cells, a store), as values that may be written. -/
import Derived.Test.YtknjdkgemkmoeaaLists
import Derived.Test.YtknjdkgemkmoeaaMadeAlloc
import Derived.Deep.AppendLies
import Derived.Deep.DeepCutAuto
import Derived.Deep.CutBlock
import Derived.Deep.LoopGhost
import Derived.WalkLawsBesides
import Derived.Lib.SliceRun
namespace Go.Proofs.Ytknjdkgemkmoeaa
open Go.ChangeShapes Go.WideShapes Go.ChangeAt Go.RowKit
set_option linter.unusedSimpArgs false
set_option linter.unusedVariables false

/-! ## A row at an offset -/
/-- v is a slice of n elements of k cells each, the cells xs: nil, or from off on in a block that may be written, with room for cap. -/
def SRow (w : World) (e : TypeId) (k : Nat) (v : Value) (n : Nat) (xs : List Value) : Prop :=
  xs.length = n * k ∧ ((v = .slice none 0 0 ∧ n = 0) ∨ ∃ g off cap cur, v = .slice (some ⟨g, off, none⟩) n cap ∧ w.heap[g]? = some (.cells cur e (0, 0)) ∧ n ≤ cap ∧ cap ≤ maxLen ∧ off + cap * k ≤ cur.size ∧ (cur.toList.drop off).take (n * k) = xs)
theorem SRow.nil (w : World) (e : TypeId) (k : Nat) : SRow w e k (.slice none 0 0) 0 [] := ⟨by simp, .inl ⟨rfl, rfl⟩⟩
theorem SRow.owned {w : World} {base : Nat} {e : TypeId} {k : Nat} {v : Value} {n : Nat} {xs : List Value} (h : w.ownsRow base e k v n xs) : SRow w e k v n xs := by
  refine ⟨h.1, ?_⟩
  rcases h.2 with h1 | ⟨g, cap, cur, h1, _, h3, h4, h5, h6, h7⟩
  · exact .inl h1
  · exact .inr ⟨g, 0, cap, cur, h1, h3, h4, h5, by omega, by rw [List.drop_zero]; exact h7⟩
theorem SRow.grown {w w' : World} {e : TypeId} {k : Nat} {v : Value} {n : Nat} {xs : List Value} (h : SRow w e k v n xs) (hb : ∀ g, v.ownBlock = some g → g < w.heap.size → w'.heap[g]? = w.heap[g]?) : SRow w' e k v n xs := by
  refine ⟨h.1, ?_⟩
  rcases h.2 with h1 | ⟨g, off, cap, cur, rfl, h3, h4, h5, h6, h7⟩
  · exact .inl h1
  · exact .inr ⟨g, off, cap, cur, rfl, (hb g rfl (Array.getElem?_eq_some_iff.1 h3).1).trans h3, h4, h5, h6, h7⟩
theorem SRow.carry {w w' : World} {e : TypeId} {k : Nat} {v : Value} {n : Nat} {xs : List Value} (h : SRow w e k v n xs) (hb : Below w.heap.size w w') : SRow w' e k v n xs := h.grown fun g _ hg => hb.block g hg
theorem SRow.lt {w : World} {e : TypeId} {k : Nat} {v : Value} {n : Nat} {xs : List Value} (h : SRow w e k v n xs) {g : Nat} (hg : v.ownBlock = some g) : g < w.heap.size := by
  rcases h.2 with ⟨rfl, _⟩ | ⟨g', off, cap, cur, rfl, h3, _⟩
  · cases hg
  · cases hg; exact (Array.getElem?_eq_some_iff.1 h3).1
/-- The value written out; its cells, if there are any. -/
theorem SRow.shape {w : World} {e : TypeId} {k : Nat} {v : Value} {n : Nat} {xs : List Value} (h : SRow w e k v n xs) (hk : 0 < k) :
    ∃ a cap, v = .slice a n cap ∧ n ≤ cap ∧ cap ≤ maxLen ∧ (a = none → cap = 0) ∧ (0 < n → ∃ g off, a = some ⟨g, off, none⟩ ∧ g < w.heap.size ∧ ∀ (i : Nat) (u : Value), xs[i]? = some u → w.cell? ⟨g, off + i, none⟩ = some u ∧ w.frozen? ⟨g, off + i, none⟩ = false) := by
  rcases h.2 with ⟨rfl, rfl⟩ | ⟨g, off, cap, cur, rfl, h3, h4, h5, h6, h7⟩
  · exact ⟨none, 0, rfl, Nat.le_refl _, Nat.zero_le _, fun _ => rfl, fun h0 => absurd h0 (Nat.lt_irrefl 0)⟩
  · refine ⟨_, cap, rfl, h4, h5, fun h0 => (by cases h0), fun _ => ⟨g, off, rfl, (Array.getElem?_eq_some_iff.1 h3).1, fun i u hu => ⟨?_, by simp [World.frozen?, h3]⟩⟩⟩
    rw [← h7, List.getElem?_take] at hu
    split at hu
    · rw [List.getElem?_drop] at hu
      simp only [World.cell?, h3]
      simpa using hu
    · cases hu
/-- One cell is stored to. -/
theorem SRow.set {w : World} {e : TypeId} {k : Nat} {g off cap n : Nat} {xs : List Value} (h : SRow w e k (.slice (some ⟨g, off, none⟩) n cap) n xs) {i : Nat} (hi : i < n * k) (u : Value) :
    SRow (w.setCell ⟨g, off + i, none⟩ u) e k (.slice (some ⟨g, off, none⟩) n cap) n (xs.set i u) := by
  refine ⟨by rw [List.length_set]; exact h.1, ?_⟩
  rcases h.2 with ⟨h1, _⟩ | ⟨g', off', cap', cur, h2, h3, h4, h5, h6, h7⟩
  · cases h1
  · cases h2
    refine .inr ⟨g, off, cap, cur.setIfInBounds (off + i) u, rfl, heap_setCell h3 (off + i) u, h4, h5, by simpa using h6, ?_⟩
    rw [← h7]
    refine List.ext_getElem? fun j => ?_
    have hn : n * k ≤ cap * k := Nat.mul_le_mul_right _ h4
    by_cases hj : j < n * k
    · rw [List.getElem?_take, if_pos hj, List.getElem?_drop, List.getElem?_set, List.getElem?_take, if_pos hj, List.getElem?_drop]
      have e1 : (cur.setIfInBounds (off + i) u).toList[off + j]? = if off + i = off + j then some u else cur.toList[off + j]? := by
        rw [Array.getElem?_toList, Array.getElem?_setIfInBounds]
        by_cases e2 : off + i = off + j
        · rw [if_pos e2, if_pos e2, if_pos (by omega)]
        · rw [if_neg e2, if_neg e2, Array.getElem?_toList]
      rw [e1]
      by_cases e2 : i = j
      · subst e2
        rw [if_pos rfl, if_pos rfl, if_pos (by rw [List.length_take, List.length_drop, Array.length_toList]; omega)]
      · rw [if_neg e2, if_neg (by omega)]
    · rw [List.getElem?_eq_none (by rw [List.length_take]; omega), List.getElem?_eq_none (by rw [List.length_set, List.length_take]; omega)]
end Go.Proofs.Ytknjdkgemkmoeaa
