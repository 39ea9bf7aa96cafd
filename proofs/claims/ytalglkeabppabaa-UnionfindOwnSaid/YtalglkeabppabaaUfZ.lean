/- A list of groups that is written over. -/
import Derived.Test.YtalglkeabppabaaUfX
namespace Go.Proofs.Ytalglkeabppabaa
open Go.ChangeShapes Go.WideShapes Go.ChangeAt Go.RowKit
open Uf
set_option linter.unusedSimpArgs false
set_option linter.unusedVariables false

/-- Block h holds, from its start, n integers that may be written over. -/
def Wb (w : World) (h n : Nat) : Prop := ∃ (cur : Array Value) (T : TypeId), w.heap[h]? = some (.cells cur T (0, 0)) ∧ ∀ j, j < n → ∃ z : Int, cur[j]? = some (.int .i64 z)
/-- The first m cells of block o hold slices of integers in other blocks, all from B on. -/
def GW (B : Nat) (w : World) (o m : Nat) : Prop :=
  B ≤ o ∧ ∀ i, i < m → ∃ b n c, w.cell? ⟨o, i, none⟩ = some (.slice b n c) ∧ n ≤ maxLen ∧ (0 < n → ∃ h, b = some ⟨h, 0, none⟩ ∧ B ≤ h ∧ h ≠ o ∧ Wb w h n)
theorem Wb.cell {w : World} {h n j : Nat} (H : Wb w h n) (hj : j < n) : ∃ z : Int, w.cell? ⟨h, j, none⟩ = some (.int .i64 z) ∧ w.frozen? ⟨h, j, none⟩ = false := by
  obtain ⟨cur, T, h1, h2⟩ := H
  obtain ⟨z, hz⟩ := h2 j hj
  exact ⟨z, by rw [heap_cell h1 j]; exact hz, heap_frozen h1 j⟩
theorem Wb.set {w : World} {h n : Nat} (H : Wb w h n) (h' j : Nat) (z : Int) : Wb (w.setCell ⟨h', j, none⟩ (.int .i64 z)) h n := by
  obtain ⟨cur, T, h1, h2⟩ := H
  by_cases e : h = h'
  · subst e
    refine ⟨cur.setIfInBounds j (.int .i64 z), T, heap_setCell h1 j _, fun i hi => ?_⟩
    obtain ⟨y, hy⟩ := h2 i hi
    rw [Array.getElem?_setIfInBounds]
    by_cases e2 : j = i
    · subst e2
      have hs := (Array.getElem?_eq_some_iff.1 hy).1
      rw [if_pos rfl, if_pos hs]
      exact ⟨z, rfl⟩
    · rw [if_neg e2]; exact ⟨y, hy⟩
  · exact ⟨cur, T, (Below.heap_setCell _ _ _ _ e).trans h1, h2⟩
theorem GW.set {B : Nat} {w : World} {o m : Nat} (H : GW B w o m) {h : Nat} (hn : h ≠ o) (j : Nat) (z : Int) : GW B (w.setCell ⟨h, j, none⟩ (.int .i64 z)) o m := by
  refine ⟨H.1, fun i hi => ?_⟩
  obtain ⟨b, n, c, h1, h2, h3⟩ := H.2 i hi
  refine ⟨b, n, c, ?_, h2, fun h0 => ?_⟩
  · rw [World.cell?_of_block (w := w) (Below.heap_setCell _ _ _ _ (fun e => hn e.symm))]; exact h1
  · obtain ⟨h', e, h4, h5, h6⟩ := h3 h0
    exact ⟨h', e, h4, h5, h6.set _ _ _⟩
theorem GO.gw {B : Nat} {w : World} {v : Value} {gs : List (List Int)} (h : GO B w v gs) : ∃ a cap, v = .slice a gs.length cap ∧ gs.length ≤ cap ∧ cap ≤ maxLen ∧ (0 < gs.length → ∃ o, a = some ⟨o, 0, none⟩ ∧ GW B w o gs.length) := by
  obtain ⟨xs, hr, hx⟩ := h
  have hl := hr.1
  rcases hr.2 with ⟨rfl, h0⟩ | ⟨o, cap, cur, rfl, ho, hh, h1, h2, h3, h4⟩
  · exact ⟨none, 0, by rw [h0], by omega, Nat.zero_le _, fun h => by omega⟩
  · refine ⟨_, cap, rfl, h1, h2, fun _ => ⟨o, rfl, ho, fun i hi => ?_⟩⟩
    obtain ⟨x, hxi⟩ : ∃ x, xs[i]? = some x := ⟨_, List.getElem?_eq_getElem (by omega)⟩
    obtain ⟨l, hgl⟩ : ∃ l, gs[i]? = some l := ⟨_, List.getElem?_eq_getElem hi⟩
    obtain ⟨hI, hne⟩ := hx i _ l hxi hgl
    have hc : w.cell? ⟨o, i, none⟩ = some x := by
      rw [heap_cell hh i]
      rw [← h4, List.getElem?_take] at hxi
      split at hxi
      · simpa using hxi
      · cases hxi
    rcases hI.1.2 with ⟨rfl, h0⟩ | ⟨g, cp, cr, rfl, hg, hgh, g1, g2, g3, g4⟩
    · exact ⟨none, 0, 0, hc, by unfold maxLen; omega, fun h => absurd h (Nat.lt_irrefl 0)⟩
    · refine ⟨_, _, _, hc, by omega, fun h0 => ⟨g, rfl, hg, fun e => hne g rfl (by rw [e]; rfl), cr, _, hgh, fun j hj => ?_⟩⟩
      have hlj : (l.map (Value.int .i64))[j]? = some (.int .i64 (l[j]'hj)) := by simp [hj]
      rw [← g4, List.getElem?_take] at hlj
      split at hlj
      · exact ⟨_, by simpa using hlj⟩
      · cases hlj
/-- The object lies below B. -/
theorem St.low {B : Nat} {w w' : World} {b g k : Nat} {f : Nat → Int} (h : St w b g k f) (hb : Below B w w') (h1 : b < B) (h2 : g < B) : St w' b g k f := by
  obtain ⟨P, h3, h4⟩ := h
  exact ⟨P, ⟨(hb.block b h1).trans h3.ob, h3.ne, (hb.block g h2).trans h3.row⟩, h4⟩
end Go.Proofs.Ytalglkeabppabaa
