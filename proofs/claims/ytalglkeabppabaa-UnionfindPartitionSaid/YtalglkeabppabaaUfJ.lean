/- For UnionfindPartition: a list of groups by its cells; the groups one behind the other. -/
import Derived.Test.YtalglkeabppabaaUfM
namespace Go.Proofs.Ytalglkeabppabaa
open Go.ChangeShapes Go.WideShapes Go.ChangeAt Go.RowKit
open Uf
set_option linter.unusedSimpArgs false
set_option linter.unusedVariables false

theorem GO.shape {B : Nat} {w : World} {v : Value} {gs : List (List Int)} (h : GO B w v gs) : ∃ a cap, v = .slice a gs.length cap ∧ gs.length ≤ cap ∧ cap ≤ maxLen ∧
    (0 < gs.length → ∃ o, a = some ⟨o, 0, none⟩ ∧ B ≤ o ∧ ∀ (i : Nat) (l : List Int), gs[i]? = some l → ∃ b c, w.cell? ⟨o, i, none⟩ = some (.slice b l.length c) ∧ l.length ≤ c ∧ c ≤ maxLen ∧
      (0 < l.length → ∃ h, b = some ⟨h, 0, none⟩ ∧ B ≤ h ∧ ∀ (j : Nat) (z : Int), l[j]? = some z → w.cell? ⟨h, j, none⟩ = some (.int .i64 z))) := by
  obtain ⟨xs, hr, hx⟩ := h
  have hl := hr.1
  rcases hr.2 with ⟨rfl, h0⟩ | ⟨o, cap, cur, rfl, ho, hh, h1, h2, h3, h4⟩
  · exact ⟨none, 0, by rw [h0], by omega, Nat.zero_le _, fun h => by omega⟩
  · refine ⟨_, cap, rfl, h1, h2, fun _ => ⟨o, rfl, ho, fun i l hgl => ?_⟩⟩
    have hi := (List.getElem?_eq_some_iff.1 hgl).1
    obtain ⟨x, hxi⟩ : ∃ x, xs[i]? = some x := ⟨_, List.getElem?_eq_getElem (by omega)⟩
    obtain ⟨hI, hne⟩ := hx i _ l hxi hgl
    have hc : w.cell? ⟨o, i, none⟩ = some x := by
      rw [heap_cell hh i]
      rw [← h4, List.getElem?_take] at hxi
      split at hxi
      · simpa using hxi
      · cases hxi
    rcases hI.1.2 with ⟨rfl, h0⟩ | ⟨g, cp, cr, rfl, hg, hgh, g1, g2, g3, g4⟩
    · exact ⟨none, 0, by rw [hc, h0], by omega, Nat.zero_le _, fun h => by omega⟩
    · refine ⟨_, _, hc, g1, g2, fun h0 => ⟨g, rfl, hg, fun j z hz => ?_⟩⟩
      have hlj : (l.map (Value.int .i64))[j]? = some (.int .i64 z) := by rw [List.getElem?_map, hz]; rfl
      rw [heap_cell hgh j]
      rw [← g4, List.getElem?_take] at hlj
      split at hlj
      · simpa using hlj
      · cases hlj
/-- The elements before place q of group t. -/
def preF (gs : List (List Nat)) (t q : Nat) : List Nat := (gs.take t).flatten ++ ((gs[t]?).getD []).take q
theorem preF_zero (gs : List (List Nat)) (t : Nat) : preF gs t 0 = (gs.take t).flatten := by unfold preF; simp
theorem preF_step {gs : List (List Nat)} {t q : Nat} {g : List Nat} {x : Nat} (hg : gs[t]? = some g) (hx : g[q]? = some x) : preF gs t (q + 1) = preF gs t q ++ [x] := by
  unfold preF
  rw [hg, Option.getD_some, List.take_add_one, hx, Option.toList_some, List.append_assoc]
theorem preF_end {gs : List (List Nat)} {t : Nat} {g : List Nat} (hg : gs[t]? = some g) : preF gs t g.length = (gs.take (t + 1)).flatten := by
  unfold preF
  rw [hg, Option.getD_some, List.take_length, List.take_add_one, hg, Option.toList_some, List.flatten_append]
  simp
theorem preF_fresh {k : Nat} {f : Nat → Int} {t q : Nat} {g : List Nat} {x : Nat} (hg : (grps k f)[t]? = some g) (hx : g[q]? = some x) : x ∉ preF (grps k f) t q ∧ (preF (grps k f) t q).length < k := by
  unfold preF
  rw [hg, Option.getD_some]
  refine ⟨not_before hg hx, ?_⟩
  obtain ⟨r, hr⟩ := flat_split hg hx
  have := congrArg List.length hr
  rw [flat_len, List.length_append, List.length_cons] at this
  omega
theorem heads_start (k : Nat) : (heads k idL).length = k := by rw [heads_idL, List.length_range]
end Go.Proofs.Ytalglkeabppabaa
