/- For the laws of package cellmem: pairs; some Sets, one behind the other. -/
import Derived.Test.YtlpacihkmfgegaaCmL
import Derived.Test.YtlpacihkmfgegaaOpenC
import Derived.Test.YtlpacihkmfgegaaMadeTail
namespace Go.Proofs.Ytlpacihkmfgegaa
open Go.ChangeShapes Go.WideShapes Go.ChangeAt Go.RowKit
open Cm
set_option linter.unusedSimpArgs false
set_option linter.unusedVariables false

theorem same_self (l : List Int) : decide (l = l) = true := decide_eq_true rfl
theorem pair_at {w : World} {v : Value} {Z : Nat → Int} {l i : Nat} (h : IntsAt w v 2 Z l) (hi : i < l) : ∃ g off cap, v = .slice (some ⟨g, off, none⟩) l cap ∧ l ≤ cap ∧ w.cell? ⟨g, off + i * 2, none⟩ = some (.int .i64 (Z (i * 2))) ∧ w.cell? ⟨g, off + i * 2 + 1, none⟩ = some (.int .i64 (Z (i * 2 + 1))) ∧ (-9223372036854775808 ≤ Z (i * 2) ∧ Z (i * 2) ≤ 9223372036854775807) := by
  obtain ⟨a, cap, rfl, h1, h2, hZ, h3⟩ := h
  rcases h3 with e | ⟨g, off, rfl, hc⟩
  · omega
  · exact ⟨g, off, cap, rfl, h1, hc (i * 2) (by omega), by have := hc (i * 2 + 1) (by omega); rw [← Nat.add_assoc] at this; exact this, i64_bd (hZ _)⟩
theorem IntsAt.carry' {w w' : World} {v : Value} {k : Nat} {Z : Nat → Int} {l : Nat} (h : IntsAt w v k Z l) (hb : Below w.heap.size w w') : IntsAt w' v k Z l := by
  obtain ⟨a, cap, h1, h2, h3, hZ, h4⟩ := h
  refine ⟨a, cap, h1, h2, h3, hZ, ?_⟩
  rcases h4 with h4 | ⟨g, off, h5, h6⟩
  · exact .inl h4
  · exact .inr ⟨g, off, h5, fun i hi => Proofs.Ytlpacihkmfgegaa.carry hb (h6 i hi)⟩
theorem IntsAt.form {w : World} {v : Value} {k : Nat} {Z : Nat → Int} {l : Nat} (h : IntsAt w v k Z l) : ∃ a cap, v = .slice a l cap ∧ l ≤ cap ∧ cap ≤ maxLen := by
  obtain ⟨a, cap, h1, h2, h3, _⟩ := h
  exact ⟨a, cap, h1, h2, h3⟩
/-- After t Sets made of numbers. -/
theorem sets_ok {S : Me} (Z : Nat → Int) (t : Nat) (hl : S.cs.length = 6) (hp : S.pos + t ≤ 1000) : Ok (S.sets (moreN Z t)) := by
  obtain ⟨h1, h2, _⟩ := sets_pos S (moreN Z t)
  rw [moreN_len] at h1
  exact ⟨by omega, by omega⟩
theorem sets_next (S : Me) (Z : Nat → Int) (t : Nat) : S.sets (moreN Z (t + 1)) = (S.sets (moreN Z t)).set (arnd (Z (t * 2)) 6) (Z (t * 2 + 1)) := by rw [moreN_succ, S.sets_snoc]
theorem sets_undo (S : Me) (l : List (Int × Int)) : (S.sets l).err S.pos = 0 ∧ (S.sets l).undo S.pos = S := by
  obtain ⟨es, h⟩ := sets_since S l (Since.refl S)
  exact h.undo
end Go.Proofs.Ytlpacihkmfgegaa
