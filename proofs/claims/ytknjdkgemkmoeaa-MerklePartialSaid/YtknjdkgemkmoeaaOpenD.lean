/- Arguments that are slices of bytes. -/
import Derived.Test.YtknjdkgemkmoeaaOpen
namespace Go.Proofs.Ytknjdkgemkmoeaa
open Go.ChangeShapes Go.WideShapes Go.ChangeAt Go.RowKit Go.Deep Go.Joins
section
variable {H : Type} {enc : TypeId × Value → H} {P : Program}
/-- v is a slice of the bytes L. -/
def BytsAt (w : World) (v : Value) (L : List Nat) : Prop :=
  ∃ (a : Option Addr) (cap : Nat), v = .slice a L.length cap ∧ L.length ≤ cap ∧ cap ≤ maxLen ∧ (∀ b, b ∈ L → b < 256) ∧ (a = none → cap = 0) ∧
    (L = [] ∨ ∃ g off, a = some ⟨g, off, none⟩ ∧ ∀ i b, L[i]? = some b → w.cell? ⟨g, off + i, none⟩ = some (.int .u8 (b : Nat)))
theorem open_byte_cells {t e : TypeId} {w : World} {base fuel : Nat} {held : Bool} {spare : Nat → Bool} {cs : List Value} {x : DataW H × List MemPlace} (ht : P.underlying t = some (.slice e)) (he : P.underlying e = some (.int .u8)) (hc : P.cellsOf e = 1)
    (h : DataW.trod enc P w base spare held fuel t cs = some x) : ∃ v L, cs = [v] ∧ BytsAt w v L := by
  rcases open_ints ht he hc h with ⟨h0, _⟩ | ⟨a, len, cap, zs, hcs, hb, hl, hm, hz, hx, hcell, hw⟩
  · exact ⟨.slice none 0 0, [], h0, none, 0, rfl, Nat.le_refl _, Nat.zero_le _, fun b hb => by simp at hb, fun _ => rfl, Or.inl rfl⟩
  · have hlz : len ≤ zs.length := by rw [hz]; split <;> omega
    have hbd : ∀ n, n ∈ zs → 0 ≤ n ∧ n ≤ 255 := fun n hn => by
      have h1 : IntKind.u8.min = 0 := rfl
      have h2 : IntKind.u8.max = 255 := rfl
      have h3 := hw n hn
      simp only [Lit.wf, Bool.and_eq_true, decide_eq_true_eq] at h3
      omega
    have hL : ((zs.take len).map Int.toNat).length = len := by rw [List.length_map, List.length_take]; omega
    refine ⟨_, (zs.take len).map Int.toNat, hcs, some a, cap, by rw [hL], by rw [hL]; exact hl, hm, fun b hb => ?_, fun e => (by cases e), ?_⟩
    · obtain ⟨n, hn, rfl⟩ := List.mem_map.1 hb
      have := hbd n (List.mem_of_mem_take hn)
      omega
    · by_cases h0 : len = 0
      · exact Or.inl (List.length_eq_zero_iff.1 (by rw [hL, h0]))
      · obtain ⟨b, off, spot⟩ := a
        have hspot : spot = none := by
          have := World.cell?_spot (hcell 0 (by omega))
          simpa [Addr.add] using this
        subst hspot
        refine Or.inr ⟨b, off, rfl, fun i u hu => ?_⟩
        rw [List.getElem?_map, List.getElem?_take] at hu
        split at hu
        · rename_i hi
          have hi2 : i < zs.length := by omega
          rw [List.getElem?_eq_getElem hi2] at hu
          simp only [Option.map_some, Option.some.injEq] at hu
          have h4 := hcell i hi2
          have e1 : zs.getD i 0 = zs[i] := by simp [List.getD, hi2]
          rw [e1, add_plain] at h4
          rw [h4, ← hu]
          have := hbd zs[i] (List.getElem_mem hi2)
          rw [Int.toNat_of_nonneg this.1]
        · cases hu
theorem BytsAt.carry {w w' : World} {v : Value} {L : List Nat} (h : BytsAt w v L) (hb : Below w.heap.size w w') : BytsAt w' v L := by
  obtain ⟨a, cap, h1, h2, h3, h4, h5, h6⟩ := h
  refine ⟨a, cap, h1, h2, h3, h4, h5, ?_⟩
  rcases h6 with h6 | ⟨g, off, h6, h7⟩
  · exact Or.inl h6
  · exact Or.inr ⟨g, off, h6, fun i b hi => Proofs.Ytknjdkgemkmoeaa.carry hb (h7 i b hi)⟩
end
end Go.Proofs.Ytknjdkgemkmoeaa
