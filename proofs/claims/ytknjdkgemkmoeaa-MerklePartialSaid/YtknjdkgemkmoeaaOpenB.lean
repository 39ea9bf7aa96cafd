/- A slice of ints that came in: a nil one has no room. -/
import Derived.Test.YtknjdkgemkmoeaaOpen
namespace Go.Proofs.Ytknjdkgemkmoeaa
open Go.ChangeShapes Go.WideShapes Go.ChangeAt Go.RowKit Go.Deep Go.Joins
section
variable {H : Type} {enc : TypeId × Value → H} {P : Program}
theorem open_int_cells2 {t e : TypeId} {w : World} {base fuel : Nat} {held : Bool} {spare : Nat → Bool} {cs : List Value} {x : DataW H × List MemPlace} (ht : P.underlying t = some (.slice e)) (he : P.underlying e = some (.int .i64)) (hc : P.cellsOf e = 1)
    (h : DataW.trod enc P w base spare held fuel t cs = some x) : ∃ v Z len, cs = [v] ∧ IntsAt w v 1 Z len ∧ ∀ n c, v = .slice none n c → v = .slice none 0 0 := by
  obtain ⟨v, Z, len, h1, h2⟩ := open_int_cells ht he hc h
  refine ⟨v, Z, len, h1, h2, ?_⟩
  rcases open_ints ht he hc h with ⟨h0, _⟩ | ⟨a, len', cap, zs, hcs, _⟩
  · rw [h0] at h1
    simp only [List.cons.injEq, and_true] at h1
    intro n c _; exact h1.symm
  · rw [hcs] at h1
    simp only [List.cons.injEq, and_true] at h1
    intro n c e
    rw [← h1] at e
    cases e
end
end Go.Proofs.Ytknjdkgemkmoeaa
