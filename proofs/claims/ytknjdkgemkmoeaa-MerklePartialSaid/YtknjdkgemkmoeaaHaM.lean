/- Rows that a law writes: their cells, one of them set. -/
import Derived.Test.YtknjdkgemkmoeaaHaL
namespace Go.Proofs.Ytknjdkgemkmoeaa
open Go.ChangeShapes Go.WideShapes Go.ChangeAt Go.RowKit Go.Shelf
set_option linter.unusedSimpArgs false
set_option linter.unusedVariables false

theorem lit_i64 {n : Int} (h : (Lit.int .i64 n).wf = true) : -9223372036854775808 ≤ n ∧ n ≤ 9223372036854775807 := by
  have h1 : IntKind.i64.min = -9223372036854775808 := rfl
  have h2 : IntKind.i64.max = 9223372036854775807 := rfl
  simp only [Lit.wf, Bool.and_eq_true, decide_eq_true_eq] at h
  omega
theorem lit_u8 {n : Int} (h : (Lit.int .u8 n).wf = true) : ∃ b : Nat, n = (b : Int) ∧ b < 256 := by
  have h1 : IntKind.u8.min = 0 := rfl
  have h2 : IntKind.u8.max = 255 := rfl
  simp only [Lit.wf, Bool.and_eq_true, decide_eq_true_eq] at h
  exact ⟨n.toNat, by omega, by omega⟩
/-- The cells xs lie in block g from its start on. -/
def CellsAt (w : World) (g : Nat) (xs : List Value) : Prop := ∀ (i : Nat) (u : Value), xs[i]? = some u → w.cell? ⟨g, i, none⟩ = some u
theorem CellsAt.at {w : World} {g : Nat} {xs : List Value} (h : CellsAt w g xs) {i : Nat} {u : Value} (hi : xs[i]? = some u) : w.cell? ⟨g, i, none⟩ = some u := h i u hi
theorem CellsAt.carry {w w' : World} {g : Nat} {xs : List Value} (h : CellsAt w g xs) (hb : Below w.heap.size w w') : CellsAt w' g xs := fun i u hi => Proofs.Ytknjdkgemkmoeaa.carry hb (h i u hi)
theorem CellsAt.set {w : World} {g k : Nat} {xs : List Value} (h : CellsAt w g xs) {x : Value} (hk : xs[k]? = some x) (u : Value) : CellsAt (w.setCell ⟨g, k, none⟩ u) g (xs.set k u) := by
  intro i y hi
  rw [List.getElem?_set] at hi
  split at hi
  · rename_i e
    subst e
    split at hi
    · cases hi
      exact World.cell?_setCell_same w _ _ (h k x hk)
    · cases hi
  · rename_i e
    rw [World.cell?_setCell_other _ _ _ _ (by simp [e])]
    exact h i y hi
theorem CellsAt.other {w : World} {g b k : Nat} {xs : List Value} (h : CellsAt w g xs) (hb : g ≠ b) (u : Value) : CellsAt (w.setCell ⟨b, k, none⟩ u) g xs := fun i y hi => by
  rw [World.cell?_setCell_other _ _ _ _ (by simp [Ne.symm hb])]
  exact h i y hi
theorem own_form {w : World} {B : Nat} {e : TypeId} {v : Value} {n : Nat} {xs : List Value} (h : w.ownsRow B e 1 v n xs) (hn : 0 < n) :
    ∃ g cap, v = .slice (some ⟨g, 0, none⟩) n cap ∧ B ≤ g ∧ g < w.heap.size ∧ n ≤ cap ∧ cap ≤ maxLen ∧ CellsAt w g xs ∧ ∀ i, w.frozen? ⟨g, i, none⟩ = false := by
  obtain ⟨h1, h2⟩ := h
  rcases h2 with ⟨_, h3⟩ | ⟨g, cap, cur, rfl, h4, h5, h6, h7, h8, h9⟩
  · omega
  · refine ⟨g, cap, rfl, h4, (Array.getElem?_eq_some_iff.1 h5).1, h6, h7, fun i u hu => ?_, fun i => by simp [World.frozen?, h5]⟩
    rw [← h9, List.getElem?_take] at hu
    split at hu
    · simp only [World.cell?, h5]
      simpa using hu
    · cases hu
theorem CellsAt.il {w : World} {g cap : Nat} {l : List Int} {n : Nat} (h : CellsAt w g (ints l)) (hg : g < w.heap.size) (hl : l.length = n) (h1 : n ≤ cap) (h2 : cap ≤ maxLen) : IL w (.slice (some ⟨g, 0, none⟩) n cap) l := by
  refine ⟨_, cap, by rw [ints_length, hl], by rw [ints_length, hl]; exact h1, h2, .inr ⟨g, 0, rfl, hg, fun i u hu => by rw [Nat.zero_add]; exact h i u hu⟩⟩
theorem CellsAt.row {w : World} {g cap : Nat} {L : List Nat} {n : Nat} (h : CellsAt w g (byts L)) (hg : g < w.heap.size) (hl : L.length = n) (h1 : n ≤ cap) (h2 : cap ≤ maxLen) (hB : Byt L) : ByRow w (fun r => r < w.heap.size) (some ⟨g, 0, none⟩) n cap L :=
  ⟨hl, h1, h2, hB, fun _ => ⟨g, 0, rfl, hg, hg, fun i b hi => by rw [Nat.zero_add]; exact h i _ (byts_at hi)⟩⟩
theorem ints_set (l : List Int) (i : Nat) (z : Int) : (ints l).set i (.int .i64 z) = ints (l.set i z) := by unfold ints; rw [List.map_set]
theorem ByRow.cells0 {w : World} {S : Nat → Prop} {g n cap : Nat} {L : List Nat} (h : ByRow w S (some ⟨g, 0, none⟩) n cap L) : CellsAt w g (byts L) := by
  intro i u hu
  unfold byts at hu
  rw [List.getElem?_map] at hu
  obtain ⟨b, hb, rfl⟩ := Option.map_eq_some_iff.1 hu
  have hi := (List.getElem?_eq_some_iff.1 hb).1
  obtain ⟨g', off, e, _, _, hc⟩ := h.row (by have := h.len; omega)
  cases e
  have := hc i b hb
  rwa [Nat.zero_add] at this
theorem IL.cells0 {w : World} {g n cap : Nat} {l : List Int} (h : IL w (.slice (some ⟨g, 0, none⟩) n cap) l) : CellsAt w g (ints l) := by
  obtain ⟨a, c, h1, h2, h3, h4⟩ := h
  simp only [Value.slice.injEq] at h1
  obtain ⟨rfl, rfl, rfl⟩ := h1
  intro i u hu
  rcases h4 with h4 | ⟨g', off, e, _, h5⟩
  · rw [h4] at hu; simp at hu
  · cases e
    have := h5 i u hu
    rwa [Nat.zero_add] at this
end Go.Proofs.Ytknjdkgemkmoeaa
