/- The laws' helpers of merkle: numbers in their range, nil rows. -/
import Derived.Test.YthpdohfekillkaaMlL
import Derived.Test.YthpdohfekillkaaMkF
namespace Go.Proofs.Ythpdohfekillkaa
open Go.ChangeShapes Go.WideShapes Go.ChangeAt Go.RowKit Go.Shelf
set_option linter.unusedSimpArgs false
set_option linter.unusedVariables false

theorem own_nil {w : World} {B : Nat} {e : TypeId} {v : Value} {n : Nat} {xs : List Value} (h : w.ownsRow B e 1 v n xs) : ∀ m c, v = .slice none m c → v = .slice none 0 0 := by
  intro m c hv
  rcases h.2 with ⟨h1, _⟩ | ⟨g, cap, cur, h1, _⟩
  · exact h1
  · rw [h1] at hv; cases hv
def All64 (C : List Int) : Prop := ∀ x ∈ C, I64 x
theorem All64.take {C : List Int} (h : All64 C) (n : Nat) : All64 (C.take n) := fun x hx => h x (List.mem_of_mem_take hx)
theorem All64.at {C : List Int} (h : All64 C) {i : Nat} {x : Int} (hi : C[i]? = some x) : I64 x := h x (List.mem_of_getElem? hi)
theorem All64.set {C : List Int} (h : All64 C) (i : Nat) {v : Int} (hv : I64 v) : All64 (C.set i v) := fun x hx => by
  rcases List.mem_or_eq_of_mem_set hx with h1 | h1
  · exact h x h1
  · rw [h1]; exact hv
theorem ints_64 {w : World} {v : Value} {Z : Nat → Int} {l : Nat} (h : IntsAt w v 1 Z l) : All64 ((List.range l).map Z) := by
  obtain ⟨a, cap, rfl, h1, h2, hZ, h3⟩ := h
  intro x hx
  obtain ⟨i, hi, rfl⟩ := List.mem_map.1 hx
  have hil := List.mem_range.1 hi
  exact lit_i64 (hZ i)
theorem prL_few {C : List Int} (h : C.length ≤ 1000) (i : Int) : (prL C i).length ≤ 16 := by
  unfold prL
  split
  · rw [proofW_len]; exact ht_small (by omega)
  · simp
theorem prI_64 {C : List Int} (h : C.length ≤ 1000) (i : Int) : I64 (prI C i) := by
  unfold prI I64
  split <;> omega
theorem prV_64 {C : List Int} (h : All64 C) (i : Int) : I64 (prV C i) := by
  unfold prV
  split
  · rename_i hi
    rw [List.getD_eq_getElem?_getD]
    cases hx : C[i.toNat]? with
    | none => show I64 0; unfold I64; omega
    | some x => exact h.at hx
  · unfold I64; omega
theorem arnd_64 (n : Int) {m : Int} (h : 0 < m) (h2 : m ≤ 100000) : I64 (arnd n m) := by
  have := arnd_bd n h
  unfold I64; omega
end Go.Proofs.Ythpdohfekillkaa
