/- SameInts, SameBytes; an argument of integers as a list. -/
import Derived.Test.YthpdohfekillkaaHaK
import Derived.BigQuiet
namespace Go.Proofs.Ythpdohfekillkaa
open Go.ChangeShapes Go.WideShapes Go.ChangeAt Go.RowKit Go.Shelf
set_option linter.unusedSimpArgs false
set_option linter.unusedVariables false

theorem IntsAt.il {w : World} {v : Value} {Z : Nat → Int} {l : Nat} (h : IntsAt w v 1 Z l) : IL w v ((List.range l).map Z) := by
  obtain ⟨a, cap, rfl, h1, h2, hZ, h3⟩ := h
  have hl : (ints ((List.range l).map Z)).length = l := by rw [ints_length]; simp
  refine ⟨a, cap, by rw [hl], by rw [hl]; exact h1, h2, ?_⟩
  rcases h3 with rfl | ⟨g, off, rfl, h4⟩
  · exact .inl rfl
  · rcases Nat.eq_zero_or_pos l with rfl | hp
    · exact .inl rfl
    · refine .inr ⟨g, off, rfl, block_lt_of_cell (h4 0 (by omega)), fun i u hu => ?_⟩
      have hi : i < l := by rw [← hl]; exact (List.getElem?_eq_some_iff.1 hu).1
      have e : (ints ((List.range l).map Z))[i]? = some (.int .i64 (Z i)) := ints_at (by simp [hi])
      rw [e] at hu
      cases hu
      exact h4 i (by omega)
/-! ## The helpers at the law's numbers -/
theorem ints12 (v : Value) (l : List Int) (w : World) (h : IL w v l) (hnn : ∀ n c, v = .slice none n c → v = .slice none 0 0) : Calls Try.prog 32 #[v, .int .i64 12] w fun e w' => (∃ v, e = .returned v ∧ w'.ownsRow w.heap.size 3 1 v (l.take 12).length (ints (l.take 12))) ∧ Below w.heap.size w w' := ints_any v l 12 w h hnn (by decide)
theorem ints9 (v : Value) (l : List Int) (w : World) (h : IL w v l) (hnn : ∀ n c, v = .slice none n c → v = .slice none 0 0) : Calls Try.prog 32 #[v, .int .i64 9] w fun e w' => (∃ v, e = .returned v ∧ w'.ownsRow w.heap.size 3 1 v (l.take 9).length (ints (l.take 9))) ∧ Below w.heap.size w w' := ints_any v l 9 w h hnn (by decide)
theorem ints10 (v : Value) (l : List Int) (w : World) (h : IL w v l) (hnn : ∀ n c, v = .slice none n c → v = .slice none 0 0) : Calls Try.prog 32 #[v, .int .i64 10] w fun e w' => (∃ v, e = .returned v ∧ w'.ownsRow w.heap.size 3 1 v (l.take 10).length (ints (l.take 10))) ∧ Below w.heap.size w w' := ints_any v l 10 w h hnn (by decide)
theorem ints6 (v : Value) (l : List Int) (w : World) (h : IL w v l) (hnn : ∀ n c, v = .slice none n c → v = .slice none 0 0) : Calls Try.prog 32 #[v, .int .i64 6] w fun e w' => (∃ v, e = .returned v ∧ w'.ownsRow w.heap.size 3 1 v (l.take 6).length (ints (l.take 6))) ∧ Below w.heap.size w w' := ints_any v l 6 w h hnn (by decide)

/-- A word out of an argument. -/
theorem lit_word {n : Int} (h : (Lit.int .u64 n).wf = true) : ∃ x : W64, n = (x.toNat : Int) := by
  have h1 : IntKind.u64.min = 0 := rfl
  have h2 : IntKind.u64.max = 18446744073709551615 := rfl
  simp only [Lit.wf, Bool.and_eq_true, decide_eq_true_eq] at h
  refine ⟨BitVec.ofInt 64 n, ?_⟩
  rw [BitVec.toNat_ofInt]
  omega
theorem ByRow.few {w : World} {B : Nat} {e : TypeId} {v : Value} {q : Nat} {L : List Nat} (h : w.ownsRow B e 1 v (L.take q).length (byts (L.take q))) (hB : Byt L) :
    ∃ a m cap, v = .slice a m cap ∧ m ≤ q ∧ ByRow w (fun r => r < w.heap.size) a m cap (L.take q) ∧ (a = none → cap = 0) := by
  obtain ⟨a, cap, h1, h2, h3⟩ := ByRow.owned h fun b hb => hB b (List.mem_of_mem_take hb)
  exact ⟨a, _, cap, h1, by rw [List.length_take]; omega, h2, h3⟩
theorem take_small {α : Type} (L : List α) {q : Nat} (hq : q ≤ 100) : (L.take q).length ≤ 1000 := by rw [List.length_take]; omega
theorem size_small {r : ByteArray} {q : Nat} (h : r.size ≤ q) (hq : q ≤ 100) : r.size ≤ 1000 := by omega
theorem ByRow.up {w w' : World} {a : Option Addr} {n cap : Nat} {L : List Nat} (h : ByRow w (fun r => r < w.heap.size) a n cap L) (hb : Below w.heap.size w w') : ByRow w' (fun r => r < w'.heap.size) a n cap L :=
  (h.carry hb).mono fun r hr => Nat.lt_of_lt_of_le hr hb.size
theorem beq_self_int (z : Int) : (z == z) = true := by simp
end Go.Proofs.Ythpdohfekillkaa
