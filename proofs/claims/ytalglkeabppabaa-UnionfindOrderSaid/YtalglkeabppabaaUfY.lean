/- Edges in another order: what UnionfindOrder's loops gather. -/
import Derived.Test.YtalglkeabppabaaUfX
namespace Go.Proofs.Ytalglkeabppabaa
open Go.ChangeShapes Go.WideShapes Go.ChangeAt Go.RowKit
open Uf
set_option linter.unusedSimpArgs false
set_option linter.unusedVariables false

def swapP (p : Int × Int) : Int × Int := (p.2, p.1)
/-- The edges from n on, turned round, the last one first. -/
def revE (E : List (Int × Int)) (n : Nat) : List (Int × Int) := (E.drop n).reverse.map swapP
theorem revE_end (E : List (Int × Int)) : revE E E.length = [] := by unfold revE; rw [List.drop_length]; rfl
theorem revE_step {E : List (Int × Int)} {n : Nat} {p : Int × Int} (h : E[n]? = some p) : revE E n = revE E (n + 1) ++ [swapP p] := by
  unfold revE
  obtain ⟨hn, e⟩ := List.getElem?_eq_some_iff.1 h
  rw [List.drop_eq_getElem_cons hn, e, List.reverse_cons, List.map_append]
  rfl
theorem revE_len (E : List (Int × Int)) (n : Nat) : (revE E n).length = E.length - n := by unfold revE; simp
/-- The first n edges, each twice. -/
def dupE (E : List (Int × Int)) (n : Nat) : List (Int × Int) := (E.take n).flatMap fun p => [p, p]
theorem dupE_step {E : List (Int × Int)} {n : Nat} {p : Int × Int} (h : E[n]? = some p) : dupE E (n + 1) = dupE E n ++ [p, p] := by
  unfold dupE
  rw [List.take_add_one, h, Option.toList_some, List.flatMap_append]
  rfl
theorem dup_len : ∀ l : List (Int × Int), (l.flatMap fun p => [p, p]).length = 2 * l.length
  | [] => rfl
  | p :: l => by rw [List.flatMap_cons, List.length_append, dup_len l]; simp only [List.length_cons, List.length_nil]; omega
theorem dupE_len (E : List (Int × Int)) (n : Nat) : (dupE E n).length = 2 * min n E.length := by
  unfold dupE
  rw [dup_len, List.length_take]
theorem other_same (k : Nat) (E : List (Int × Int)) (c : Nat) : isl k E = isl k (revE E c ++ dupE E c) := by
  have hE : ∀ p : Int × Int, p ∈ E ↔ p ∈ E.take c ∨ p ∈ E.drop c := fun p => by
    conv => lhs; rw [← List.take_append_drop c E]
    exact List.mem_append
  have hd : ∀ p : Int × Int, p ∈ dupE E c ↔ p ∈ E.take c := fun p => by
    unfold dupE
    simp
  have hr : ∀ p : Int × Int, p ∈ revE E c ↔ swapP p ∈ E.drop c := fun p => by
    unfold revE
    rw [List.mem_map]
    constructor
    · rintro ⟨q, hq, rfl⟩; exact List.mem_reverse.1 hq
    · intro h; exact ⟨swapP p, List.mem_reverse.2 h, rfl⟩
  refine isl_same (fun a b h => ?_) (fun a b h => ?_)
  · rcases (hE _).1 h with h1 | h1
    · exact .inl (List.mem_append_right _ ((hd _).2 h1))
    · exact .inr (List.mem_append_left _ ((hr _).2 h1))
  · rcases List.mem_append.1 h with h1 | h1
    · exact .inr ((hE _).2 (.inr ((hr _).1 h1)))
    · exact .inl ((hE _).2 (.inl ((hd _).1 h1)))
end Go.Proofs.Ytalglkeabppabaa
