/- For UnionfindPaths: the list of what has been reached. -/
import Derived.Test.YtalglkeabppabaaUfM
namespace Go.Proofs.Ytalglkeabppabaa
open Go.ChangeShapes Go.WideShapes Go.ChangeAt Go.RowKit
open Uf
set_option linter.unusedSimpArgs false
set_option linter.unusedVariables false

/-- What has been reached from s. -/
structure Good (k : Nat) (E : List (Int × Int)) (s : Nat) (r : List Nat) : Prop where
  mem : s ∈ r
  nd : r.Nodup
  ok : ∀ x, x ∈ r → x < k ∧ Conn k E s x
theorem Good.start {k : Nat} {E : List (Int × Int)} {s : Nat} (h : s < k) : Good k E s [s] :=
  ⟨List.mem_singleton.2 rfl, by simp, fun x hx => by obtain rfl := List.mem_singleton.1 hx; exact ⟨h, .refl _⟩⟩
theorem Good.len {k : Nat} {E : List (Int × Int)} {s : Nat} {r : List Nat} (h : Good k E s r) : r.length ≤ k := reach_le h.nd fun x hx => (h.ok x hx).1
theorem Good.add {k : Nat} {E : List (Int × Int)} {s u q : Nat} {r : List Nat} (h : Good k E s r) (hu : u ∈ r) (hq : q < k) (hn : q ∉ r) (hc : Conn k E u q) : Good k E s (r ++ [q]) := by
  refine ⟨List.mem_append_left _ h.mem, ?_, fun x hx => ?_⟩
  · rw [List.nodup_append]
    exact ⟨h.nd, by simp, fun x hx y hy => by obtain rfl := List.mem_singleton.1 hy; exact fun e => hn (e ▸ hx)⟩
  · rcases List.mem_append.1 hx with hx | hx
    · exact h.ok x hx
    · obtain rfl := List.mem_singleton.1 hx
      exact ⟨hq, (h.ok u hu).2.trans hc⟩
/-- An edge joins p to q one way: q has been reached if p is u. -/
def Half (k : Nat) (r : List Nat) (u : Nat) (p q : Int) : Prop := inB k p = true → inB k q = true → p.toNat = u → q.toNat ∈ r
theorem Half.mono {k : Nat} {r r' : List Nat} {u : Nat} {p q : Int} (h : Half k r u p q) (hr : ∀ x, x ∈ r → x ∈ r') : Half k r' u p q := fun h1 h2 h3 => hr _ (h h1 h2 h3)
theorem led_snoc {k : Nat} {E : List (Int × Int)} {r : List Nat} {u j : Nat} {a b : Int} (hj : E[j]? = some (a, b)) (h : Led k (E.take j) r u) (h1 : Half k r u a b) (h2 : Half k r u b a) : Led k (E.take (j + 1)) r u := by
  rw [List.take_add_one, hj, Option.toList_some]
  refine h.append fun x y hxy hx hy => ?_
  obtain ⟨rfl, rfl⟩ : x = a ∧ y = b := by simpa using hxy
  exact ⟨fun e => h1 hx hy e, fun e => h2 hy hx e⟩
theorem led_nil (k : Nat) (r : List Nat) (u : Nat) : Led k [] r u := fun a b h => by cases h
/-- A row of one integer. -/
theorem one_row (w : World) (B : Nat) (z : Int) (hB : B ≤ w.heap.size) : RowI (w.alloc (.cells #[.int .i64 z] 3)) B (.slice (some ⟨w.heap.size, 0, none⟩) 1 1) [z] :=
  ⟨rfl, .inr ⟨w.heap.size, 1, #[.int .i64 z], rfl, hB, (MapKept.heap_alloc w _).1, Nat.le_refl _, by unfold maxLen; omega, rfl, rfl⟩⟩
end Go.Proofs.Ytalglkeabppabaa
