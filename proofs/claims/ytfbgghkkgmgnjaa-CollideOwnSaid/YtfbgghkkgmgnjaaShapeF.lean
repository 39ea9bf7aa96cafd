/- Package shape: Validate. -/
import Derived.Test.YtfbgghkkgmgnjaaShapeE
namespace Go.Proofs.Ytfbgghkkgmgnjaa
open Go.ChangeShapes Go.WideShapes Go.ChangeAt Go.RowKit
open Fxm
set_option linter.unusedSimpArgs false
set_option linter.unusedVariables false

/-- A slice value that holds vs, nil or not. -/
def Poly (w : World) (v : Value) (vs : List (Int × Int)) : Prop := (vs = [] ∧ ∃ a cap, v = .slice a 0 cap) ∨ ∃ g off cap, v = .slice (some ⟨g, off, none⟩) vs.length cap ∧ RowO w g off cap vs
theorem Poly.carry {w w' : World} {v : Value} {vs : List (Int × Int)} (h : Poly w v vs) (hb : Below w.heap.size w w') : Poly w' v vs := by
  rcases h with h | ⟨g, off, cap, h1, h2⟩
  · exact Or.inl h
  · exact Or.inr ⟨g, off, cap, h1, h2.carry hb⟩
theorem Row.poly {w : World} {g cap : Nat} {vs : List (Int × Int)} (h : Row w g cap vs) : Poly w (.slice (some ⟨g, 0, none⟩) vs.length cap) vs := Or.inr ⟨g, 0, cap, rfl, h.o⟩
def ValidC (r : Int) (n : Nat) : Prop := n = 0 ∧ 1 ≤ r ∧ r ≤ 32768
def ValidP (r : Int) (vs : List (Int × Int)) : Prop := r = 0 ∧ 3 ≤ vs.length ∧ vs.length ≤ 6 ∧ Small vs ∧ Convex vs
def Valid (r : Int) (vs : List (Int × Int)) : Prop := ValidC r vs.length ∨ ValidP r vs
section
open Classical in
noncomputable def pB (p : Prop) : Bool := if p then true else false
end
theorem pB_true {p : Prop} (h : p) : pB p = true := by unfold pB; rw [if_pos h]
theorem pB_false {p : Prop} (h : ¬ p) : pB p = false := by unfold pB; rw [if_neg h]
theorem convexB_pB (vs : List (Int × Int)) : convexB vs = pB (Convex vs) := rfl

def InR (n : Int) : Prop := -32768 ≤ n ∧ n ≤ 32768
theorem ok_ret (p : Prop) : pB p = true ∨ pB p = false := by cases pB p <;> simp
end Go.Proofs.Ytfbgghkkgmgnjaa
