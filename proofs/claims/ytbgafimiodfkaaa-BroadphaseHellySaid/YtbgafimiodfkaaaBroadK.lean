/- For the laws over lists of boxes: Same on one list; boxes out of numbers that came in. -/
import Derived.Test.YtbgafimiodfkaaaBroadI
namespace Go.Proofs.Ytbgafimiodfkaaa
open Go.ChangeShapes Go.WideShapes Go.ChangeAt Go.RowKit
open Bo
set_option linter.unusedSimpArgs false
set_option linter.unusedVariables false

theorem sameT_any (v v' : Value) (ps : List (Nat × Nat)) (W : World) (h : PairsAt W v ps) (h' : PairsAt W v' ps) :
    Calls Try.prog 15 #[v, v'] W fun e w' => e = .returned (.bool true) ∧ Below W.heap.size W w' :=
  (same_any v v' ps ps W h h').mono fun e w' ⟨he, hk⟩ => ⟨by rw [he, decide_eq_true rfl], below_drawn hk⟩
/-- Pairs and the reference's Pairs on one list, then Same. -/
def PairsGive (e : Ending) (w' : World) (bs : List Bx) : Prop := ∃ v, e = .returned v ∧ PairsAt w' v (pairs bs)
theorem pairsG_any (v : Value) (bs : List Bx) (w : World) (hv : BoxesAt w v bs) (hn : bs.length ≤ 1000) :
    Calls Try.prog 16 #[v] w fun e w' => PairsGive e w' bs ∧ Below w.heap.size w w' :=
  (pairs_any v bs w hv hn).mono fun e w' ⟨⟨p, he, ho⟩, hb⟩ => ⟨⟨p, he, PairsAt.owned ho⟩, hb⟩
theorem refPairsG_any (v : Value) (bs : List Bx) (w : World) (hv : BoxesAt w v bs) (hn : bs.length ≤ 1000) (hP : AllProper bs) :
    Calls Try.prog 17 #[v] w fun e w' => PairsGive e w' bs ∧ Below w.heap.size w w' :=
  (refPairs_any v bs w hv hn hP).mono fun e w' ⟨⟨p, he, ho⟩, hb⟩ => ⟨⟨p, he, PairsAt.owned ho⟩, hb⟩
end Go.Proofs.Ytbgafimiodfkaaa
