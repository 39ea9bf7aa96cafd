/- Package collide: a turned polygon collides as the polygon does. -/
import Derived.Test.YtfbgghkkgmgnjaaCollP
import Derived.Test.YtfbgghkkgmgnjaaShapeL
namespace Go.Proofs.Ytfbgghkkgmgnjaa
open Go.ChangeShapes Go.WideShapes Go.ChangeAt Go.RowKit Go.Shelf
open Fxm
set_option linter.unusedSimpArgs false
set_option linter.unusedVariables false

/-- e collides with whatever polygon as s does. -/
def SameCol (s e : Sp) : Prop := ∀ (t : Sp) (p q : Int × Int), 1 ≤ t.n → colB s t p q = colB e t p q ∧ (colN s t p q).2.2 = (colN e t p q).2.2
theorem Sh.turnedP {w : World} {s : Sp} (h : Sh w s) (hs : 1 ≤ s.n) (n : Int) (hn : (Lit.int .i64 n).wf = true) :
    Calls Try.prog 37 #[.agg #[.int .i64 s.r, .slice s.a s.n s.cap], .int .i64 n] w fun e w' => ∃ t : Sp, e = .returned (.agg #[.int .i64 t.r, .slice t.a t.n t.cap]) ∧ SameCol s t ∧ Sh w' t ∧ Below w.heap.size w w' := by
  cases s with
  | c r => exact absurd hs (by show ¬ 1 ≤ 0; omega)
  | p g cap vs =>
    have hG := h.2
    have hl := hG.lo
    have hh := hG.hi
    refine (turned_any 0 n g 0 cap vs w (by omega) (by omega) h.1.le h.1.max (fun i u hu => by rw [Nat.zero_add]; exact h.1.cells i u hu) hn).mono fun e w' ⟨⟨k, g', cap', hk, he, _, hR⟩, hb⟩ => ?_
    have hr : (rot k vs).length = vs.length := rot_length (Nat.le_of_lt hk)
    exact ⟨.p g' cap' (rot k vs), by rw [he]; simp only [Sp.r, Sp.a, Sp.n, Sp.cap]; rw [hr], fun t p q ht => turn_col hk ht, ⟨hR, hG.rot hk⟩, hb⟩
end Go.Proofs.Ytfbgghkkgmgnjaa
