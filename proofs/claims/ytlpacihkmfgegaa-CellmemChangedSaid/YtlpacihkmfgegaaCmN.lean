/- For CellmemNested: the states and the marks that are gathered beside the memory. -/
import Derived.Test.YtlpacihkmfgegaaCmM
namespace Go.Proofs.Ytlpacihkmfgegaa
open Go.ChangeShapes Go.WideShapes Go.ChangeAt Go.RowKit
open Cm
set_option linter.unusedSimpArgs false
set_option linter.unusedVariables false

theorem grown_moves {w w' : World} {row : Option Nat} (h : w.grownBy w' row) : Moves (fun i => row = some i) w (fun i => row = some i) w' :=
  ⟨h.os, h.tape, h.output, h.size, fun i hi hn => h.block i hi (fun e => hn e.symm), fun _ h => .inl h⟩
theorem row_moves {w w' : World} {O O' : Nat → Prop} {B : Nat} {e : TypeId} {k : Nat} {v : Value} {n : Nat} {xs : List Value} (h : w.ownsRow B e k v n xs) (hm : Moves O w O' w') (hn : ∀ g, v.ownBlock = some g → ¬ O g) : w'.ownsRow B e k v n xs := by
  refine ⟨h.1, ?_⟩
  rcases h.2 with h1 | ⟨g, cap, cur, rfl, h2, h3, h4⟩
  · exact .inl h1
  · exact .inr ⟨g, cap, cur, rfl, h2, (hm.block g (Array.getElem?_eq_some_iff.1 h3).1 (hn g rfl)).trans h3, h4⟩
/-- Rows of slices sv (their values xs, their numbers cs) and of numbers mv, apart from one another and from the object's blocks O; all new since w0. -/
structure Nst (w0 : World) (O : Nat → Prop) (w : World) (sv mv : Value) (xs : List Value) (cs : Nat → List Int) (ms : List Int) (t : Nat) : Prop where
  fresh : Fresh w0 O w
  row : w.ownsRow w0.heap.size 22 1 sv t xs
  el : ∀ (i : Nat) (x : Value), xs[i]? = some x → IL w x (cs i)
  ne : ∀ (i : Nat) (x : Value), xs[i]? = some x → ∀ g, x.ownBlock = some g → ¬ O g ∧ sv.ownBlock ≠ some g ∧ mv.ownBlock ≠ some g ∧ g < w.heap.size
  so : ∀ g, sv.ownBlock = some g → ¬ O g ∧ mv.ownBlock ≠ some g
  marks : w.ownsRow w0.heap.size 3 1 mv ms.length (ints ms)
  mo : ∀ g, mv.ownBlock = some g → ¬ O g
section
variable {w0 w : World} {O : Nat → Prop} {sv mv : Value} {xs : List Value} {cs : Nat → List Int} {ms : List Int} {t : Nat}
theorem Nst.moves (h : Nst w0 O w sv mv xs cs ms t) {O' : Nat → Prop} {w' : World} (hm : Moves O w O' w') : Nst w0 O' w' sv mv xs cs ms t := by
  have hs := hm.size
  have key : ∀ g, ¬ O g → g < w.heap.size → ¬ O' g := fun g h1 h2 e => by
    rcases hm.own g e with h3 | h3
    · exact h1 h3
    · omega
  refine ⟨h.fresh.moves hm, row_moves h.row hm fun g hg => (h.so g hg).1, fun i x hx => (h.el i x hx).moves hm fun g hg => (h.ne i x hx g hg).1, fun i x hx g hg => ?_, fun g hg => ⟨key g (h.so g hg).1 (h.row.lt g hg).2, (h.so g hg).2⟩, row_moves h.marks hm h.mo, fun g hg => key g (h.mo g hg) (h.marks.lt g hg).2⟩
  obtain ⟨h1, h2, h3, h4⟩ := h.ne i x hx g hg
  exact ⟨key g h1 h4, h2, h3, by omega⟩
theorem Nst.carry (h : Nst w0 O w sv mv xs cs ms t) {w' : World} (hb : Below w.heap.size w w') : Nst w0 O w' sv mv xs cs ms t := h.moves (Moves.below O hb)
/-- A state is gathered. -/
theorem Nst.pushS (h : Nst w0 O w sv mv xs cs ms t) (hO : ∀ g, O g → g < w.heap.size) {y1 w' : World} {vc v' : Value} {o : Obj} (h1 : Below w.heap.size w y1) (hv : IL y1 vc (cs t)) (hvb : ∀ g, vc.ownBlock = some g → w.heap.size ≤ g ∧ g < y1.heap.size)
    (hown : w'.ownsRow w0.heap.size 22 1 v' (t + 1) (xs ++ [vc])) (hg : (y1.alloc o).grownBy w' sv.ownBlock) (hloc : v'.ownBlock = sv.ownBlock ∨ v'.ownBlock = some (y1.alloc o).heap.size) :
    Nst w0 O w' v' mv (xs ++ [vc]) cs ms (t + 1) ∧ Moves (fun i => sv.ownBlock = some i) w (fun i => sv.ownBlock = some i) w' := by
  have hs1 := h1.size
  have hs2 : (y1.alloc o).heap.size = y1.heap.size + 1 := by simp
  have hs3 := hg.size
  have hm : Moves (fun i => sv.ownBlock = some i) w (fun i => sv.ownBlock = some i) w' := (Moves.below _ (below_step h1 (alloc_below y1 o))).trans (grown_moves hg)
  have hxl : xs.length = t := by have := h.row.1; omega
  have loc : ∀ g, v'.ownBlock = some g → sv.ownBlock = some g ∨ g = y1.heap.size + 1 := fun g hg2 => by
    rcases hloc with e | e
    · exact .inl (by rw [← e]; exact hg2)
    · right; rw [hg2] at e; have := Option.some.inj e; omega
  have hfr : Fresh w0 O w' := ⟨hm.toBelow h.fresh.below fun i hi => (h.row.lt i hi).1, h.fresh.own⟩
  have sl : ∀ g, sv.ownBlock = some g → g < w.heap.size := fun g hg2 => (h.row.lt g hg2).2
  refine ⟨⟨hfr, hown, fun i x hx => ?_, fun i x hx g hg2 => ?_, fun g hg2 => ?_, row_moves h.marks hm fun g hg2 e => (h.so g e).2 hg2, h.mo⟩, hm⟩
  · rcases Nat.lt_or_ge i t with hi | hi
    · rw [List.getElem?_append_left (by omega)] at hx
      exact (h.el i x hx).moves hm fun g hg2 => (h.ne i x hx g hg2).2.1
    · rw [List.getElem?_append_right (by omega)] at hx
      have h9 := (List.getElem?_eq_some_iff.1 hx).1
      simp only [List.length_cons, List.length_nil] at h9
      obtain rfl : i = t := by omega
      rw [show i - xs.length = 0 by omega] at hx
      cases hx
      exact (hv.carry (alloc_below y1 o)).moves (grown_moves hg) fun g hg2 e => by have := (hvb g hg2).1; have := sl g e; omega
  · rcases Nat.lt_or_ge i t with hi | hi
    · rw [List.getElem?_append_left (by omega)] at hx
      obtain ⟨a1, a2, a3, a4⟩ := h.ne i x hx g hg2
      refine ⟨a1, fun e => ?_, a3, by omega⟩
      rcases loc g e with e1 | e1
      · exact a2 e1
      · omega
    · rw [List.getElem?_append_right (by omega)] at hx
      have h9 := (List.getElem?_eq_some_iff.1 hx).1
      simp only [List.length_cons, List.length_nil] at h9
      rw [show i - xs.length = 0 by omega] at hx
      cases hx
      obtain ⟨b1, b2⟩ := hvb g hg2
      refine ⟨fun e => by have := hO g e; omega, fun e => ?_, fun e => by have := (h.marks.lt g e).2; omega, by omega⟩
      rcases loc g e with e1 | e1
      · have := sl g e1; omega
      · omega
  · rcases loc g hg2 with e1 | e1
    · exact h.so g e1
    · exact ⟨fun e => by have := hO g e; omega, fun e => by have := (h.marks.lt g e).2; omega⟩
/-- A mark is gathered. -/
theorem Nst.pushM (h : Nst w0 O w sv mv xs cs ms t) (hO : ∀ g, O g → g < w.heap.size) {y1 w' : World} {v' : Value} {o : Obj} {z : Int} (h1 : Below w.heap.size w y1)
    (hown : w'.ownsRow w0.heap.size 3 1 v' (ms.length + 1) (ints ms ++ [.int .i64 z])) (hg : (y1.alloc o).grownBy w' mv.ownBlock) (hloc : v'.ownBlock = mv.ownBlock ∨ v'.ownBlock = some (y1.alloc o).heap.size) :
    Nst w0 O w' sv v' xs cs (ms ++ [z]) t ∧ Moves (fun i => mv.ownBlock = some i) w (fun i => mv.ownBlock = some i) w' := by
  have hs1 := h1.size
  have hs2 : (y1.alloc o).heap.size = y1.heap.size + 1 := by simp
  have hs3 := hg.size
  have hm : Moves (fun i => mv.ownBlock = some i) w (fun i => mv.ownBlock = some i) w' := (Moves.below _ (below_step h1 (alloc_below y1 o))).trans (grown_moves hg)
  have loc : ∀ g, v'.ownBlock = some g → mv.ownBlock = some g ∨ g = y1.heap.size + 1 := fun g hg2 => by
    rcases hloc with e | e
    · exact .inl (by rw [← e]; exact hg2)
    · right; rw [hg2] at e; have := Option.some.inj e; omega
  have hfr : Fresh w0 O w' := ⟨hm.toBelow h.fresh.below fun i hi => (h.marks.lt i hi).1, h.fresh.own⟩
  refine ⟨⟨hfr, row_moves h.row hm fun g hg2 e => (h.so g hg2).2 e, fun i x hx => (h.el i x hx).moves hm fun g hg2 => (h.ne i x hx g hg2).2.2.1, fun i x hx g hg2 => ?_, fun g hg2 => ⟨(h.so g hg2).1, fun e => ?_⟩, ?_, fun g hg2 => ?_⟩, hm⟩
  · obtain ⟨a1, a2, a3, a4⟩ := h.ne i x hx g hg2
    refine ⟨a1, a2, fun e => ?_, by omega⟩
    rcases loc g e with e1 | e1
    · exact a3 e1
    · omega
  · rcases loc g e with e1 | e1
    · exact (h.so g hg2).2 e1
    · have := (h.row.lt g hg2).2; omega
  · rw [List.length_append, List.length_cons, List.length_nil, Nat.zero_add]
    unfold ints at *
    rw [List.map_append]
    exact hown
  · rcases loc g hg2 with e1 | e1
    · exact h.mo g e1
    · exact fun e => by have := hO g e; omega
end
theorem info_row : (Try.prog.info? 22).map (fun i => (i.zero, i.size, i.bytes)) = some (some (.slice none 0 0), 1, 24) := by kernel_rfl
/-- The positions at the first t marks. -/
def marksL (S : Me) (Z : Nat → Int) (t : Nat) : List Int := (List.range t).map fun i => ((S.sets (moreN Z i)).pos : Int)
theorem marksL_succ (S : Me) (Z : Nat → Int) (t : Nat) : marksL S Z (t + 1) = marksL S Z t ++ [((S.sets (moreN Z t)).pos : Int)] := by unfold marksL; rw [List.range_succ, List.map_append]; rfl
theorem marksL_len (S : Me) (Z : Nat → Int) (t : Nat) : (marksL S Z t).length = t := by unfold marksL; simp
theorem marksL_at (S : Me) (Z : Nat → Int) {t i : Nat} (h : i < t) : (marksL S Z t)[i]? = some ((S.sets (moreN Z i)).pos : Int) := by unfold marksL; simp [h]
/-- One Set is taken back. -/
theorem sets_back (S : Me) (Z : Nat → Int) (q : Nat) : (S.sets (moreN Z (q + 1))).err (S.sets (moreN Z q)).pos = 0 ∧ (S.sets (moreN Z (q + 1))).undo (S.sets (moreN Z q)).pos = S.sets (moreN Z q) := by
  rw [sets_next]
  obtain ⟨es, h, _⟩ := (Since.refl (S.sets (moreN Z q))).set (arnd (Z (q * 2)) 6) (Z (q * 2 + 1))
  exact h.undo
end Go.Proofs.Ytlpacihkmfgegaa
