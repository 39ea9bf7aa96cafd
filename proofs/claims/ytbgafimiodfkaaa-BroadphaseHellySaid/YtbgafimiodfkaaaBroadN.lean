/-
  package broadphase, for P4.4: the table of the pairs that meet (twenty by twenty cells of a block); Helly's theorem for three boxes.
-/
import Derived.Test.YtbgafimiodfkaaaBroadM
namespace Go.Proofs.Ytbgafimiodfkaaa
open Go.ChangeShapes Go.WideShapes Go.ChangeAt Go.RowKit
open Bo
set_option linter.unusedVariables false

/-- The twenty by twenty cells of block B hold f. -/
def Meet (W : World) (B : Nat) (f : Nat → Nat → Bool) : Prop := ∀ a b, a < 20 → b < 20 → W.cell? ⟨B, a * 20 + b, none⟩ = some (.bool (f a b)) ∧ W.frozen? ⟨B, a * 20 + b, none⟩ = false
theorem Meet.new (W : World) (t : TypeId) : Meet (W.alloc (.cells (Array.replicate 400 (.bool false)) t)) W.heap.size (fun _ _ => false) := fun a b ha hb => by
  refine ⟨?_, World.frozen?_alloc_new _ _ _ _⟩
  rw [World.cell?_alloc_new, Array.getElem?_replicate, if_pos (by omega)]
theorem Meet.carry {W W' : World} {B : Nat} {f : Nat → Nat → Bool} (h : Meet W B f) (hB : B < W.heap.size) (hb : Below W.heap.size W W') : Meet W' B f := fun a b h1 h2 =>
  ⟨(hb.cell (p := ⟨B, a * 20 + b, none⟩) hB).trans (h a b h1 h2).1, (hb.frozen (p := ⟨B, a * 20 + b, none⟩) hB).trans (h a b h1 h2).2⟩
theorem Meet.set {W : World} {B : Nat} {f g : Nat → Nat → Bool} (h : Meet W B f) {a b : Nat} (ha : a < 20) (hb : b < 20) (hs : g a b = true) (ho : ∀ x y, ¬ (x = a ∧ y = b) → g x y = f x y) :
    Meet (W.setCell ⟨B, a * 20 + b, none⟩ (.bool true)) B g := fun x y hx hy => by
  refine ⟨?_, by rw [World.frozen?_setCell]; exact (h x y hx hy).2⟩
  by_cases e : x = a ∧ y = b
  · obtain ⟨rfl, rfl⟩ := e
    rw [hs]
    exact World.cell?_setCell_same (h := (h x y hx hy).1) ..
  · rw [ho x y e, World.cell?_setCell_other (h := fun hq => e (by simp only [Addr.mk.injEq, true_and, and_true] at hq; exact ⟨by omega, by omega⟩))]
    exact (h x y hx hy).1

/-- Is (a, b) among the first k pairs? -/
def inP (ps : List (Nat × Nat)) (k : Nat) (a b : Nat) : Bool := decide ((a, b) ∈ ps.take k)
theorem inP_none (ps : List (Nat × Nat)) : inP ps 0 = fun _ _ => false := by
  funext a b; simp [inP]
theorem inP_here {ps : List (Nat × Nat)} {k : Nat} (hk : k < ps.length) : inP ps (k + 1) (atP ps k).1 (atP ps k).2 = true := by
  unfold inP
  rw [decide_eq_true_iff, List.take_add_one, atP_get hk]
  simp
theorem inP_else {ps : List (Nat × Nat)} {k : Nat} (hk : k < ps.length) (x y : Nat) (h : ¬ (x = (atP ps k).1 ∧ y = (atP ps k).2)) : inP ps (k + 1) x y = inP ps k x y := by
  unfold inP
  rw [List.take_add_one, atP_get hk]
  have : ¬ (x, y) = atP ps k := fun e => h (by rw [← e]; exact ⟨rfl, rfl⟩)
  simp [this]
theorem inP_full {bs : List Bx} {a b : Nat} (hab : a < b) (hb : b < bs.length) (h : inP (pairs bs) (pairs bs).length a b = true) : Ov (at' bs a) (at' bs b) := by
  unfold inP at h
  rw [decide_eq_true_iff, List.take_length, mem_pairs] at h
  exact h.2.2
theorem pair_bounds {bs : List Bx} {k : Nat} (hk : k < (pairs bs).length) : (atP (pairs bs) k).1 < (atP (pairs bs) k).2 ∧ (atP (pairs bs) k).2 < bs.length := by
  have := List.mem_of_getElem? (atP_get hk)
  rw [mem_pairs] at this
  exact ⟨this.1, this.2.1⟩

theorem slice_pairs {W : World} {v : Value} {ps : List (Nat × Nat)} (h : PairsAt W v ps) : ∃ x cp, v = .slice x ps.length cp ∧ (ps = [] ∨ ∃ g off, x = some ⟨g, off, none⟩ ∧ RowK encPr W g off cp ps) := by
  rcases h with ⟨rfl, x, cap, rfl⟩ | ⟨g, off, cap, rfl, hR⟩
  · exact ⟨x, cap, rfl, Or.inl rfl⟩
  · exact ⟨_, _, rfl, Or.inr ⟨g, off, rfl, hR⟩⟩
theorem slice_boxes {W : World} {v : Value} {bs : List Bx} (h : BoxesAt W v bs) : ∃ x cp, v = .slice x bs.length cp ∧ (bs = [] ∨ ∃ g off, x = some ⟨g, off, none⟩ ∧ RowK Bx.cells W g off cp bs) := by
  rcases h with ⟨rfl, x, cap, rfl⟩ | ⟨g, off, cap, rfl, hR⟩
  · exact ⟨x, cap, rfl, Or.inl rfl⟩
  · exact ⟨_, _, rfl, Or.inr ⟨g, off, rfl, hR⟩⟩

/-- Three boxes that overlap pairwise have the greatest of their left lower corners in common. -/
theorem helly {A B C : Bx} (hA : Proper A) (hB : Proper B) (hC : Proper C) (h1 : Ov A B) (h2 : Ov A C) (h3 : Ov B C) {x y : Int} (hx : x = max (max A.x0 B.x0) C.x0) (hy : y = max (max A.y0 B.y0) C.y0) :
    ov A ⟨x, y, x, y⟩ = true ∧ ov B ⟨x, y, x, y⟩ = true ∧ ov C ⟨x, y, x, y⟩ = true := by
  unfold Proper at hA hB hC
  unfold Ov at h1 h2 h3
  refine ⟨ov_true ?_, ov_true ?_, ov_true ?_⟩ <;> (unfold Ov; simp only; omega)

theorem infoMeet : (Try.prog.info? 38).bind (·.zero) = some (.agg (Array.replicate 400 (.bool false))) := by kernel_rfl
theorem zeroMeet : ∃ Z, Z = Array.replicate 400 (Value.bool false) ∧ ∀ w, (zeroValue 38).run Try.prog w = .ok (.agg Z) w := by
  refine ⟨_, rfl, fun w => ?_⟩
  obtain ⟨i, hi, hz⟩ := Option.bind_eq_some_iff.1 infoMeet
  unfold zeroValue
  simp [go_sem, typeInfo, hi, hz]
end Go.Proofs.Ytbgafimiodfkaaa
