/- Worlds that have only gained blocks: 'over w x', and regions that draw their order whose operations read old cells and whose callees make new blocks alone: one walk. -/
import Derived.Below
import Derived.Deep.Quiet
import Derived.Deep.Draws
import Derived.BigQuiet
namespace Go.Proofs.Ytknjdkgemkmoeaa
open Go.RowKit

section
open Classical in
/-- x, if it has all of w's blocks as they were; else w. -/
noncomputable def over (w x : World) : World := if Below w.heap.size w x then x else w
end

theorem below_over (w x : World) : Below w.heap.size w (over w x) := by
  unfold over; split
  · assumption
  · exact Below.refl _ _
theorem over_of {w x : World} (h : Below w.heap.size w x) : over w x = x := by unfold over; rw [if_pos h]
theorem over_size (w x : World) : w.heap.size ≤ (over w x).heap.size := (below_over w x).size
theorem over_cell {w : World} (x : World) {a : Addr} (h : a.block < w.heap.size) : (over w x).cell? a = w.cell? a := (below_over w x).cell h
theorem over_frozen {w : World} (x : World) {a : Addr} (h : a.block < w.heap.size) : (over w x).frozen? a = w.frozen? a := (below_over w x).frozen h
theorem below_step {a b c : World} (h : Below a.heap.size a b) (k : Below b.heap.size b c) : Below a.heap.size a c := h.trans (k.mono h.size)
theorem below_drewN (w : World) (k : Nat) : Below w.heap.size w (w.drewN k) := ⟨rfl, rfl, rfl, Nat.le_refl _, fun _ _ => rfl⟩
theorem below_eq {w w' : World} (h : w = w') : Below w.heap.size w w' := by subst h; exact Below.refl _ _
theorem below_drawn {w w' : World} (h : ∃ k, w' = w.drewN k) : Below w.heap.size w w' := by obtain ⟨k, rfl⟩ := h; exact below_drewN _ _
theorem over_step {w x y : World} (k : Below (over w x).heap.size (over w x) y) : y = over w y := (over_of (below_step (below_over w x) k)).symm

section
variable {P : Program} {f : FuncId} {args : Array Value} {w x : World} {v : Value}
/-- A callee's contract, met in the world 'over w x'. -/
theorem met_made (h : Calls P f args (over w x) fun e w' => e = .returned v ∧ Below (over w x).heap.size (over w x) w') : Calls P f args (over w x) fun e w'' => e = .returned v ∧ ∃ z, w'' = over w z :=
  h.mono fun _ _ ⟨he, hb⟩ => ⟨he, _, over_step hb⟩
theorem met_drawn (h : Calls P f args (over w x) fun e w' => e = .returned v ∧ ∃ k, w' = (over w x).drewN k) : Calls P f args (over w x) fun e w'' => e = .returned v ∧ ∃ z, w'' = over w z :=
  h.mono fun _ _ ⟨he, hb⟩ => ⟨he, _, over_step (below_drawn hb)⟩
theorem met_same (h : Calls P f args (over w x) fun e w' => e = .returned v ∧ over w x = w') : Calls P f args (over w x) fun e w'' => e = .returned v ∧ ∃ z, w'' = over w z :=
  h.mono fun _ _ ⟨he, hb⟩ => ⟨he, _, over_step (below_eq hb)⟩

/-- What is known of the worlds 'over W x', W being the world w at hand: w's own blocks read as they did. -/
structure Kept (w W : World) : Prop where
  cell : ∀ x b o, b < w.heap.size → (over W x).cell? ⟨b, o, none⟩ = w.cell? ⟨b, o, none⟩
  frozen : ∀ x b o, b < w.heap.size → (over W x).frozen? ⟨b, o, none⟩ = w.frozen? ⟨b, o, none⟩
  size : ∀ x, w.heap.size ≤ (over W x).heap.size
  below : ∀ x, Below w.heap.size w (over W x)
theorem kept_self (w : World) : Kept w w := ⟨fun x _ _ h => over_cell x h, fun x _ _ h => over_frozen x h, fun x => over_size w x, fun x => below_over w x⟩

theorem kept_in {W wq : World} (hK : Kept w W) (h : ∃ x, wq = over W x) : Below w.heap.size w wq := by
  obtain ⟨x, rfl⟩ := h
  exact hK.below x

theorem wp_region_made {id : Nat} {Q : Exit → Act → World → Prop} {a : Act} {l : List Oper} (hm : P.follows .mixedOrders = true) (hB : Region.lexB .any l.toArray = true)
    (h : ∀ W, Kept w W → wpQuiet P l.toArray (fun w' => ∃ x, w' = over W x) (fun a' => ∀ w', (∃ x, w' = over W x) → Q .normal a' w') l a) : (Code.region id l.toArray true).wp P Q a w :=
  wp_region_quiet (C := fun w' => ∃ x, w' = over w x) hm hB ⟨{ w with drawn := w.drawn + 1 }, (over_of (Below.refl _ _).drew).symm⟩ (by simpa using h w (kept_self w))

/-- The world at hand under a name, by what is needed of it. -/
theorem at_world {c : Code} {Q : Exit → Act → World → Prop} {a : Act} {w : World} (S : World → Prop) (hS : S w) (h : ∀ W, S W → c.wp P Q a W) : c.wp P Q a w := h w hS

/-- Cells of old blocks: behind a new block. -/
theorem cell_alloc {w : World} {o : Obj} {a : Addr} {v : Value} (h : w.cell? a = some v) (hb : a.block < w.heap.size) : (w.alloc o).cell? a = some v := by
  rw [← h]; exact World.cell?_of_block (w := w) (Below.heap_alloc _ _ _ hb)
end
end Go.Proofs.Ytknjdkgemkmoeaa
