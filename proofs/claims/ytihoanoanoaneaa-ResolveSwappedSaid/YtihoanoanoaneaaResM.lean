/- Package resolve: motions and contacts as blocks: their cells, and what stores leave. -/
import Derived.Test.YtihoanoanoaneaaResH
import Derived.Test.YtihoanoanoaneaaMadeAlloc
namespace Go.Proofs.Ytihoanoanoaneaa
open Go.ChangeShapes Go.WideShapes Go.ChangeAt Go.RowKit
set_option linter.unusedSimpArgs false
set_option linter.unusedVariables false

theorem new_at (w : World) (o : Obj) : (w.alloc o).heap[w.heap.size]? = some o := by rw [heap_alloc_at, if_pos rfl]
theorem old_at {w : World} {k : Nat} {o : Obj} (o' : Obj) (h : w.heap[k]? = some o) : (w.alloc o').heap[k]? = some o :=
  (Below.heap_alloc w o' k (Array.getElem?_eq_some_iff.1 h).1).trans h
theorem hcarry {W W' : World} (hb : Below W.heap.size W W') {k : Nat} {o : Obj} (h : W.heap[k]? = some o) : W'.heap[k]? = some o := (hb.block _ (Array.getElem?_eq_some_iff.1 h).1).trans h
theorem hlt {W : World} {k : Nat} {o : Obj} (h : W.heap[k]? = some o) : k < W.heap.size := (Array.getElem?_eq_some_iff.1 h).1
theorem oset {W : World} {k : Nat} {o : Obj} {p : Addr} {v : Value} (h : W.heap[k]? = some o) (hn : k ≠ p.block) : (W.setCell p v).heap[k]? = some o := (Below.heap_setCell _ _ _ _ hn).trans h
theorem oset2 {W : World} {k : Nat} {o : Obj} (B i j : Nat) (x y : Value) (h : W.heap[k]? = some o) (hn : k ≠ B) : ((W.setCell ⟨B, i, none⟩ x).setCell ⟨B, j, none⟩ y).heap[k]? = some o := oset (oset h hn) hn

/-- The block of a motion (also of a body that embeds one, of type t), of a contact, of a vector. -/
def motO (t : TypeId) (a : Mo) : Obj := .cells #[.int .i64 a.p0, .int .i64 a.p1, .int .i64 a.v0, .int .i64 a.v1, .int .i64 a.m] t
def conO (t : TypeId) (x y d : Int) : Obj := .cells #[.int .i64 x, .int .i64 y, .int .i64 d] t
def vecO (t : TypeId) (x y : Int) : Obj := .cells #[.int .i64 x, .int .i64 y] t

theorem mo_cells {W : World} {A : Nat} {t : TypeId} {a : Mo} (h : W.heap[A]? = some (motO t a)) :
    W.cell? ⟨A, 0, none⟩ = some (.int .i64 a.p0) ∧ W.cell? ⟨A, 1, none⟩ = some (.int .i64 a.p1) ∧ W.cell? ⟨A, 2, none⟩ = some (.int .i64 a.v0) ∧ W.cell? ⟨A, 3, none⟩ = some (.int .i64 a.v1) ∧ W.cell? ⟨A, 4, none⟩ = some (.int .i64 a.m) :=
  ⟨heap_cell h 0, heap_cell h 1, heap_cell h 2, heap_cell h 3, heap_cell h 4⟩
theorem con_cells {W : World} {A : Nat} {t : TypeId} {x y d : Int} (h : W.heap[A]? = some (conO t x y d)) :
    W.cell? ⟨A, 0, none⟩ = some (.int .i64 x) ∧ W.cell? ⟨A, 1, none⟩ = some (.int .i64 y) ∧ W.cell? ⟨A, 2, none⟩ = some (.int .i64 d) :=
  ⟨heap_cell h 0, heap_cell h 1, heap_cell h 2⟩
theorem vec_cells {W : World} {A : Nat} {t : TypeId} {x y : Int} (h : W.heap[A]? = some (vecO t x y)) :
    W.cell? ⟨A, 0, none⟩ = some (.int .i64 x) ∧ W.cell? ⟨A, 1, none⟩ = some (.int .i64 y) :=
  ⟨heap_cell h 0, heap_cell h 1⟩
theorem mo_frozen {W : World} {A : Nat} {t : TypeId} {a : Mo} (h : W.heap[A]? = some (motO t a)) (i : Nat) : W.frozen? ⟨A, i, none⟩ = false := heap_frozen h i
theorem con_frozen {W : World} {A : Nat} {t : TypeId} {x y d : Int} (h : W.heap[A]? = some (conO t x y d)) (i : Nat) : W.frozen? ⟨A, i, none⟩ = false := heap_frozen h i
theorem mo_pos {W : World} {B : Nat} {t : TypeId} {a : Mo} (h : W.heap[B]? = some (motO t a)) (x y : Int) : ((W.setCell ⟨B, 0, none⟩ (.int .i64 x)).setCell ⟨B, 1, none⟩ (.int .i64 y)).heap[B]? = some (motO t { a with p0 := x, p1 := y }) := by
  have := heap_setCell (heap_setCell h 0 (.int .i64 x)) 1 (.int .i64 y)
  simpa [motO] using this
theorem mo_vel {W : World} {B : Nat} {t : TypeId} {a : Mo} (h : W.heap[B]? = some (motO t a)) (x y : Int) : ((W.setCell ⟨B, 2, none⟩ (.int .i64 x)).setCell ⟨B, 3, none⟩ (.int .i64 y)).heap[B]? = some (motO t { a with v0 := x, v1 := y }) := by
  have := heap_setCell (heap_setCell h 2 (.int .i64 x)) 3 (.int .i64 y)
  simpa [motO] using this
theorem mo_mass {W : World} {B : Nat} {t : TypeId} {a : Mo} (h : W.heap[B]? = some (motO t a)) (x : Int) : (W.setCell ⟨B, 4, none⟩ (.int .i64 x)).heap[B]? = some (motO t { a with m := x }) := by
  have := heap_setCell h 4 (.int .i64 x)
  simpa [motO] using this
theorem mo_all {W : World} {B : Nat} {t : TypeId} {a : Mo} (h : W.heap[B]? = some (motO t a)) (b : Mo) : (((((W.setCell ⟨B, 0, none⟩ (.int .i64 b.p0)).setCell ⟨B, 1, none⟩ (.int .i64 b.p1)).setCell ⟨B, 2, none⟩ (.int .i64 b.v0)).setCell ⟨B, 3, none⟩ (.int .i64 b.v1)).setCell ⟨B, 4, none⟩ (.int .i64 b.m)).heap[B]? = some (motO t b) := by
  have := heap_setCell (heap_setCell (heap_setCell (heap_setCell (heap_setCell h 0 (.int .i64 b.p0)) 1 (.int .i64 b.p1)) 2 (.int .i64 b.v0)) 3 (.int .i64 b.v1)) 4 (.int .i64 b.m)
  simpa [motO] using this
theorem mo_keep5 {W : World} {k : Nat} {o : Obj} (B : Nat) (b : Mo) (h : W.heap[k]? = some o) (hn : k ≠ B) : (((((W.setCell ⟨B, 0, none⟩ (.int .i64 b.p0)).setCell ⟨B, 1, none⟩ (.int .i64 b.p1)).setCell ⟨B, 2, none⟩ (.int .i64 b.v0)).setCell ⟨B, 3, none⟩ (.int .i64 b.v1)).setCell ⟨B, 4, none⟩ (.int .i64 b.m)).heap[k]? = some o :=
  oset (oset (oset (oset (oset h hn) hn) hn) hn) hn
theorem below_set5 {W V : World} {n : Nat} (h : Below n W V) (B : Nat) (hn : n ≤ B) (b : Mo) : Below n W (((((V.setCell ⟨B, 0, none⟩ (.int .i64 b.p0)).setCell ⟨B, 1, none⟩ (.int .i64 b.p1)).setCell ⟨B, 2, none⟩ (.int .i64 b.v0)).setCell ⟨B, 3, none⟩ (.int .i64 b.v1)).setCell ⟨B, 4, none⟩ (.int .i64 b.m)) :=
  ((((h.setCell (p := ⟨B, 0, none⟩) hn _).setCell (p := ⟨B, 1, none⟩) hn _).setCell (p := ⟨B, 2, none⟩) hn _).setCell (p := ⟨B, 3, none⟩) hn _).setCell (p := ⟨B, 4, none⟩) hn _
theorem con_n {W : World} {B : Nat} {t : TypeId} {p q d : Int} (h : W.heap[B]? = some (conO t p q d)) (x y : Int) : ((W.setCell ⟨B, 0, none⟩ (.int .i64 x)).setCell ⟨B, 1, none⟩ (.int .i64 y)).heap[B]? = some (conO t x y d) := by
  have := heap_setCell (heap_setCell h 0 (.int .i64 x)) 1 (.int .i64 y)
  simpa [conO] using this
theorem con_d {W : World} {B : Nat} {t : TypeId} {p q d : Int} (h : W.heap[B]? = some (conO t p q d)) (x : Int) : (W.setCell ⟨B, 2, none⟩ (.int .i64 x)).heap[B]? = some (conO t p q x) := by
  have := heap_setCell h 2 (.int .i64 x)
  simpa [conO] using this
end Go.Proofs.Ytihoanoanoaneaa
