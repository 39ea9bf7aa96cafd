/- Package merkle: a tree's cell stored, a tree's row stored; what else is left alone; Set. -/
import Derived.Test.YtknjdkgemkmoeaaMlH
namespace Go.Proofs.Ytknjdkgemkmoeaa
open Go.ChangeShapes Go.WideShapes Go.ChangeAt Go.RowKit Go.Shelf
set_option linter.unusedSimpArgs false
set_option linter.unusedVariables false
attribute [local go_sem] Oper.semAt_some

/-- Blocks outside O as they were. -/
structure Mv (O : Nat → Prop) (w w' : World) : Prop where
  os : w'.os = w.os
  tape : w'.tape = w.tape
  output : w'.output = w.output
  size : w.heap.size ≤ w'.heap.size
  block : ∀ k, k < w.heap.size → ¬ O k → w'.heap[k]? = w.heap[k]?
theorem Mv.refl (O : Nat → Prop) (w : World) : Mv O w w := ⟨rfl, rfl, rfl, Nat.le_refl _, fun _ _ _ => rfl⟩
theorem Mv.below {O : Nat → Prop} {w w' : World} (h : Below w.heap.size w w') : Mv O w w' := ⟨h.os, h.tape, h.output, h.size, fun k hk _ => h.block k hk⟩
theorem Mv.trans {O : Nat → Prop} {w w' w'' : World} (h : Mv O w w') (k : Mv O w' w'') : Mv O w w'' :=
  ⟨k.os.trans h.os, k.tape.trans h.tape, k.output.trans h.output, Nat.le_trans h.size k.size, fun i hi ho => (k.block i (Nat.lt_of_lt_of_le hi h.size) ho).trans (h.block i hi ho)⟩
theorem Mv.mono {O O' : Nat → Prop} {w w' : World} (h : Mv O w w') (ho : ∀ r, r < w.heap.size → O r → O' r) : Mv O' w w' := ⟨h.os, h.tape, h.output, h.size, fun k hk hn => h.block k hk fun e => hn (ho k hk e)⟩
theorem Mv.grown {O : Nat → Prop} {w w' w'' : World} {row : Option Nat} (h : Mv O w w') (hg : w'.grownBy w'' row) (hr : ∀ r, row = some r → r < w.heap.size → O r) : Mv O w w'' :=
  ⟨hg.os.trans h.os, hg.tape.trans h.tape, hg.output.trans h.output, Nat.le_trans h.size hg.size, fun k hk ho => (hg.block k (Nat.lt_of_lt_of_le hk h.size) fun e => ho (hr k e.symm hk)).trans (h.block k hk ho)⟩
/-- Blocks from n on alone. -/
theorem Mv.toBelow {O : Nat → Prop} {w0 w w' : World} (h : Mv O w w') (hb : Below w0.heap.size w0 w) (ho : ∀ r, r < w0.heap.size → ¬ O r) : Below w0.heap.size w0 w' :=
  ⟨h.os.trans hb.os, h.tape.trans hb.tape, h.output.trans hb.output, Nat.le_trans hb.size h.size, fun k hk => (h.block k (Nat.lt_of_lt_of_le hk hb.size) (ho k hk)).trans (hb.block k hk)⟩
theorem Mv.cell {O : Nat → Prop} {w w' : World} (h : Mv O w w') {p : Addr} {v : Value} (hc : w.cell? p = some v) (hp : ¬ O p.block) : w'.cell? p = some v :=
  (World.cell?_of_block (w := w) (h.block _ (block_lt_of_cell hc) hp)).trans hc
theorem Mv.heap {O : Nat → Prop} {w w' : World} (h : Mv O w w') {b : Nat} {o : Obj} (hc : w.heap[b]? = some o) (hp : ¬ O b) : w'.heap[b]? = some o := (h.block b (Array.getElem?_eq_some_iff.1 hc).1 hp).trans hc
theorem steady_mv {O T : Nat → Prop} {w : World} (hT : ∀ r, T r → r < w.heap.size → O r) : Steady T (fun _ W => Mv O w W) := fun k A B row hs hg hr => hs.grown hg fun r e hl => hT r (hr r e) hl

/-- The blocks that a store into a tree turns. -/
def TrX.on (x : TrX) (H r : Nat) : Prop := x.cv.ownBlock = some r ∨ ∃ t, t ≤ H ∧ x.G t = r
theorem Tr.steady {T : Nat → Prop} {b : Nat} {x : TrX} {C : List Int} {R : Nat → Nat → List W64} {N : Nat} (hN : ∀ r, T r → N ≤ r) (hl : ∀ r, x.all b (ht C.length) r → r < N) : Steady T (fun k W => Tr W b x C (R k)) :=
  fun k A B row hs hg hr => hs.keep fun r hx => hg.block r (hs.lt hx) fun e => by have := hN r (hr r e.symm); have := hl r hx; omega
/-- A tree's blocks are of four kinds. -/
theorem Tr.kinds {w : World} {b : Nat} {x : TrX} {C : List Int} {R : Nat → List W64} (h : Tr w b x C R) : x.cv.ownBlock ≠ some b ∧ x.rv.ownBlock ≠ some b ∧ (∀ r, x.cv.ownBlock = some r → x.rv.ownBlock ≠ some r) ∧
    ∀ t, t ≤ ht C.length → x.G t ≠ b ∧ x.cv.ownBlock ≠ some (x.G t) ∧ x.rv.ownBlock ≠ some (x.G t) := by
  refine ⟨own_ne h.sb h.ce (by decide), own_ne h.sb h.rr (by decide), fun r hr => ?_, fun t ht' => ?_⟩
  · rcases h.ce.2 with ⟨e, _⟩ | ⟨g, off, cap, cur, e, hg, _⟩
    · rw [e] at hr; simp [Value.ownBlock] at hr
    · obtain rfl : g = r := by rw [e] at hr; simpa [Value.ownBlock] using hr
      exact own_ne hg h.rr (by decide)
  · obtain ⟨cur, hc⟩ := (h.ro t ht').1.block
    refine ⟨fun e => ?_, own_ne hc h.ce (by decide), own_ne hc h.rr (by decide)⟩
    rw [e] at hc
    have := hc.symm.trans h.sb
    simp at this
theorem ints_put (C : List Int) (j : Nat) (v : Int) : ints (C.set j v) = (ints C).set j (.int .i64 v) := by unfold ints; rw [List.map_set]
theorem Tr.putC {w : World} {b : Nat} {x : TrX} {C : List Int} {R : Nat → List W64} (h : Tr w b x C R) {g off n cap j : Nat} (hx : x.cv = .slice (some ⟨g, off, none⟩) n cap) (hn : n = C.length) (hj : j < C.length) (v : Int) :
    Tr (w.setCell ⟨g, off + j, none⟩ (.int .i64 v)) b x (C.set j v) R := by
  obtain ⟨k1, k2, k3, k4⟩ := h.kinds
  have hgx : x.cv.ownBlock = some g := by rw [hx]; rfl
  have hne : ∀ r, r ≠ g → (w.setCell ⟨g, off + j, none⟩ (.int .i64 v)).heap[r]? = w.heap[r]? := fun r hr => Below.heap_setCell _ _ _ _ hr
  have hce := h.ce
  rw [hx, ← hn] at hce
  have hset := SRow.set hce (i := j) (by omega) (.int .i64 v)
  refine ⟨(hne b fun e => k1 (by rw [hgx, e])).trans h.sb, ?_, ?_, ?_, ?_⟩
  · rw [List.length_set, ints_put, hx, ← hn]; exact hset
  · rw [List.length_set]; exact h.rr.grown fun q hq _ => hne q fun e => k3 g hgx (by rw [← e]; exact hq)
  · rw [List.length_set]; exact fun t ht' => ⟨(h.ro t ht').1.grown (hne _ fun e => (k4 t ht').2.1 (by rw [e]; exact hgx)), (h.ro t ht').2⟩
  · rw [List.length_set]; exact h.d2
theorem Tr.putR {w : World} {b : Nat} {x : TrX} {C : List Int} {R : Nat → List W64} (h : Tr w b x C R) {t j : Nat} (ht' : t ≤ ht C.length) (hj : j < pw C.length t) (z : W64) :
    Tr (w.setCell ⟨x.G t, j, none⟩ (.int .u64 (z.toNat : Int))) b x C (fun s => if s = t then (R t).set j z else R s) := by
  obtain ⟨k1, k2, k3, k4⟩ := h.kinds
  obtain ⟨k4a, k4b, k4c⟩ := k4 t ht'
  have hne : ∀ r, r ≠ x.G t → (w.setCell ⟨x.G t, j, none⟩ (.int .u64 (z.toNat : Int))).heap[r]? = w.heap[r]? := fun r hr => Below.heap_setCell _ _ _ _ hr
  refine ⟨(hne b (Ne.symm k4a)).trans h.sb, h.ce.grown fun q hq _ => hne q fun e => k4b (by rw [← e]; exact hq), h.rr.grown fun q hq _ => hne q fun e => k4c (by rw [← e]; exact hq), fun s hs => ?_, h.d2⟩
  by_cases e : s = t
  · subst e
    rw [if_pos rfl]
    refine ⟨(h.ro s hs).1.set (by rw [(h.ro s hs).2]; exact hj) z, by rw [List.length_set]; exact (h.ro s hs).2⟩
  · rw [if_neg e]
    exact ⟨(h.ro s hs).1.grown (hne _ fun e2 => e (h.d2 s t hs ht' e2)), (h.ro s hs).2⟩

/-! ## The rows while the hashes rise -/
theorem hsW_node {C : List Int} {j : Nat} (v : Int) (hj : j < C.length) : ∀ t, hsW j v (fun k => nodeW C k (sib (j / 2 ^ k))) t = nodeW (C.set j v) t (j / 2 ^ t)
  | 0 => by
    show leafV j v = leafW (C.set j v) (j / 2 ^ 0)
    rw [Nat.pow_zero, Nat.div_one, leafW_here v hj]
  | t + 1 => by
    show parW (j / 2 ^ t) (hsW j v _ t) (nodeW C t (sib (j / 2 ^ t))) = _
    rw [hsW_node v hj t, node_path]
def RK (C C' : List Int) (k t : Nat) : List W64 := if t < k then rowsW C' t else rowsW C t
theorem RK_zero (C C' : List Int) (t : Nat) : RK C C' 0 t = rowsW C t := if_neg (Nat.not_lt_zero _)
theorem RK_succ {C : List Int} {j : Nat} (v : Int) (hj : j < C.length) (k : Nat) (t : Nat) :
    (if t = k then (RK C (C.set j v) k k).set (j / 2 ^ k) (nodeW (C.set j v) k (j / 2 ^ k)) else RK C (C.set j v) k t) = RK C (C.set j v) (k + 1) t := by
  unfold RK
  by_cases e : t = k
  · subst e
    rw [if_pos rfl, if_neg (Nat.lt_irrefl _), if_pos (Nat.lt_succ_self _)]
    show (rowW C t (pw C.length t)).set _ _ = rowW (C.set j v) t (pw (C.set j v).length t)
    rw [List.length_set, row_set C j v t _ (pw_in hj)]
  · rw [if_neg e]
    by_cases h2 : t < k
    · rw [if_pos h2, if_pos (by omega)]
    · rw [if_neg h2, if_neg (by omega)]
end Go.Proofs.Ytknjdkgemkmoeaa
