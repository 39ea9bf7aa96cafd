/- The reference of merkle: Prove. -/
import Derived.Test.YtknjdkgemkmoeaaMkC
import Derived.Laws.AppendOwnNone
import Derived.Deep.AppendLies
import Derived.Deep.RegionHeld3
import Derived.Deep.RegionLaw
namespace Go.Proofs.Ytknjdkgemkmoeaa
open Go.ChangeShapes Go.WideShapes Go.ChangeAt Go.RowKit Go.Shelf
set_option linter.unusedSimpArgs false
set_option linter.unusedVariables false

/-- A call of a Go function, as one step of a region that draws. -/
theorem step_met {P : Program} {ops : Array Oper} {o : Oper} {a : Act} {w : World} {K : Act → World → Prop} {Q : Exit → Act → World → Prop} {E : Prop} (hgd : o.guard = none) {f : Nat} (args : List Operand) {ts : Array TypeId}
    (ho : o.op = .call { callee := .value (.func f), args := args.toArray, argTypes := ts }) (eg : ∀ args w, (callFunc f args).run P w = .ok (.enter f args) w) {vs : List Value} (hv : args.map a.eval = vs) {v : Value} {R : World → Prop}
    (h : Calls P f vs.toArray w fun e w' => e = .returned v ∧ R w') (hK : ∀ w', R w' → K (a.put o.dst v) w') : if Region.wanted o (yielded ops a.tmps) = true then Oper.wp P o a w K Q else E := by
  have hw : Region.wanted o (yielded ops a.tmps) = true := by simp [Region.wanted, hgd]
  rw [if_pos hw]
  have hrun : (execOp a.eval o).run P w = .ok (.enter f vs.toArray) w := by
    subst hv
    simp [execOp, ho, resolve, invoke, eg, Act.eval, Deferred.ofValue]
  unfold Oper.wp
  rw [hrun]
  show Calls P f vs.toArray w _
  refine h.mono ?_
  rintro e w' ⟨rfl, hr⟩
  exact hK w' hr

theorem word_news (Y : World) (z : W64) : ∀ j u, (u64s [z])[j]? = some u → (Y.alloc (.cells #[.int .u64 (z.toNat : Int)] 36)).cell? ((⟨Y.heap.size, 0, none⟩ : Addr).add j) = some u := fun j u hu => by
  rw [add_plain, Nat.zero_add, World.cell?_alloc_new]; simpa [u64s] using hu
theorem size_more (Y : World) (o : Obj) {n : Nat} (h : n ≤ Y.heap.size) : n ≤ (Y.alloc o).heap.size := by rw [World.size_alloc]; omega
/-- A word more behind a row of the call's own, as one step of a region that draws. -/
theorem step_word {ops : Array Oper} {o : Oper} {a : Act} {Y : World} {K : Act → World → Prop} {Q : Exit → Act → World → Prop} {E : Prop} (hgd : o.guard = none) (A B : Operand)
    (ho : o.op = .call { callee := .builtin .append, args := #[A, B], argTypes := #[28, 28] }) (base : Nat) (pv : Value) (t : Nat) (L : List W64) (z : W64) (hs : a.eval A = pv) (hx : a.eval B = .slice (some ⟨Y.heap.size, 0, none⟩) 1 1)
    (hown : Y.ownsRow base 36 1 pv t (u64s L)) (hbase : base ≤ Y.heap.size) (ht : t ≤ 1000)
    (hK : ∀ g cap w', w'.ownsRow base 36 1 (.slice (some ⟨g, 0, none⟩) (t + 1) cap) (t + 1) (u64s (L ++ [z])) → (Y.alloc (.cells #[.int .u64 (z.toNat : Int)] 36)).grownBy w' pv.ownBlock → g < w'.heap.size → K (a.put o.dst (.slice (some ⟨g, 0, none⟩) (t + 1) cap)) w') :
    if Region.wanted o (yielded ops a.tmps) = true then Oper.wp Try.prog o a (Y.alloc (.cells #[.int .u64 (z.toNat : Int)] 36)) K Q else E := by
  obtain ⟨i0, hi0, hz0, hz1, hz2⟩ := info_parts info_word
  refine step_append_lies _ hgd A B _ ho base 36 i0 _ 1 8 Try.underlying28 hi0 hz0 hz1 hz2 rfl (by decide) pv t (u64s L) hs (hown.alloc _) ⟨Y.heap.size, 0, none⟩ 1 1 (u64s [z]) hx rfl (word_news Y z) (u64s_one _) Nat.one_pos (by unfold maxLen; omega) (by omega) (size_more Y _ hbase) _ rfl ?_
  intro g cap w' h1 h2 _ h3
  rw [← u64s_append] at h1
  exact hK g cap w' h1 h2 h3

/-- Block b holds a leaf. -/
def LfB (w : World) (b : Nat) (i v : Int) (pv : Value) : Prop := w.heap[b]? = some (.cells #[.int .i64 i, .int .i64 v, pv] 30)
theorem LfB.lt {w : World} {b : Nat} {i v : Int} {pv : Value} (h : LfB w b i v pv) : b < w.heap.size := (Array.getElem?_eq_some_iff.1 h).1
theorem LfB.c0 {w : World} {b : Nat} {i v : Int} {pv : Value} (h : LfB w b i v pv) : w.cell? ⟨b, 0, none⟩ = some (.int .i64 i) := by simp [World.cell?, show w.heap[b]? = _ from h]
theorem LfB.c1 {w : World} {b : Nat} {i v : Int} {pv : Value} (h : LfB w b i v pv) : w.cell? ⟨b, 1, none⟩ = some (.int .i64 v) := by simp [World.cell?, show w.heap[b]? = _ from h]
theorem LfB.c2 {w : World} {b : Nat} {i v : Int} {pv : Value} (h : LfB w b i v pv) : w.cell? ⟨b, 2, none⟩ = some pv := by simp [World.cell?, show w.heap[b]? = _ from h]
theorem LfB.fz {w : World} {b : Nat} {i v : Int} {pv : Value} (h : LfB w b i v pv) (k : Nat) : w.frozen? ⟨b, k, none⟩ = false := by simp [World.frozen?, show w.heap[b]? = _ from h]
theorem LfB.new (w : World) (i v : Int) (pv : Value) : LfB (w.alloc (.cells #[.int .i64 i, .int .i64 v, pv] 30)) w.heap.size i v pv := World.alloc_heap_new w _
theorem LfB.below {w w' : World} {b : Nat} {i v : Int} {pv : Value} (h : LfB w b i v pv) (hb : Below w.heap.size w w') : LfB w' b i v pv := (hb.block b h.lt).trans h
theorem LfB.grown {w w' : World} {b : Nat} {i v : Int} {pv : Value} {row : Option Nat} (h : LfB w b i v pv) (hg : w.grownBy w' row) (hne : some b ≠ row) : LfB w' b i v pv := (hg.block b h.lt hne).trans h
theorem LfB.other {w : World} {b : Nat} {i v : Int} {pv : Value} (h : LfB w b i v pv) {p : Addr} (hp : b ≠ p.block) (x : Value) : LfB (w.setCell p x) b i v pv := (Below.heap_setCell _ _ _ _ hp).trans h
theorem LfB.set2 {w : World} {b : Nat} {i v : Int} {pv : Value} (h : LfB w b i v pv) (x : Value) : LfB (w.setCell ⟨b, 2, none⟩ x) b i v x := by
  obtain ⟨hlt, hk⟩ := Array.getElem?_eq_some_iff.1 h
  show (w.heap.modify b _)[b]? = _
  rw [Array.getElem?_eq_getElem (by rw [Array.size_modify]; exact hlt), Array.getElem_modify_self, hk]
  rfl
/-- A row of words is no leaf's block. -/
theorem LfB.not_row {w : World} {b : Nat} {i v : Int} {pv : Value} (h : LfB w b i v pv) {base k : Nat} {u : Value} {xs : List Value} (hr : w.ownsRow base 36 1 u k xs) : some b ≠ u.ownBlock := by
  rcases hr.2 with ⟨rfl, _⟩ | ⟨g, cap, cur, rfl, _, hgb, _⟩
  · simp [Value.ownBlock]
  · intro e
    obtain rfl : b = g := by simpa [Value.ownBlock] using e
    have := (show w.heap[b]? = _ from h).symm.trans hgb
    simp at this

theorem LfB.step {Y w' : World} {b : Nat} {i v : Int} {pv u : Value} {base t : Nat} {xs : List Value} {o : Obj} (h : LfB Y b i v pv) (ho : Y.ownsRow base 36 1 u t xs) (hg : (Y.alloc o).grownBy w' u.ownBlock) : LfB w' b i v pv :=
  (h.below (alloc_below Y o)).grown hg ((h.below (alloc_below Y o)).not_row (ho.alloc o))
theorem grownBy_set (W : World) (p : Addr) (v : Value) : W.grownBy (W.setCell p v) (some p.block) :=
  ⟨rfl, rfl, rfl, (KeepsWalks.setCell W p v).size, fun k _ hk => Below.heap_setCell _ _ _ k (fun e => hk (by rw [e]))⟩
/-- What a round of Prove leaves. -/
theorem leaf_round {w V wr y1 w2 : World} {b0 : Nat} {j x : Int} {pv : Value} {t gb cb : Nat} {L : List W64} {z : W64} {o : Obj} (hw : Below w.heap.size w wr) (hb0 : w.heap.size = b0) (hzV : V.heap.size = b0 + 2) (hzw : V.heap.size ≤ wr.heap.size)
    (hA : LfB wr b0 0 0 (.slice none 0 0)) (hB : LfB wr (b0 + 1) j x pv) (ho : wr.ownsRow V.heap.size 36 1 pv t (u64s L)) (hY : Below wr.heap.size wr y1)
    (ho2 : w2.ownsRow V.heap.size 36 1 (.slice (some ⟨gb, 0, none⟩) (t + 1) cb) (t + 1) (u64s (L ++ [z]))) (hg : (y1.alloc o).grownBy w2 pv.ownBlock) :
    LfB (w2.setCell ⟨b0 + 1, 2, none⟩ (.slice (some ⟨gb, 0, none⟩) (t + 1) cb)) b0 0 0 (.slice none 0 0) ∧ LfB (w2.setCell ⟨b0 + 1, 2, none⟩ (.slice (some ⟨gb, 0, none⟩) (t + 1) cb)) (b0 + 1) j x (.slice (some ⟨gb, 0, none⟩) (t + 1) cb) ∧
    (w2.setCell ⟨b0 + 1, 2, none⟩ (.slice (some ⟨gb, 0, none⟩) (t + 1) cb)).ownsRow V.heap.size 36 1 (.slice (some ⟨gb, 0, none⟩) (t + 1) cb) (t + 1) (u64s (L ++ [z])) ∧
    Below w.heap.size w (w2.setCell ⟨b0 + 1, 2, none⟩ (.slice (some ⟨gb, 0, none⟩) (t + 1) cb)) ∧ V.heap.size ≤ (w2.setCell ⟨b0 + 1, 2, none⟩ (.slice (some ⟨gb, 0, none⟩) (t + 1) cb)).heap.size := by
  have ho1 : y1.ownsRow V.heap.size 36 1 pv t (u64s L) := own_other ho (grown_of_below hY) fun r e => by cases e
  have hA1 := LfB.step (hA.below hY) ho1 hg
  have hB1 := LfB.step (hB.below hY) ho1 hg
  have hby := below_step hw hY
  have hb2 : Below w.heap.size w w2 := (hby.alloc hby.size o).grown hg (by rw [World.size_alloc]; have := hby.size; omega) fun r e => by have := (ho1.lt r e).1; omega
  have h2 := hg.size
  rw [World.size_alloc] at h2
  have hys := hY.size
  refine ⟨hA1.other (by simp) _, hB1.set2 _, own_other ho2 (grownBy_set w2 _ _) (fun r e => by cases e; simp only; omega), hb2.setCell (by simp only; omega) _, ?_⟩
  rw [World.size_setCell]; omega
/-- What Prove gives. -/
def prI (C : List Int) (i : Int) : Int := if 0 ≤ i ∧ i < C.length then i else 0
def prV (C : List Int) (i : Int) : Int := if 0 ≤ i ∧ i < C.length then C.getD i.toNat 0 else 0
def prL (C : List Int) (i : Int) : List W64 := if 0 ≤ i ∧ i < C.length then proofW C i.toNat (ht C.length) else []
theorem pr_out {C : List Int} {i : Int} (h : ¬ (0 ≤ i ∧ i < C.length)) : prI C i = 0 ∧ prV C i = 0 ∧ prL C i = [] := by unfold prI prV prL; rw [if_neg h, if_neg h, if_neg h]; exact ⟨rfl, rfl, rfl⟩
theorem pr_in {C : List Int} {j : Nat} {x : Int} (h : C[j]? = some x) : prI C j = j ∧ prV C j = x ∧ prL C j = proofW C j (ht C.length) := by
  have hj := (List.getElem?_eq_some_iff.1 h).1
  have hc : 0 ≤ (j : Int) ∧ (j : Int) < (C.length : Int) := by omega
  unfold prI prV prL
  rw [if_pos hc, if_pos hc, if_pos hc, Int.toNat_natCast]
  exact ⟨rfl, by simp [List.getD, h], rfl⟩

end Go.Proofs.Ytknjdkgemkmoeaa
