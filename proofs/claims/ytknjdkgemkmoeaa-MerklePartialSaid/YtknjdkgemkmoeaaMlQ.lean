/- Package merkle's laws: a row of leaves of the call's own. -/
import Derived.Test.YtknjdkgemkmoeaaMlP
import Derived.Test.YtknjdkgemkmoeaaMlM
namespace Go.Proofs.Ytknjdkgemkmoeaa
open Go.ChangeShapes Go.WideShapes Go.ChangeAt Go.RowKit Go.Shelf
set_option linter.unusedSimpArgs false
set_option linter.unusedVariables false

def lfs (ls : List Lf) : List Value := ls.flatMap fun f => [.int .i64 f.i, .int .i64 f.v, f.pv]
theorem lfs_append (a b : List Lf) : lfs (a ++ b) = lfs a ++ lfs b := by unfold lfs; exact List.flatMap_append
theorem lfs_len : ∀ ls : List Lf, (lfs ls).length = ls.length * 3
  | [] => rfl
  | f :: r => by
    have := lfs_len r
    show ([Value.int .i64 f.i, .int .i64 f.v, f.pv] ++ lfs r).length = _
    rw [List.length_append, this]
    simp; omega
theorem lfs_at : ∀ (ls : List Lf) {k : Nat} {f : Lf}, ls[k]? = some f → (lfs ls)[k * 3]? = some (.int .i64 f.i) ∧ (lfs ls)[k * 3 + 1]? = some (.int .i64 f.v) ∧ (lfs ls)[k * 3 + 2]? = some f.pv
  | [], k, f, h => by cases h
  | g :: r, 0, f, h => by
    cases h
    exact ⟨rfl, rfl, rfl⟩
  | g :: r, k + 1, f, h => by
    have := lfs_at r (k := k) h
    have e : ∀ j, (lfs (g :: r))[(k + 1) * 3 + j]? = (lfs r)[k * 3 + j]? := fun j => by
      show ([Value.int .i64 g.i, .int .i64 g.v, g.pv] ++ lfs r)[_]? = _
      rw [List.getElem?_append_right (by simp; omega)]
      congr 1
      simp; omega
    exact ⟨(e 0).trans this.1, (e 1).trans this.2.1, (e 2).trans this.2.2⟩
theorem i64_lit {n : Int} (h : I64 n) : (Lit.int .i64 n).wf = true := by
  have h1 : IntKind.i64.min = -9223372036854775808 := rfl
  have h2 : IntKind.i64.max = 9223372036854775807 := rfl
  unfold I64 at h
  simp only [Lit.wf, Bool.and_eq_true, decide_eq_true_eq, h1, h2]
  omega
theorem VL.keptG {w w' : World} {v : Value} {xs : List Value} {row : Option Nat} (h : VL w v xs) (hg : w.grownBy w' row) (hne : ∀ r, v.ownBlock = some r → row ≠ some r) : VL w' v xs := by
  obtain ⟨a, cap, h1, h2, h3, h4⟩ := h
  refine ⟨a, cap, h1, h2, h3, ?_⟩
  rcases h4 with h4 | ⟨g, off, rfl, hl, h5⟩
  · exact .inl h4
  · refine .inr ⟨g, off, rfl, Nat.lt_of_lt_of_le hl hg.size, fun i u hu => ?_⟩
    exact (World.cell?_of_block (w := w) (hg.block g hl fun e => hne g (by rw [h1]; rfl) e.symm)).trans (h5 i u hu)

/-- A leaf of a row at v. -/
structure LG (w : World) (v : Value) (f : Lf) : Prop where
  pr : VL w f.pv (u64s f.l)
  few : f.l.length ≤ 16
  i64 : I64 f.i
  v64 : I64 f.v
  nn : ∀ n c, f.pv = .slice none n c → f.pv = .slice none 0 0
  ap : ∀ r, f.pv.ownBlock = some r → v.ownBlock ≠ some r
  lt : ∀ r, f.pv.ownBlock = some r → r < w.heap.size
structure LR (w : World) (B : Nat) (v : Value) (ls : List Lf) : Prop where
  own : w.ownsRow B 30 3 v ls.length (lfs ls)
  each : ∀ (k : Nat) (f : Lf), ls[k]? = some f → LG w v f
theorem LG.below {w w' : World} {v : Value} {f : Lf} (h : LG w v f) (hb : Below w.heap.size w w') : LG w' v f :=
  ⟨h.pr.carry hb, h.few, h.i64, h.v64, h.nn, h.ap, fun r hr => Nat.lt_of_lt_of_le (h.lt r hr) hb.size⟩
theorem LR.below {w w' : World} {B : Nat} {v : Value} {ls : List Lf} (h : LR w B v ls) (hb : Below w.heap.size w w') : LR w' B v ls :=
  ⟨h.own.kept (grown_of_below hb) (by cases v.ownBlock <;> simp), fun k f hk => (h.each k f hk).below hb⟩
theorem LR.nil (w : World) (B : Nat) : LR w B (.slice none 0 0) [] := ⟨⟨rfl, .inl ⟨rfl, rfl⟩⟩, fun k f h => by cases h⟩
theorem LR.push {w W : World} {B : Nat} {v : Value} {ls : List Lf} {f : Lf} {o : Obj} {g c m : Nat} (h : LR w B v ls) (hm : m = ls.length)
    (hn : W.ownsRow B 30 3 (.slice (some ⟨g, 0, none⟩) (m + 1) c) (m + 1) (lfs ls ++ [.int .i64 f.i, .int .i64 f.v, f.pv])) (hg : (w.alloc o).grownBy W v.ownBlock)
    (hl : v.ownBlock = some g ∨ g = (w.alloc o).heap.size) (hf : LG w v f) : LR W B (.slice (some ⟨g, 0, none⟩) (m + 1) c) (ls ++ [f]) := by
  have key : ∀ x, LG w v x → LG W (.slice (some ⟨g, 0, none⟩) (m + 1) c) x := fun x hx => by
    have hx1 := hx.below (alloc_below w o)
    refine ⟨hx1.pr.keptG hg fun r hr => hx1.ap r hr, hx1.few, hx1.i64, hx1.v64, hx1.nn, fun r hr e => ?_, fun r hr => Nat.lt_of_lt_of_le (hx1.lt r hr) hg.size⟩
    obtain rfl : g = r := by simpa [Value.ownBlock] using e
    rcases hl with hl | hl
    · exact hx1.ap g hr hl
    · have := hx1.lt g hr
      omega
  refine ⟨?_, fun k x hk => ?_⟩
  · rw [List.length_append, lfs_append, List.length_singleton, ← hm]; exact hn
  · rcases Nat.lt_or_ge k ls.length with h1 | h1
    · rw [List.getElem?_append_left h1] at hk
      exact key x (h.each k x hk)
    · rw [List.getElem?_append_right h1] at hk
      obtain h2 : k - ls.length = 0 := by
        rcases Nat.eq_zero_or_pos (k - ls.length) with h3 | h3
        · exact h3
        · rw [List.getElem?_eq_none (by simp; omega)] at hk; cases hk
      rw [h2] at hk
      cases hk
      exact key f hf
/-- What a row of leaves holds, written out. -/
theorem LR.shape {w : World} {B : Nat} {v : Value} {ls : List Lf} (h : LR w B v ls) : ∃ a cap, v = .slice a ls.length cap ∧ ls.length ≤ cap ∧ cap ≤ maxLen ∧
    (0 < ls.length → ∃ g cur, a = some ⟨g, 0, none⟩ ∧ g < w.heap.size ∧ B ≤ g ∧ w.heap[g]? = some (.cells cur 30) ∧ ls.length * 3 ≤ cur.size ∧ ∀ (j : Nat) (u : Value), (lfs ls)[j]? = some u → cur[j]? = some u) := by
  obtain ⟨ho, he⟩ := h
  rcases ho.2 with ⟨rfl, h0⟩ | ⟨g, cap, cur, rfl, hB, hg, h1, h2, h3, h4⟩
  · exact ⟨none, 0, by rw [h0], by omega, Nat.zero_le _, fun h => by omega⟩
  · refine ⟨some ⟨g, 0, none⟩, cap, rfl, h1, h2, fun _ => ⟨g, cur, rfl, (Array.getElem?_eq_some_iff.1 hg).1, hB, hg, by rw [h3]; exact Nat.mul_le_mul_right 3 h1, fun j u hj => ?_⟩⟩
    have hj2 : j < ls.length * 3 := by rw [← lfs_len]; exact (List.getElem?_eq_some_iff.1 hj).1
    rw [← h4, List.getElem?_take, if_pos hj2, Array.getElem?_toList] at hj
    exact hj
theorem cell_of {w : World} {g : Nat} {cur : Array Value} {e : TypeId} (hg : w.heap[g]? = some (.cells cur e)) {j : Nat} {u : Value} (h : cur[j]? = some u) : w.cell? ⟨g, j, none⟩ = some u := by
  simp [World.cell?, hg, h]
theorem LR.ll {w : World} {B : Nat} {v : Value} {ls : List Lf} (h : LR w B v ls) : LL w v ls := by
  obtain ⟨a, cap, h1, h2, h3, h4⟩ := h.shape
  refine ⟨a, cap, h1, h2, h3, fun hp => ?_⟩
  obtain ⟨g, cur, e, hg, _, hh, hs, hc⟩ := h4 hp
  refine ⟨g, 0, e, hg, fun k f hk => ?_⟩
  obtain ⟨q0, q1, q2⟩ := lfs_at ls hk
  rw [Nat.zero_add]
  have hf := h.each k f hk
  exact ⟨cell_of hh (hc _ _ q0), cell_of hh (hc _ _ q1), cell_of hh (hc _ _ q2), hf.pr, by have := hf.few; omega⟩
theorem LR.wf {w : World} {B : Nat} {v : Value} {ls : List Lf} (h : LR w B v ls) (k : Nat) (f : Lf) (hk : ls[k]? = some f) : (Lit.int .i64 f.i).wf = true ∧ (Lit.int .i64 f.v).wf = true :=
  ⟨i64_lit (h.each k f hk).i64, i64_lit (h.each k f hk).v64⟩
/-- A leaf stored into the row. -/
theorem LR.put {w : World} {B g cap n : Nat} {ls : List Lf} (h : LR w B (.slice (some ⟨g, 0, none⟩) n cap) ls) (hn : n = ls.length) {k : Nat} (hk : k < n) (f : Lf) (hf : VL w f.pv (u64s f.l)) (few : f.l.length ≤ 1000) (ap : ∀ r, f.pv.ownBlock = some r → r ≠ g) :
    LL (((w.setCell ⟨g, k * 3, none⟩ (.int .i64 f.i)).setCell ⟨g, k * 3 + 1, none⟩ (.int .i64 f.v)).setCell ⟨g, k * 3 + 2, none⟩ f.pv) (.slice (some ⟨g, 0, none⟩) n cap) (ls.set k f) := by
  obtain ⟨a, cap', h1, h2, h3, h4⟩ := h.shape
  obtain ⟨g', cur, e, hg, _, hh, hs, hc⟩ := h4 (by omega)
  subst e
  simp only [Value.slice.injEq, Option.some.injEq, Addr.mk.injEq, and_true] at h1
  obtain ⟨rfl, -, rfl⟩ := h1
  have s1 := heap_setCell hh (k * 3) (.int .i64 f.i)
  have s2 := heap_setCell s1 (k * 3 + 1) (.int .i64 f.v)
  have s3 := heap_setCell s2 (k * 3 + 2) f.pv
  obtain ⟨W, hW⟩ : ∃ W, W = ((w.setCell ⟨g, k * 3, none⟩ (.int .i64 f.i)).setCell ⟨g, k * 3 + 1, none⟩ (.int .i64 f.v)).setCell ⟨g, k * 3 + 2, none⟩ f.pv := ⟨_, rfl⟩
  have keep : ∀ (v : Value) (xs : List Value), VL w v xs → (∀ r, v.ownBlock = some r → r ≠ g) → VL W v xs := fun v xs hv hr => by
    rw [hW]
    exact ((hv.keptG (grownBy_set w ⟨g, k * 3, none⟩ _) fun r hr' e => hr r hr' (by cases e; rfl)).keptG (grownBy_set _ ⟨g, k * 3 + 1, none⟩ _) fun r hr' e => hr r hr' (by cases e; rfl)).keptG (grownBy_set _ ⟨g, k * 3 + 2, none⟩ _) fun r hr' e => hr r hr' (by cases e; rfl)
  rw [← hW] at s3 ⊢
  refine ⟨some ⟨g, 0, none⟩, cap, by rw [List.length_set, hn], by rw [List.length_set]; exact h2, h3, fun _ => ⟨g, 0, rfl, by rw [hW, World.size_setCell, World.size_setCell, World.size_setCell]; exact hg, fun j x hj => ?_⟩⟩
  rw [Nat.zero_add]
  have hjl : j < ls.length := by have := (List.getElem?_eq_some_iff.1 hj).1; rw [List.length_set] at this; exact this
  rw [List.getElem?_set] at hj
  by_cases e : k = j
  · subst e
    rw [if_pos rfl, if_pos (by omega)] at hj
    cases hj
    refine ⟨cell_of s3 ?_, cell_of s3 ?_, cell_of s3 ?_, keep _ _ hf ap, few⟩
    · simp [Array.getElem?_setIfInBounds]; omega
    · simp [Array.getElem?_setIfInBounds]; omega
    · simp [Array.getElem?_setIfInBounds]; omega
  · rw [if_neg e] at hj
    obtain ⟨q0, q1, q2⟩ := lfs_at ls hj
    have hx := h.each j x hj
    refine ⟨cell_of s3 ?_, cell_of s3 ?_, cell_of s3 ?_, keep _ _ hx.pr (fun r hr e' => hx.ap r hr (by rw [e']; rfl)), by have := hx.few; omega⟩
    · rw [Array.getElem?_setIfInBounds, if_neg (by omega), Array.getElem?_setIfInBounds, if_neg (by omega), Array.getElem?_setIfInBounds, if_neg (by omega)]; exact hc _ _ q0
    · rw [Array.getElem?_setIfInBounds, if_neg (by omega), Array.getElem?_setIfInBounds, if_neg (by omega), Array.getElem?_setIfInBounds, if_neg (by omega)]; exact hc _ _ q1
    · rw [Array.getElem?_setIfInBounds, if_neg (by omega), Array.getElem?_setIfInBounds, if_neg (by omega), Array.getElem?_setIfInBounds, if_neg (by omega)]; exact hc _ _ q2
theorem LR.form {w : World} {B n cap : Nat} {a : Option Addr} {ls : List Lf} (h : LR w B (.slice a n cap) ls) (hn : ls.length = n) (hp : 0 < n) : ∃ g, a = some ⟨g, 0, none⟩ ∧ n ≤ cap ∧ cap ≤ maxLen ∧ B ≤ g ∧ g < w.heap.size ∧ (∀ j, w.frozen? ⟨g, j, none⟩ = false) ∧
    ∀ (k : Nat) (f : Lf), ls[k]? = some f → w.cell? ⟨g, k * 3, none⟩ = some (.int .i64 f.i) ∧ w.cell? ⟨g, k * 3 + 1, none⟩ = some (.int .i64 f.v) ∧ w.cell? ⟨g, k * 3 + 2, none⟩ = some f.pv := by
  obtain ⟨a', cap', h1, h2, h3, h4⟩ := h.shape
  simp only [Value.slice.injEq] at h1
  obtain ⟨rfl, -, rfl⟩ := h1
  obtain ⟨g, cur, e, hg, hB, hh, hs, hc⟩ := h4 (by omega)
  refine ⟨g, e, by omega, h3, hB, hg, fun j => by simp [World.frozen?, hh], fun k f hk => ?_⟩
  obtain ⟨q0, q1, q2⟩ := lfs_at ls hk
  exact ⟨cell_of hh (hc _ _ q0), cell_of hh (hc _ _ q1), cell_of hh (hc _ _ q2)⟩
theorem wf_set {ls : List Lf} (h : ∀ (k : Nat) (f : Lf), ls[k]? = some f → (Lit.int .i64 f.i).wf = true ∧ (Lit.int .i64 f.v).wf = true) (k : Nat) {f : Lf} (h1 : I64 f.i) (h2 : I64 f.v) :
    ∀ (j : Nat) (x : Lf), (ls.set k f)[j]? = some x → (Lit.int .i64 x.i).wf = true ∧ (Lit.int .i64 x.v).wf = true := fun j x hj => by
  rw [List.getElem?_set] at hj
  split at hj
  · split at hj
    · cases hj; exact ⟨i64_lit h1, i64_lit h2⟩
    · cases hj
  · exact h j x hj
theorem info_leaf : (Try.prog.info? 30).map (fun i => (i.zero, i.size, i.bytes)) = some (some (.agg #[.int .i64 0, .int .i64 0, .slice none 0 0]), 3, 40) := by kernel_rfl
theorem leaf_news (Y : World) (i v : Int) (a : Option Addr) (n c : Nat) : ∀ (j : Nat) (u : Value), [Value.int .i64 i, .int .i64 v, .slice a n c][j]? = some u → (Y.alloc (.cells #[.int .i64 i, .int .i64 v, .slice a n c] 30)).cell? ((⟨Y.heap.size, 0, none⟩ : Addr).add j) = some u := fun j u hu => by
  rw [add_plain, Nat.zero_add, World.cell?_alloc_new]; simpa using hu
theorem leaf_ones (i v : Int) (a : Option Addr) (n c : Nat) : ∀ u ∈ [Value.int .i64 i, .int .i64 v, .slice a n c], u.oneCell' = true := fun u hu => by
  simp only [List.mem_cons, List.not_mem_nil, or_false] at hu
  rcases hu with rfl | rfl | rfl <;> rfl
end Go.Proofs.Ytknjdkgemkmoeaa
