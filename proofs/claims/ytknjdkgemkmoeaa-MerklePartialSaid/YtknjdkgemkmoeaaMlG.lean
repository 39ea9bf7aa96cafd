/- Package merkle: New. -/
import Derived.Test.YtknjdkgemkmoeaaMlF
namespace Go.Proofs.Ytknjdkgemkmoeaa
open Go.ChangeShapes Go.WideShapes Go.ChangeAt Go.RowKit Go.Shelf
set_option linter.unusedSimpArgs false
set_option linter.unusedVariables false
attribute [local go_sem] Oper.semAt_some

/-! ## slices.Clone -/
theorem cloneC_some (ad : Addr) (n c : Nat) (news : List Value) (w : World) (hl : news.length = n) (hn : n ≤ maxLen) (hbig : n * 8 ≤ 140737488355328)
    (hc : ∀ j u, news[j]? = some u → w.cell? (ad.add j) = some u) (h1 : ∀ u ∈ news, u.oneCell' = true) :
    Calls Try.prog 50 #[.slice (some ad) n c] w fun e w' => ∃ v', e = .returned v' ∧ w'.ownsRow w.heap.size 3 1 v' n news ∧ v' ≠ .slice none 0 0 ∧ Below w.heap.size w w' := by
  have q22 : ∀ (w : World) (a : Option Addr) (n c n' c' : Nat), (binOp .eql 22 (.slice a n c) (.slice none n' c')).run Try.prog w = .ok (.bool a.isNone) w := fun w a n c n' c' => Lib.run_eql_slice_nil w _ _ a n c n' c' Try.underlying22
  obtain ⟨i0, hi0, hz0, hz1, hz2⟩ := info_parts info_int
  have A : Aside (∀ j u, news[j]? = some u → w.cell? (ad.add j) = some u) := hc
  clear hc
  go_enter Try.func50, Try.ntmps50
  go_wp2_with (at_builtin; refine wpList_append_own _ rfl _ _ 22 rfl w.heap.size 3 i0 _ 1 8 Try.underlying22 hi0 hz0 hz1 hz2 rfl (by decide) _ _ _ rfl (World.ownsRow_made w #[] 0 (Nat.le_refl _) (Nat.zero_le _) (by simp)) ad n c news rfl ?qc1 ?qc2 ?qc3 ?qc4 ?qc5 ?qc6 ?_)
  case qc1 => rw [Nat.mul_one]; exact hl
  case qc2 =>
    intro j u hj
    exact Lib.cell?_alloc_some _ (A.out j u hj)
  case qc3 => exact h1
  case qc4 => rw [Nat.zero_add]; exact hn
  case qc5 => rw [Nat.zero_add]; exact hbig
  case qc6 => simp
  intro v' w1 hown hgrow hnil
  go_wp2
  go_ret
  refine ⟨v', rfl, by simpa using hown, ?_, ?_⟩
  · exact hnil
  · exact ((Below.refl _ w).alloc (Nat.le_refl _) _).grown hgrow (by simp) (by intro k hk; simp [Value.ownBlock] at hk; omega)
theorem cloneC_nil (n c : Nat) (w : World) :
    Calls Try.prog 50 #[.slice none n c] w fun e w' => e = .returned (.slice none 0 0) ∧ w = w' := by
  have q22 : ∀ (w : World) (a : Option Addr) (n c n' c' : Nat), (binOp .eql 22 (.slice a n c) (.slice none n' c')).run Try.prog w = .ok (.bool a.isNone) w := fun w a n c n' c' => Lib.run_eql_slice_nil w _ _ a n c n' c' Try.underlying22
  go_enter Try.func50, Try.ntmps50
  go_wp2
  go_ret
  exact ⟨rfl, rfl⟩
theorem cloneC_any (v : Value) (l : List Int) (w : World) (h : IL w v l) (hn : l.length ≤ 1000000) :
    Calls Try.prog 50 #[v] w fun e w' => ∃ v', e = .returned v' ∧ w'.ownsRow w.heap.size 3 1 v' l.length (ints l) ∧ Below w.heap.size w w' := by
  obtain ⟨a, cap, rfl, h1, h2, h3⟩ := h
  rw [ints_length] at *
  cases a with
  | none =>
    have hl : l = [] := by
      rcases h3 with h3 | ⟨g, off, h3, _⟩
      · unfold ints at h3; exact List.map_eq_nil_iff.1 h3
      · cases h3
    refine (cloneC_nil _ _ w).mono ?_
    rintro e w' ⟨rfl, rfl⟩
    exact ⟨_, rfl, by rw [hl]; exact World.ownsRow_nil _ _ _ _, Below.refl _ _⟩
  | some ad =>
    refine (cloneC_some ad l.length cap (ints l) w (ints_length l) (by unfold maxLen; omega) (by omega) (fun j u hu => ?_) (ints_one' l)).mono ?_
    · rcases h3 with h3 | ⟨g, off, h3, _, h4⟩
      · rw [h3] at hu; simp at hu
      · cases h3
        have ha : (⟨g, off, none⟩ : Addr).add j = ⟨g, off + j, none⟩ := by unfold Addr.add; split <;> simp_all
        rw [ha]; exact h4 j u hu
    · rintro e w' ⟨v', rfl, h5, _, h6⟩
      exact ⟨v', rfl, h5, h6⟩

theorem info_words : (Try.prog.info? 28).map (fun i => (i.zero, i.size, i.bytes)) = some (some (.slice none 0 0), 1, 24) := by kernel_rfl
theorem emptySum_any (w : World) : Calls Try.prog 51 #[.string { data := #[101, 109, 112, 116, 121] }, .slice none 0 0] w fun e w' => e = .returned (.int .u64 (emptyV.toNat : Int)) ∧ Below w.heap.size w w' := by
  have h := sum_any { data := #[101, 109, 112, 116, 121] } _ [] w (IL.nil w) emptyLab_size (by simp)
  rw [emptyLab_of] at h
  exact h

/-! ## A tree being built -/
theorem own_ne {w : World} {e e' : TypeId} {cur : Array Value} {f : Nat × Nat} {r k : Nat} {v : Value} {n : Nat} {xs : List Value} (hr : w.heap[r]? = some (.cells cur e' f)) (h : SRow w e k v n xs) (hne : e ≠ e') : v.ownBlock ≠ some r := by
  rcases h.2 with ⟨rfl, _⟩ | ⟨g, off, cap, cur', rfl, hg, _⟩
  · simp [Value.ownBlock]
  · intro e1
    obtain rfl : g = r := by simpa [Value.ownBlock] using e1
    have := hg.symm.trans hr
    simp at this
    exact hne this.2.1
theorem WRow.block {w : World} {g cap : Nat} {l : List W64} (h : WRow w g cap l) : ∃ cur, w.heap[g]? = some (.cells cur 36 (0, 0)) := by
  rcases h.2 with ⟨h1, _⟩ | ⟨g', off, cap', cur', h1, hg, _⟩
  · cases h1
  · cases h1; exact ⟨_, hg⟩
structure Bd (w0 wr : World) (b : Nat) (C : List Int) (k : Nat) (cv rv : Value) (G cap : Nat → Nat) : Prop where
  sb : wr.heap[b]? = some (.cells #[cv, rv] 88)
  ce : SRow wr 3 1 cv C.length (ints C)
  rr : wr.ownsRow w0.heap.size 28 1 rv k (rowsV G cap C.length k)
  ro : ∀ t, t < k → WRow wr (G t) (cap t) (rowsW C t)
  d2 : ∀ s t, s < k → t < k → G s = G t → s = t
  low : w0.heap.size ≤ b ∧ (∀ r, cv.ownBlock = some r → w0.heap.size ≤ r) ∧ ∀ t, t < k → w0.heap.size ≤ G t
  bel : Below w0.heap.size w0 wr
theorem Bd.turn {w0 wr w' : World} {b : Nat} {C : List Int} {k : Nat} {cv rv : Value} {G cap : Nat → Nat} {row : Option Nat} (h : Bd w0 wr b C k cv rv G cap) (hg : wr.grownBy w' row)
    (hr : ∀ r, row = some r → w0.heap.size ≤ r ∧ r ≠ b ∧ cv.ownBlock ≠ some r ∧ rv.ownBlock ≠ some r ∧ ∀ t, t < k → G t ≠ r) : Bd w0 w' b C k cv rv G cap := by
  refine ⟨(hg.block b (Array.getElem?_eq_some_iff.1 h.sb).1 fun e => (hr _ e.symm).2.1 rfl).trans h.sb, h.ce.grown fun g hgo hgl => hg.block g hgl fun e => (hr _ e.symm).2.2.1 hgo, ?_, fun t htk => (h.ro t htk).grown (hg.block _ (h.ro t htk).lt fun e => (hr _ e.symm).2.2.2.2 t htk rfl), h.d2, h.low, h.bel.grown hg h.bel.size fun r e => (hr r e).1⟩
  refine h.rr.kept hg ?_
  rcases h.rr.2 with ⟨e, _⟩ | ⟨g, c, cur, e, _⟩
  · exact .inl (by rw [e]; rfl)
  · exact .inr fun e1 => by
      rw [e] at e1
      have := (hr g (by simpa [Value.ownBlock] using e1.symm)).2.2.2.1
      rw [e] at this
      simp [Value.ownBlock] at this
theorem Bd.below {w0 wr w' : World} {b : Nat} {C : List Int} {k : Nat} {cv rv : Value} {G cap : Nat → Nat} (h : Bd w0 wr b C k cv rv G cap) (hb : Below wr.heap.size wr w') : Bd w0 w' b C k cv rv G cap :=
  h.turn (grown_of_below hb) fun r e => by cases e
/-- A row of words is none of the other blocks. -/
theorem Bd.apart {w0 wr : World} {b : Nat} {C : List Int} {k : Nat} {cv rv : Value} {G cap : Nat → Nat} (h : Bd w0 wr b C k cv rv G cap) {g cp : Nat} {l : List W64} (hr : WRow wr g cp l) :
    g ≠ b ∧ cv.ownBlock ≠ some g ∧ rv.ownBlock ≠ some g := by
  obtain ⟨cur, hc⟩ := hr.block
  refine ⟨fun e => ?_, own_ne hc h.ce (by decide), own_ne hc (SRow.owned h.rr) (by decide)⟩
  subst e
  have := hc.symm.trans h.sb
  simp at this
/-- The row at hand grows. -/
theorem Bd.pad {w0 wr w2 : World} {b : Nat} {C : List Int} {k : Nat} {cv rv : Value} {G cap : Nat → Nat} (h : Bd w0 wr b C k cv rv G cap) {g cp n : Nat} {l : List W64} {o : Obj}
    (hr : wr.ownsRow w0.heap.size 36 1 (.slice (some ⟨g, 0, none⟩) n cp) n (u64s l)) (hd : ∀ t, t < k → G t ≠ g) (hg : (wr.alloc o).grownBy w2 (Value.slice (some ⟨g, 0, none⟩) n cp).ownBlock) : Bd w0 w2 b C k cv rv G cap := by
  obtain ⟨h1, h2, h3⟩ := h.apart (WRow.owned hr)
  refine (h.below (alloc_below wr o)).turn hg fun r e => ?_
  obtain rfl : g = r := by simpa [Value.ownBlock] using e
  exact ⟨(hr.lt g rfl).1, h1, h2, h3, hd⟩
theorem tree_cell {w : World} {b : Nat} {cv rv : Value} (h : w.heap[b]? = some (.cells #[cv, rv] 88)) : w.cell? ⟨b, 1, none⟩ = some rv ∧ w.frozen? ⟨b, 1, none⟩ = false := by
  constructor
  · simp [World.cell?, h]
  · simp [World.frozen?, h]
theorem Bd.sbg {w0 wr w2 : World} {b : Nat} {C : List Int} {k : Nat} {cv rv : Value} {G cap : Nat → Nat} (h : Bd w0 wr b C k cv rv G cap) {o : Obj} (hg : (wr.alloc o).grownBy w2 rv.ownBlock) : w2.cell? ⟨b, 1, none⟩ = some rv ∧ w2.frozen? ⟨b, 1, none⟩ = false := by
  have h1 := h.below (alloc_below wr o)
  exact tree_cell ((hg.block b (Array.getElem?_eq_some_iff.1 h1.sb).1 fun e => own_ne h1.sb (SRow.owned h1.rr) (by decide) e.symm).trans h1.sb)
/-- The row at hand is laid on top. -/
theorem Bd.push {w0 wr w2 : World} {b : Nat} {C : List Int} {k : Nat} {cv rv : Value} {G cap : Nat → Nat} (h : Bd w0 wr b C k cv rv G cap) {g cp : Nat} {o : Obj}
    (hr : wr.ownsRow w0.heap.size 36 1 (.slice (some ⟨g, 0, none⟩) (pw C.length k) cp) (pw C.length k) (u64s (rowsW C k))) (hd : ∀ t, t < k → G t ≠ g) {h' ch : Nat}
    (hn : w2.ownsRow w0.heap.size 28 1 (.slice (some ⟨h', 0, none⟩) (k + 1) ch) (k + 1) (rowsV G cap C.length k ++ [.slice (some ⟨g, 0, none⟩) (pw C.length k) cp])) (hg : (wr.alloc o).grownBy w2 rv.ownBlock) :
    Bd w0 (w2.setCell ⟨b, 1, none⟩ (.slice (some ⟨h', 0, none⟩) (k + 1) ch)) b C (k + 1) cv (.slice (some ⟨h', 0, none⟩) (k + 1) ch) (fun t => if t = k then g else G t) (fun t => if t = k then cp else cap t) := by
  have hwr := WRow.owned hr
  obtain ⟨a1, a2, a3⟩ := h.apart hwr
  have h1 := h.below (alloc_below wr o)
  have hw1 := hwr.carry (alloc_below wr o)
  have hsb : w2.heap[b]? = some (.cells #[cv, rv] 88) := (hg.block b (Array.getElem?_eq_some_iff.1 h1.sb).1 fun e => own_ne h1.sb (SRow.owned h1.rr) (by decide) e.symm).trans h1.sb
  have hce : SRow w2 3 1 cv C.length (ints C) := h1.ce.grown fun q hq hql => hg.block q hql fun e => by
    rcases h1.rr.2 with ⟨e2, _⟩ | ⟨q', c', cur', e2, _, hq', _⟩
    · rw [e2] at e; simp [Value.ownBlock] at e
    · obtain rfl : q = q' := by rw [e2] at e; simpa [Value.ownBlock] using e
      exact own_ne hq' h1.ce (by decide) hq
  have keep : ∀ {q c : Nat} {l : List W64}, WRow (wr.alloc o) q c l → WRow (w2.setCell ⟨b, 1, none⟩ (.slice (some ⟨h', 0, none⟩) (k + 1) ch)) q c l := fun {q c l} hq => by
    have hq2 : WRow w2 q c l := hq.grown (hg.block q hq.lt fun e => by
      obtain ⟨cur, hc⟩ := hq.block
      exact own_ne hc (SRow.owned h1.rr) (by decide) e.symm)
    refine hq2.grown (Below.heap_setCell _ _ _ _ ?_)
    rintro rfl
    obtain ⟨cur, hc⟩ := hq2.block
    have := hc.symm.trans hsb
    simp at this
  refine ⟨?_, ?_, ?_, ?_, ?_, ⟨h.low.1, h.low.2.1, ?_⟩, ?_⟩
  · obtain ⟨hlt, hk⟩ := Array.getElem?_eq_some_iff.1 hsb
    show (w2.heap.modify b _)[b]? = _
    rw [Array.getElem?_eq_getElem (by rw [Array.size_modify]; exact hlt), Array.getElem_modify_self, hk]
    rfl
  · refine hce.grown fun q hq hql => Below.heap_setCell _ _ _ _ ?_
    rintro rfl
    exact own_ne hsb hce (by decide) hq
  · have hn2 : w2.ownsRow w0.heap.size 28 1 (.slice (some ⟨h', 0, none⟩) (k + 1) ch) (k + 1) (rowsV (fun t => if t = k then g else G t) (fun t => if t = k then cp else cap t) C.length (k + 1)) := by
      rw [rowsV_succ, if_pos rfl, if_pos rfl, rowsV_congr C.length (G' := G) (cap' := cap) fun t ht => ⟨if_neg (by omega), if_neg (by omega)⟩]
      exact hn
    refine hn2.kept (grownBy_set w2 ⟨b, 1, none⟩ _) (.inr fun e => ?_)
    exact own_ne hsb (SRow.owned hn2) (by decide) e
  · intro t ht
    by_cases e : t = k
    · subst e; rw [if_pos rfl, if_pos rfl]; exact keep hw1
    · rw [if_neg e, if_neg e]; exact keep (h1.ro t (by omega))
  · intro s t hs ht e
    by_cases e1 : s = k
    · by_cases e2 : t = k
      · omega
      · rw [if_pos e1, if_neg e2] at e; exact absurd e.symm (hd t (by omega))
    · by_cases e2 : t = k
      · rw [if_neg e1, if_pos e2] at e; exact absurd e (hd s (by omega))
      · rw [if_neg e1, if_neg e2] at e; exact h.d2 s t (by omega) (by omega) e
  · intro t ht
    by_cases e : t = k
    · rw [if_pos e]; exact (hr.lt g rfl).1
    · rw [if_neg e]; exact h.low.2.2 t (by omega)
  · exact (h1.bel.grown hg h1.bel.size fun r e => (h1.rr.lt r e).1).setCell h.low.1 _
theorem Bd.done {w0 wr : World} {b : Nat} {C : List Int} {cv rv : Value} {G cap : Nat → Nat} (h : Bd w0 wr b C (ht C.length + 1) cv rv G cap) :
    Tr wr b ⟨cv, rv, G, cap⟩ C (rowsW C) ∧ ∀ r, (⟨cv, rv, G, cap⟩ : TrX).all b (ht C.length) r → w0.heap.size ≤ r := by
  refine ⟨⟨h.sb, h.ce, SRow.owned h.rr, fun t ht' => ⟨h.ro t (Nat.lt_succ_of_le ht'), rw_len _ _⟩, fun s t hs ht' e => h.d2 s t (Nat.lt_succ_of_le hs) (Nat.lt_succ_of_le ht') e⟩, ?_⟩
  rintro r (rfl | hr | hr | ⟨t, ht', rfl⟩)
  · exact h.low.1
  · exact h.low.2.1 r hr
  · exact (h.rr.lt r hr).1
  · exact h.low.2.2 t (Nat.lt_succ_of_le ht')
end Go.Proofs.Ytknjdkgemkmoeaa
