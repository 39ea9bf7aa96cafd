/- A region that draws its order and in which variables are made (allocs) beside calls: its quiet operations are walked once, in the order of the text; the allocs come up whenever they come up: a fresh block each; then a forced tail. -/
import Derived.Test.YtknjdkgemkmoeaaMadeTail
namespace Go.Proofs.Ytknjdkgemkmoeaa
open Go.RowKit

def mset (M : Nat → Option Nat) (k B : Nat) : Nat → Option Nat := fun i => if i = k then some B else M i
theorem mset_comm (M : Nat → Option Nat) {j k : Nat} (A B : Nat) (h : j ≠ k) : mset (mset M j A) k B = mset (mset M k B) j A := by
  funext i
  unfold mset
  by_cases h1 : i = k <;> by_cases h2 : i = j <;> simp_all

/-- base's own blocks as they were, and a block of its own for each variable that has been made. -/
structure InM (base : World) (al : Nat → Option Obj) (M : Nat → Option Nat) (w : World) : Prop where
  below : Below base.heap.size base w
  mark : ∀ i B, M i = some B → base.heap.size ≤ B ∧ ∃ o, al i = some o ∧ w.heap[B]? = some o
  apart : ∀ i j B, M i = some B → M j = some B → i = j

section
variable {P : Program} {ops : Array Oper} {md : Region.Mode} {base : World} {al : Nat → Option Obj} {val : Nat → Value}

theorem InM.step {M : Nat → Option Nat} {w w' : World} (h : InM base al M w) (hb : Below w.heap.size w w') : InM base al M w' :=
  ⟨below_step h.below hb, fun i B hi => by
    obtain ⟨h1, o, h2, h3⟩ := h.mark i B hi
    exact ⟨h1, o, h2, by rw [hb.block B (Array.getElem?_eq_some_iff.1 h3).1]; exact h3⟩, h.apart⟩
theorem InM.fresh {M : Nat → Option Nat} {w : World} (h : InM base al M w) (i : Nat) : M i ≠ some w.heap.size := fun e => by
  obtain ⟨_, o, _, h3⟩ := h.mark i _ e
  have := (Array.getElem?_eq_some_iff.1 h3).1
  omega
theorem InM.alloc {M : Nat → Option Nat} {w : World} (h : InM base al M w) {k : Nat} {o : Obj} (hk : al k = some o) : InM base al (mset M k w.heap.size) (w.alloc o) := by
  have hb : Below w.heap.size w (w.alloc o) := (Below.refl _ _).alloc (Nat.le_refl _) _
  refine ⟨below_step h.below hb, fun i B hi => ?_, fun i j B hi hj => ?_⟩
  · unfold mset at hi
    split at hi
    · rename_i e
      obtain rfl : w.heap.size = B := by simpa using hi
      subst e
      exact ⟨h.below.size, o, hk, (MapKept.heap_alloc w o).1⟩
    · exact (h.step hb).mark i B hi
  · unfold mset at hi hj
    split at hi <;> split at hj
    · simp_all
    · obtain rfl : w.heap.size = B := by simpa using hi
      exact absurd hj (h.fresh j)
    · obtain rfl : w.heap.size = B := by simpa using hj
      exact absurd hi (h.fresh i)
    · exact h.apart i j B hi hj

/-- The value of o, in every world that has base's blocks; its call makes new blocks alone. -/
def YieldsR (P : Program) (ops : Array Oper) (base : World) (o : Oper) (v : Value) (a : Act) : Prop :=
  (Region.wanted o (yielded ops a.tmps) = true ∧ ∀ V, Below base.heap.size base V → o.quietAt P a (fun w' => Below V.heap.size V w') V v) ∨
  (Region.wanted o (yielded ops a.tmps) = false ∧ v = undef)
theorem YieldsR.of_same {o : Oper} {v : Value} {a a' : Act} (hy : YieldsR P ops base o v a) (he : execOp a'.eval o = execOp a.eval o)
    (hw : Region.wanted o (yielded ops a'.tmps) = Region.wanted o (yielded ops a.tmps)) : YieldsR P ops base o v a' := by
  unfold YieldsR Oper.quietAt at *
  rw [he, hw]
  exact hy
/-- The allocs among the operations. -/
def Allocs (P : Program) (ops : Array Oper) (al : Nat → Option Obj) : Prop :=
  ∀ i o op, al i = some o → ops[i]? = some op → (∀ y, Region.wanted op y = true) ∧ ∀ (a : Act) w, (execOp a.eval op).run P w = .ok (.value (.pointer (some ⟨w.heap.size, 0, none⟩))) (w.alloc o)

def HeadR (P : Program) (md : Region.Mode) (ops : Array Oper) (base : World) (al : Nat → Option Obj) (val : Nat → Value) (n : Nat) (L : (Nat → Option Nat) → Array Bool → Act → Prop) : Nat → (Nat → Option Nat) → Array Bool → Act → Prop
  | 0, M, ls, a => L M ls a
  | f + 1, M, ls, a => Region.ready md ops ls ≠ [] ∧ ∀ i ∈ Region.ready md ops ls, i < n ∧ ∃ op, ops[i]? = some op ∧
      ((∃ o, al i = some o ∧ ∀ B, base.heap.size ≤ B → (∀ j, M j ≠ some B) → HeadR P md ops base al val n L f (mset M i B) (ls.setIfInBounds i true) (a.put op.dst (.pointer (some ⟨B, 0, none⟩)))) ∨
       (al i = none ∧ YieldsR P ops base op (val i) a ∧ HeadR P md ops base al val n L f M (ls.setIfInBounds i true) (a.put op.dst (val i))))

theorem HeadR.any {n g : Nat} {L : (Nat → Option Nat) → Array Bool → Act → Prop} {Q : Exit → Act → World → Prop} (hal : Allocs P ops al) (hL : ∀ M ls a w, InM base al M w → L M ls a → wpAny P md ops Q g ls a w) :
    ∀ (f : Nat) M (ls : Array Bool) (a : Act) (w : World), InM base al M w → HeadR P md ops base al val n L f M ls a → wpAny P md ops Q (f + g) ls a w := by
  intro f
  induction f with
  | zero => intro M ls a w hw h; rw [Nat.zero_add]; exact hL _ _ _ _ hw h
  | succ f ih =>
    intro M ls a w hw h
    rw [Nat.succ_add]
    refine ⟨fun e => absurd e h.1, fun i hi => ?_⟩
    obtain ⟨_, op, ho, h2⟩ := h.2 i hi
    unfold wpOp
    simp only [ho]
    rcases h2 with ⟨o, hk, h3⟩ | ⟨_, hy, h3⟩
    · obtain ⟨h4, h5⟩ := hal i o op hk ho
      rw [if_pos (h4 _)]
      refine Or.inl ?_
      unfold Oper.wp
      rw [h5]
      simp only [Oper.upon]
      exact ih _ _ _ _ (hw.alloc hk) (h3 _ hw.below.size hw.fresh)
    · rcases hy with ⟨h4, h5⟩ | ⟨h4, h5⟩
      · rw [if_pos h4]
        refine Or.inl (Oper.wp_of_quiet (C := fun w' => Below w.heap.size w w') (K := fun b => b = a.put op.dst (val i)) (Below.refl _ _) (fun b v hv hb => ?_) ⟨val i, fun V hV => ?_, rfl⟩)
        · subst hb; exact ih _ _ _ _ (hw.step hv) h3
        · have h6 := h5 V (below_step hw.below hV)
          unfold Oper.quietAt at *
          generalize (execOp a.eval op).run P V = r at *
          cases r with
          | ok x w' =>
            cases x <;> simp only [Oper.quietUpon] at h6 ⊢ <;> first | exact h6 | exact ⟨h6.1, h6.2.mono fun _ _ hh => ⟨hh.1, below_step hV hh.2⟩⟩
          | halt x w' => exact h6
      · rw [if_neg (by rw [h4]; exact Bool.false_ne_true)]
        rw [h5] at h3
        exact ih _ _ _ _ hw h3

section
variable {n : Nat} {L : (Nat → Option Nat) → Array Bool → Act → Prop}
/-- What is taken first is apart from what comes up instead. -/
theorem HeadR.first {i : Nat} {oi : Oper} (hi : ops[i]? = some oi) (hsel : ∀ (j : Nat) (o : Oper) cs b, ops[j]? = some o → o.op ≠ .select cs b)
    (hs : Region.sinkB md ops n = true) (hc : Region.chainB md ops n = true) (hn : n < ops.size) (hin : i < n) (hai : al i = none) (hL : ∀ M ls a, L M ls a → ∀ j ∈ Region.ready md ops ls, n ≤ j) :
    ∀ (f : Nat) M (ls : Array Bool) (a : Act), HeadInv md ops n ls →
      (∀ j oj, ops[j]? = some oj → j ≠ i → ls.getD j true = false → (∀ e ∈ oj.after, Region.binds md e = true → e.on ≠ i) → oi.apart ops oj = true) →
      i ∈ Region.ready md ops ls → YieldsR P ops base oi (val i) a → HeadR P md ops base al val n L f M (ls.setIfInBounds i true) (a.put oi.dst (val i)) → HeadR P md ops base al val n L (f + 1) M ls a := by
  intro f
  induction f with
  | zero =>
    intro M ls a inv _ hr hy H
    refine ⟨fun e => (by rw [e] at hr; cases hr), fun j hj => ?_⟩
    have hjn : j < n := Nat.lt_of_not_le fun h => tail_waits hs hc hn inv _ i rfl hin (mem_ready.1 hr).1 j h hj
    by_cases e : j = i
    · subst e; exact ⟨hjn, oi, hi, Or.inr ⟨hai, hy, H⟩⟩
    · exact absurd (hL _ _ _ H j (ready_mono hj e)) (by omega)
  | succ f ih =>
    intro M ls a inv hfree hr hy H
    refine ⟨fun e => (by rw [e] at hr; cases hr), fun j hj => ?_⟩
    have hjn : j < n := Nat.lt_of_not_le fun h => tail_waits hs hc hn inv _ i rfl hin (mem_ready.1 hr).1 j h hj
    by_cases e : j = i
    · subst e; exact ⟨hjn, oi, hi, Or.inr ⟨hai, hy, H⟩⟩
    obtain ⟨hju, oj, hoj, hall⟩ := mem_ready.1 hj
    have hno : ∀ d ∈ oj.after, Region.binds md d = true → d.on ≠ i := fun d hd hb he => by
      have h0 := hall d hd hb
      rw [he, getD_both (mem_ready.1 hr).1] at h0
      cases h0
    obtain ⟨p1, p2, p3⟩ := Oper.apart_spec (hfree j oj hoj e hju hno)
    have hfree' : ∀ k ok, ops[k]? = some ok → k ≠ i → (ls.setIfInBounds j true).getD k true = false → (∀ e ∈ ok.after, Region.binds md e = true → e.on ≠ i) → oi.apart ops ok = true := fun k ok hk hki hu hnk =>
      hfree k ok hk hki (by
        by_cases ejk : j = k
        · subst ejk; exact hju
        · rwa [getD_set_ne true ejk] at hu) hnk
    have keep : ∀ u, YieldsR P ops base oi (val i) (a.put oj.dst u) := fun u => hy.of_same (execOp_put oi (fun cs b => hsel i oi cs b hi) a oj.dst u p3) (wanted_put oi a oj.dst u p3)
    obtain ⟨_, oj', hoj', h2⟩ := H.2 j (ready_mono hj e)
    obtain rfl : oj = oj' := Option.some.inj (hoj.symm.trans hoj')
    refine ⟨hjn, oj, hoj, ?_⟩
    rcases h2 with ⟨o, hk, h3⟩ | ⟨hk, hyj, h3⟩
    · refine Or.inl ⟨o, hk, fun B hB hfr => ih _ _ _ (inv.set hj hjn) hfree' (ready_mono hr (Ne.symm e)) (keep _) ?_⟩
      have h4 := h3 B hB hfr
      rw [Act.put_comm a _ _ p2, Array.setIfInBounds_comm _ _ (Ne.symm e)] at h4
      exact h4
    · refine Or.inr ⟨hk, hyj.of_same (execOp_put oj (fun cs b => hsel j oj cs b hoj) a oi.dst _ p1).symm (wanted_put oj a oi.dst _ p1).symm, ih _ _ _ (inv.set hj hjn) hfree' (ready_mono hr (Ne.symm e)) (keep _) ?_⟩
      rw [Act.put_comm a _ _ p2, Array.setIfInBounds_comm _ _ (Ne.symm e)] at h3
      exact h3

/-- The marks end somewhere, and none is laid for what has not come up. -/
def Fit (base : World) (M : Nat → Option Nat) (ls : Array Bool) : Prop := (∃ K, base.heap.size ≤ K ∧ ∀ j B, M j = some B → B < K) ∧ ∀ j, ls.getD j true = false → M j = none
theorem Fit.fresh {M : Nat → Option Nat} {ls : Array Bool} (h : Fit base M ls) : ∃ B, base.heap.size ≤ B ∧ ∀ j, M j ≠ some B := by
  obtain ⟨⟨K, h1, h2⟩, _⟩ := h
  exact ⟨K, h1, fun j e => by have := h2 j K e; omega⟩
theorem set_listed (ls : Array Bool) (k : Nat) : (ls.setIfInBounds k true).getD k true = true := by
  rcases Nat.lt_or_ge k ls.size with h | h
  · simp [h]
  · simp [h]
theorem Fit.list {M : Nat → Option Nat} {ls : Array Bool} (h : Fit base M ls) (k : Nat) : Fit base M (ls.setIfInBounds k true) := by
  refine ⟨h.1, fun j hj => ?_⟩
  by_cases e : k = j
  · subst e; rw [set_listed] at hj; cases hj
  · rw [getD_set_ne true e] at hj; exact h.2 j hj
theorem Fit.set {M : Nat → Option Nat} {ls : Array Bool} (h : Fit base M ls) (k B : Nat) : Fit base (mset M k B) (ls.setIfInBounds k true) := by
  obtain ⟨⟨K, h1, h2⟩, h3⟩ := h
  refine ⟨⟨K + B + 1, by omega, fun j A hj => ?_⟩, fun j hj => ?_⟩
  · unfold mset at hj
    split at hj
    · obtain rfl : B = A := by simpa using hj
      omega
    · have := h2 j A hj
      omega
  · by_cases e : k = j
    · subst e; rw [set_listed] at hj; cases hj
    · rw [getD_set_ne true e] at hj
      unfold mset
      rw [if_neg (Ne.symm e)]
      exact h3 j hj

theorem HeadR.firstA {i : Nat} {oi : Oper} {o : Obj} (hi : ops[i]? = some oi) (hsel : ∀ (j : Nat) (o : Oper) cs b, ops[j]? = some o → o.op ≠ .select cs b)
    (hs : Region.sinkB md ops n = true) (hc : Region.chainB md ops n = true) (hn : n < ops.size) (hin : i < n) (hai : al i = some o) (hL : ∀ M ls a, L M ls a → ∀ j ∈ Region.ready md ops ls, n ≤ j) :
    ∀ (f : Nat) M (ls : Array Bool) (a : Act), HeadInv md ops n ls →
      (∀ j oj, ops[j]? = some oj → j ≠ i → ls.getD j true = false → (∀ e ∈ oj.after, Region.binds md e = true → e.on ≠ i) → oi.apart ops oj = true) →
      i ∈ Region.ready md ops ls → Fit base M ls → (∀ B, base.heap.size ≤ B → (∀ j, M j ≠ some B) → HeadR P md ops base al val n L f (mset M i B) (ls.setIfInBounds i true) (a.put oi.dst (.pointer (some ⟨B, 0, none⟩)))) → HeadR P md ops base al val n L (f + 1) M ls a := by
  intro f
  induction f with
  | zero =>
    intro M ls a inv _ hr hE H
    obtain ⟨B0, hB0, hf0⟩ := hE.fresh
    refine ⟨fun e => (by rw [e] at hr; cases hr), fun j hj => ?_⟩
    have hjn : j < n := Nat.lt_of_not_le fun h => tail_waits hs hc hn inv _ i rfl hin (mem_ready.1 hr).1 j h hj
    by_cases e : j = i
    · subst e; exact ⟨hjn, oi, hi, Or.inl ⟨o, hai, H⟩⟩
    · exact absurd (hL _ _ _ (H B0 hB0 hf0) j (ready_mono hj e)) (by omega)
  | succ f ih =>
    intro M ls a inv hfree hr hE H
    obtain ⟨B0, hB0, hf0⟩ := hE.fresh
    refine ⟨fun e => (by rw [e] at hr; cases hr), fun j hj => ?_⟩
    have hjn : j < n := Nat.lt_of_not_le fun h => tail_waits hs hc hn inv _ i rfl hin (mem_ready.1 hr).1 j h hj
    by_cases e : j = i
    · subst e; exact ⟨hjn, oi, hi, Or.inl ⟨o, hai, H⟩⟩
    obtain ⟨hju, oj, hoj, hall⟩ := mem_ready.1 hj
    have hno : ∀ d ∈ oj.after, Region.binds md d = true → d.on ≠ i := fun d hd hb he => by
      have h0 := hall d hd hb
      rw [he, getD_both (mem_ready.1 hr).1] at h0
      cases h0
    obtain ⟨p1, p2, p3⟩ := Oper.apart_spec (hfree j oj hoj e hju hno)
    have hfree' : ∀ k ok, ops[k]? = some ok → k ≠ i → (ls.setIfInBounds j true).getD k true = false → (∀ e ∈ ok.after, Region.binds md e = true → e.on ≠ i) → oi.apart ops ok = true := fun k ok hk hki hu hnk =>
      hfree k ok hk hki (by
        by_cases ejk : j = k
        · subst ejk; exact hju
        · rwa [getD_set_ne true ejk] at hu) hnk
    refine ⟨hjn, oj, hoj, ?_⟩
    cases hk : al j with
    | some o' =>
      refine Or.inl ⟨o', rfl, fun A hA hfA => ih _ _ _ (inv.set hj hjn) hfree' (ready_mono hr (Ne.symm e)) (hE.set j A) fun B hB hfB => ?_⟩
      have hBA : A ≠ B := fun eq => hfB j (by unfold mset; rw [if_pos rfl, eq])
      have hfB' : ∀ k, M k ≠ some B := fun k hk' => by
        by_cases ek : k = j
        · subst ek; rw [hE.2 k hju] at hk'; cases hk'
        · exact hfB k (by unfold mset; rw [if_neg ek]; exact hk')
      obtain ⟨_, oj', hoj', h2⟩ := (H B hB hfB').2 j (ready_mono hj e)
      obtain rfl : oj = oj' := Option.some.inj (hoj.symm.trans hoj')
      rcases h2 with ⟨o2, hk2, h3⟩ | ⟨hk2, _, _⟩
      · have h4 := h3 A hA (fun k hk' => by
          unfold mset at hk'
          split at hk'
          · exact hBA (by simpa using hk'.symm)
          · exact hfA k hk')
        rw [Act.put_comm a _ _ p2, Array.setIfInBounds_comm _ _ (Ne.symm e), mset_comm _ _ _ (Ne.symm e)] at h4
        exact h4
      · rw [hk] at hk2; cases hk2
    | none =>
      obtain ⟨_, oj', hoj', h2⟩ := (H B0 hB0 hf0).2 j (ready_mono hj e)
      obtain rfl : oj = oj' := Option.some.inj (hoj.symm.trans hoj')
      rcases h2 with ⟨o2, hk2, _⟩ | ⟨_, hyj, _⟩
      · rw [hk] at hk2; cases hk2
      refine Or.inr ⟨rfl, hyj.of_same (execOp_put oj (fun cs b => hsel j oj cs b hoj) a oi.dst _ p1).symm (wanted_put oj a oi.dst _ p1).symm, ih _ _ _ (inv.set hj hjn) hfree' (ready_mono hr (Ne.symm e)) (hE.list j) fun B hB hfB => ?_⟩
      obtain ⟨_, oj', hoj', h2⟩ := (H B hB hfB).2 j (ready_mono hj e)
      obtain rfl : oj = oj' := Option.some.inj (hoj.symm.trans hoj')
      rcases h2 with ⟨o2, hk2, _⟩ | ⟨_, _, h3⟩
      · rw [hk] at hk2; cases hk2
      rw [Act.put_comm a _ _ p2, Array.setIfInBounds_comm _ _ (Ne.symm e)] at h3
      exact h3

/-- The order in which the head is walked: its quiet operations, then its allocs; each may come up at its turn and is apart from what is left. -/
def ordB (md : Region.Mode) (ops : Array Oper) (g n : Nat) : List Nat → Array Bool → Bool
  | [], ls => Region.seqB md ops g n ls
  | i :: r, ls => (Region.ready md ops ls).contains i && Region.free md ops ls i && decide (i < n) && ordB md ops g n r (ls.setIfInBounds i true)

theorem HeadR.lexA {g : Nat} {Lq : (Nat → Option Nat) → Act → Prop} (hsel : Region.noSelect ops = true) (hs : Region.sinkB md ops n = true) (hc : Region.chainB md ops n = true) (hn : n < ops.size) :
    ∀ (is : List Nat) M (ls : Array Bool) (a : Act), HeadInv md ops n ls → Fit base M ls → ordB md ops g n is ls = true → (∀ i ∈ is, ∃ op, ops[i]? = some op ∧ (al i).isSome = true) →
    (∀ M' a', (∀ j, j ∉ is → M' j = M j) → (∀ i ∈ is, ∃ B, M' i = some B) → a' = is.foldl (fun b i => match ops[i]?, M' i with | some op, some B => b.put op.dst (.pointer (some ⟨B, 0, none⟩)) | _, _ => b) a → Lq M' a') →
    HeadR P md ops base al val n (fun M' ls' a' => Region.seqB md ops g n ls' = true ∧ Lq M' a') is.length M ls a := by
  intro is
  induction is with
  | nil =>
    intro M ls a _ _ hB _ h
    exact ⟨by simpa [ordB] using hB, h M a (fun _ _ => rfl) (by simp) rfl⟩
  | cons i r ih =>
    intro M ls a inv hE hB hA h
    simp only [ordB, Bool.and_eq_true, decide_eq_true_eq] at hB
    obtain ⟨⟨⟨hr, hf⟩, hin⟩, hB'⟩ := hB
    obtain ⟨op, hop, hal⟩ := hA i (by simp)
    obtain ⟨o, ho⟩ := Option.isSome_iff_exists.1 hal
    have hr' : i ∈ Region.ready md ops ls := by simpa using hr
    refine HeadR.firstA hop (Region.noSelect_spec hsel) hs hc hn hin ho (fun M ls' a' hL => seqB_ready hL.1) r.length M ls a inv (Region.free_spec hop hf) hr' hE fun B hB hfB => ?_
    have hir : i ∉ r := fun hm => by
      -- what has come up does not come up again
      have : ∀ (r : List Nat) (ls : Array Bool), ordB md ops g n r ls = true → ∀ j ∈ r, ls.getD j true = false := by
        intro r
        induction r with
        | nil => intro ls _ j hj; cases hj
        | cons k r ih2 =>
          intro ls h j hj
          simp only [ordB, Bool.and_eq_true, decide_eq_true_eq] at h
          rcases List.mem_cons.1 hj with rfl | hj
          · exact (mem_ready.1 (by simpa using h.1.1.1)).1
          · have h5 := ih2 _ h.2 j hj
            by_cases e : k = j
            · subst e; rw [set_listed] at h5; cases h5
            · rwa [getD_set_ne true e] at h5
      have h6 := this r _ hB' i hm
      rw [set_listed] at h6
      cases h6
    refine ih _ _ _ (inv.set hr' hin) (hE.set i B) hB' (fun j hj => hA j (by simp [hj])) fun M' a' h1 h2 h3 => h M' a' (fun j hj => ?_) (fun j hj => ?_) ?_
    · rw [h1 j (fun hm => hj (by simp [hm]))]
      unfold mset
      rw [if_neg (fun e => hj (by simp [e]))]
    · rcases List.mem_cons.1 hj with rfl | hj
      · exact ⟨B, by rw [h1 j hir]; unfold mset; rw [if_pos rfl]⟩
      · exact h2 j hj
    · have hMi : M' i = some B := by rw [h1 i hir]; unfold mset; rw [if_pos rfl]
      rw [h3, List.foldl_cons, hop, hMi]

theorem HeadR.lexQ {g : Nat} {Lq : (Nat → Option Nat) → Act → Prop} (hsel : Region.noSelect ops = true) (hs : Region.sinkB md ops n = true) (hc : Region.chainB md ops n = true) (hn : n < ops.size) (js : List Nat) (aE : Act)
    (hA : ∀ i ∈ js, ∃ op, ops[i]? = some op ∧ (al i).isSome = true)
    (hq : ∀ M' a', (∀ j, j ∉ js → M' j = none) → (∀ i ∈ js, ∃ B, M' i = some B) → a' = js.foldl (fun b i => match ops[i]?, M' i with | some op, some B => b.put op.dst (.pointer (some ⟨B, 0, none⟩)) | _, _ => b) aE → Lq M' a') :
    ∀ (is : List Nat) (ls : Array Bool) (a : Act), HeadInv md ops n ls → Fit base (fun _ => none) ls → ordB md ops g n (is ++ js) ls = true → (∀ i ∈ is, ∃ op, ops[i]? = some op ∧ al i = none) →
    (∀ (r : List Nat) (i : Nat) (s : List Nat), is = r ++ i :: s → ∀ op, ops[i]? = some op → YieldsR P ops base op (val i) (r.foldl (fun b j => match ops[j]? with | some o => b.put o.dst (val j) | none => b) a)) →
    aE = is.foldl (fun b j => match ops[j]? with | some o => b.put o.dst (val j) | none => b) a →
    HeadR P md ops base al val n (fun M' ls' a' => Region.seqB md ops g n ls' = true ∧ Lq M' a') (is.length + js.length) (fun _ => none) ls a := by
  intro is
  induction is with
  | nil =>
    intro ls a inv hF hB _ _ he
    rw [List.length_nil, Nat.zero_add]
    refine HeadR.lexA hsel hs hc hn js _ ls a inv hF (by simpa using hB) hA fun M' a' h1 h2 h3 => hq M' a' h1 h2 ?_
    rw [h3, he, List.foldl_nil]
  | cons i r ih =>
    intro ls a inv hF hB hA' hY he
    simp only [List.cons_append, ordB, Bool.and_eq_true, decide_eq_true_eq] at hB
    obtain ⟨⟨⟨hr, hf⟩, hin⟩, hB'⟩ := hB
    obtain ⟨op, hop, hai⟩ := hA' i (by simp)
    have hr' : i ∈ Region.ready md ops ls := by simpa using hr
    rw [List.length_cons, Nat.add_right_comm]
    refine HeadR.first hop (Region.noSelect_spec hsel) hs hc hn hin hai (fun M ls' a' hL => seqB_ready hL.1) _ _ ls a inv (Region.free_spec hop hf) hr' (hY [] i r rfl op hop) ?_
    refine ih _ _ (inv.set hr' hin) (hF.list i) hB' (fun j hj => hA' j (by simp [hj])) (fun r' j s e o ho => ?_) ?_
    · have := hY (i :: r') j s (by rw [e]; rfl) o ho
      rwa [List.foldl_cons, hop] at this
    · rw [he, List.foldl_cons, hop]
end

theorem put_at {a : Act} {d : Tmp} (v : Value) (h : d < a.tmps.size) : (a.put (some d) v).tmps[d]? = some v := by
  simp [Act.put, h]
theorem put_not {a : Act} {x : Option Tmp} {d : Tmp} (v : Value) (h : x ≠ some d) : (a.put x v).tmps[d]? = a.tmps[d]? := by
  cases x with
  | none => rfl
  | some y =>
    have : y ≠ d := fun e => h (by rw [e])
    simp [Act.put, Array.getElem?_setIfInBounds_ne, this]
theorem put_size (a : Act) (x : Option Tmp) (v : Value) : (a.put x v).tmps.size = a.tmps.size := by
  cases x <;> simp [Act.put]

theorem slot_kept {C : World → Prop} {aE : Act} {d : Tmp} : ∀ (l : List Oper) (a : Act), (∀ o ∈ l, o.dst ≠ some d) → wpQuiet P ops C (fun b => b = aE) l a → aE.tmps[d]? = a.tmps[d]?
  | [], a, _, h => by rw [show a = aE from h]
  | o :: l, a, hd, h => by
    unfold wpQuiet at h
    split at h
    · obtain ⟨v, _, h2⟩ := h
      rw [slot_kept l _ (fun x hx => hd x (by simp [hx])) h2, put_not v (hd o (by simp))]
    · rw [slot_kept l _ (fun x hx => hd x (by simp [hx])) h, put_not _ (hd o (by simp))]

/-- The value that the walk left in operation number i's temporary. -/
def valOf (ops : Array Oper) (aE : Act) (i : Nat) : Value := ((ops[i]?.bind (·.dst)).bind fun d => aE.tmps[d]?).getD undef

/-- Each of these operations has a temporary of its own. -/
def ownB (ops : Array Oper) (m : Nat) : List Nat → Bool
  | [] => true
  | i :: r => (match ops[i]? with | some o => (match o.dst with | some d => decide (d < m) && r.all (fun j => (ops[j]?.bind (·.dst)) != some d) && r.all (fun j => (ops[j]?).isSome) | none => false) | none => false) && ownB ops m r

theorem yields_all {aE : Act} : ∀ (is : List Nat) (a : Act), ownB ops a.tmps.size is = true → (∀ V, Below base.heap.size base V → wpQuiet P ops (fun w' => ∃ x, w' = over V x) (fun b => b = aE) (is.filterMap (ops[·]?)) a) →
    (∀ (r : List Nat) (i : Nat) (s : List Nat), is = r ++ i :: s → ∀ op, ops[i]? = some op → YieldsR P ops base op (valOf ops aE i) (r.foldl (fun b j => match ops[j]? with | some o => b.put o.dst (valOf ops aE j) | none => b) a)) ∧
    aE = is.foldl (fun b j => match ops[j]? with | some o => b.put o.dst (valOf ops aE j) | none => b) a := by
  intro is
  induction is with
  | nil =>
    intro a _ h
    refine ⟨fun r i s e => by simp at e, ?_⟩
    exact (h base (Below.refl _ _)).symm
  | cons i r ih =>
    intro a hO h
    simp only [ownB, Bool.and_eq_true] at hO
    obtain ⟨h1, h2⟩ := hO
    cases hop : ops[i]? with
    | none => rw [hop] at h1; cases h1
    | some op =>
      rw [hop] at h1
      cases hd : op.dst with
      | none => simp only [hd] at h1; cases h1
      | some d =>
        simp only [hd, Bool.and_eq_true, decide_eq_true_eq, List.all_eq_true] at h1
        obtain ⟨⟨h3, h4⟩, _⟩ := h1
        have hno : ∀ o ∈ r.filterMap (ops[·]?), o.dst ≠ some d := fun o ho e => by
          obtain ⟨j, hj, hjo⟩ := List.mem_filterMap.1 ho
          have := h4 j hj
          rw [hjo] at this
          simp [e] at this
        have hfm : (i :: r).filterMap (ops[·]?) = op :: r.filterMap (ops[·]?) := by simp [hop]
        have key : ∀ V, Below base.heap.size base V → (Region.wanted op (yielded ops a.tmps) = true → ∀ w, (∃ x, w = over V x) → op.quietAt P a (fun w' => ∃ x, w' = over V x) w (valOf ops aE i)) ∧ (Region.wanted op (yielded ops a.tmps) = false → valOf ops aE i = undef) ∧
            wpQuiet P ops (fun w' => ∃ x, w' = over V x) (fun b => b = aE) (r.filterMap (ops[·]?)) (a.put op.dst (valOf ops aE i)) := fun V hV => by
          have h5 := h V hV
          rw [hfm] at h5
          unfold wpQuiet at h5
          split at h5
          · rename_i hw
            obtain ⟨v, h6, h7⟩ := h5
            have hv : valOf ops aE i = v := by
              have := slot_kept _ _ hno h7
              rw [hd, put_at v h3] at this
              simp [valOf, hop, hd, this]
            rw [hv]
            exact ⟨fun _ => h6, fun hf => (by rw [hw] at hf; cases hf), h7⟩
          · rename_i hw
            have hv : valOf ops aE i = undef := by
              have := slot_kept _ _ hno h5
              rw [hd, put_at _ h3] at this
              simp [valOf, hop, hd, this]
            rw [hv]
            exact ⟨fun ht => absurd ht hw, fun _ => rfl, h5⟩
        have hfold : ∀ (b : Act), (match ops[i]? with | some o => b.put o.dst (valOf ops aE i) | none => b) = b.put op.dst (valOf ops aE i) := fun b => by rw [hop]
        obtain ⟨j1, j2⟩ := ih (a.put op.dst (valOf ops aE i)) (by rw [put_size]; exact h2) (fun V hV => (key V hV).2.2)
        refine ⟨fun r' k s e o ho => ?_, ?_⟩
        · cases r' with
          | nil =>
            simp only [List.nil_append, List.cons.injEq] at e
            obtain ⟨rfl, rfl⟩ := e
            obtain rfl : op = o := Option.some.inj (hop.symm.trans ho)
            rw [List.foldl_nil]
            by_cases hw : Region.wanted op (yielded ops a.tmps) = true
            · refine Or.inl ⟨hw, fun V hV => ?_⟩
              have h8 := (key V hV).1 hw V ⟨V, (over_of (Below.refl _ _)).symm⟩
              unfold Oper.quietAt at *
              generalize (execOp a.eval op).run P V = z at *
              cases z with
              | ok x w' =>
                cases x <;> simp only [Oper.quietUpon] at h8 ⊢ <;> first | exact h8 | exact ⟨h8.1, h8.2.mono fun _ _ hh => ⟨hh.1, by obtain ⟨y, rfl⟩ := hh.2; exact below_over _ _⟩⟩
              | halt x w' => exact h8
            · have hw' : Region.wanted op (yielded ops a.tmps) = false := by simpa using hw
              exact Or.inr ⟨hw', (key base (Below.refl _ _)).2.1 hw'⟩
          | cons x r'' =>
            simp only [List.cons_append, List.cons.injEq] at e
            obtain ⟨rfl, e⟩ := e
            rw [List.foldl_cons, hfold]
            exact j1 r'' k s e o ho
        · rw [List.foldl_cons, hfold]
          exact j2

/-- All that is looked up of the region. -/
def allocB (ops : Array Oper) (m n : Nat) (qs js : List Nat) : Bool :=
  Region.noSelect ops && decide (n < ops.size) && Region.sinkB .any ops n && Region.chainB .any ops n && ordB .any ops (ops.size - n) n (qs ++ js) (Array.replicate ops.size false) && ownB ops m qs && qs.all (fun i => (ops[i]?).isSome && !js.contains i) && decide (qs.length + js.length = n)
end

theorem kept_of {w V : World} (h : Below w.heap.size w V) : Kept w V :=
  ⟨fun x b o hb => (below_step h (below_over V x)).cell (p := ⟨b, o, none⟩) hb, fun x b o hb => (below_step h (below_over V x)).frozen (p := ⟨b, o, none⟩) hb, fun x => (below_step h (below_over V x)).size, fun x => below_step h (below_over V x)⟩

/-- One variable made in the region: operation number k; its block is B. -/
theorem wp_region_alloc {P : Program} {id : Nat} {Q : Exit → Act → World → Prop} {a : Act} {w : World} {l : List Oper} (n : Nat) (qs : List Nat) (k : Nat) (dst : Option Tmp) (o : Obj) (hm : P.follows .mixedOrders = true) (hB : allocB l.toArray a.tmps.size n qs [k] = true)
    (hop : ∃ opk, l[k]? = some opk ∧ opk.dst = dst ∧ (∀ y, Region.wanted opk y = true) ∧ ∀ (a : Act) w, (execOp a.eval opk).run P w = .ok (.value (.pointer (some ⟨w.heap.size, 0, none⟩))) (w.alloc o))
    (h : ∃ aE, (∀ V, Kept w V → ∀ E : Act → Prop, E aE → wpQuiet P l.toArray (fun w' => ∃ x, w' = over V x) E (qs.filterMap (l[·]?)) a) ∧
      ∀ B w', w.heap.size ≤ B → Below w.heap.size w w' → w'.heap[B]? = some o → wpList P l.toArray Q (l.drop n) (aE.put dst (.pointer (some ⟨B, 0, none⟩))) w') : (Code.region id l.toArray true).wp P Q a w := by
  obtain ⟨opk, hk, rfl, hwant, hrun⟩ := hop
  obtain ⟨aE, hq, ht⟩ := h
  simp only [allocB, Bool.and_eq_true, decide_eq_true_eq] at hB
  obtain ⟨⟨⟨⟨⟨⟨⟨hsel, hn⟩, hs⟩, hc⟩, hord⟩, hown⟩, hqs⟩, hlen⟩ := hB
  have hn' : n < l.length := by simpa using hn
  have hdl : (l.drop n).length = l.toArray.size - n := by simp
  have inv : HeadInv .any l.toArray n (Array.replicate l.toArray.size false) :=
    ⟨by simp, fun j oj _ hl => (by rw [getD_replicate_false] at hl; cases hl), fun t _ ht => getD_in (by simpa using ht) (getD_replicate_false _ _)⟩
  have fit : Fit w (fun _ => none) (Array.replicate l.toArray.size false) := ⟨⟨w.heap.size, Nat.le_refl _, fun j B e => by cases e⟩, fun _ _ => rfl⟩
  have hka : l.toArray[k]? = some opk := by simpa using hk
  have hY := yields_all (P := P) (base := w) (ops := l.toArray) (aE := aE) qs a hown (fun V hV => by simpa using hq V (kept_of hV) (fun b => b = aE) rfl)
  have H := HeadR.lexQ (P := P) (ops := l.toArray) (base := w) (al := fun i => if i = k then some o else none) (val := valOf l.toArray aE) (n := n) (g := l.toArray.size - n) (md := .any)
    (Lq := fun M a' => ∀ w', InM w (fun i => if i = k then some o else none) M w' → wpList P l.toArray Q (l.drop n) a' w') hsel hs hc hn [k] aE
    (fun i hi => by
      obtain rfl : i = k := by simpa using hi
      exact ⟨opk, hka, by simp⟩)
    (fun M a' _ h2 h3 w' hw' => by
      obtain ⟨B, hB⟩ := h2 k (by simp)
      obtain ⟨h4, o', h5, h6⟩ := hw'.mark k B hB
      simp only [if_true, Option.some.injEq] at h5
      subst h5
      rw [h3, List.foldl_cons, List.foldl_nil, hka, hB]
      exact ht B w' h4 hw'.below h6)
    qs (Array.replicate l.toArray.size false) a inv fit hord
    (fun i hi => by
      have h1 := List.all_eq_true.1 hqs i hi
      simp only [Bool.and_eq_true] at h1
      obtain ⟨op, hop⟩ := Option.isSome_iff_exists.1 h1.1
      refine ⟨op, hop, ?_⟩
      have : i ≠ k := fun e => by simp [e] at h1
      simp [this])
    hY.1 hY.2
  have inm : InM w (fun i => if i = k then some o else none) (fun _ => none) { w with drawn := w.drawn + 1 } :=
    ⟨(Below.refl _ _).drew, fun i B e => (by cases e), fun i j B e => (by cases e)⟩
  refine wp_region_any hm ?_
  have := HeadR.any (Q := Q) (g := l.toArray.size - n) (fun i o' op h1 h2 => by
      split at h1
      · rename_i e
        subst e
        obtain rfl : opk = op := Option.some.inj (hka.symm.trans h2)
        obtain rfl : o = o' := by simpa using h1
        exact ⟨hwant, hrun⟩
      · cases h1) (fun M ls a' w' hw hL => by
    have := wpAny_of_seq (md := .any) (Q' := Q) (l.drop n) n ls a' w' (fun j => by simp [List.getElem?_drop]) (by rw [hdl]; exact hL.1) (hL.2 w' hw)
    rwa [hdl] at this) _ _ _ _ _ inm H
  rwa [show qs.length + [k].length + (l.toArray.size - n) = l.toArray.size by omega] at this
theorem range_ops {α : Type} (l : List α) : ∀ m, (List.range m).filterMap (l[·]?) = l.take m
  | 0 => rfl
  | m + 1 => by
    rw [List.range_succ, List.filterMap_append, range_ops l m, List.take_add_one]
    cases h : l[m]? <;> simp [h]
/-- The variable is made by the head's last operation in the text: number n; the tail starts at n + 1. -/
theorem wp_region_alloc_last {P : Program} {id : Nat} {Q : Exit → Act → World → Prop} {a : Act} {w : World} {l : List Oper} (n : Nat) (dst : Option Tmp) (o : Obj) (hm : P.follows .mixedOrders = true) (hB : allocB l.toArray a.tmps.size (n + 1) (List.range n) [n] = true)
    (hop : ∃ opk, l[n]? = some opk ∧ opk.dst = dst ∧ (∀ y, Region.wanted opk y = true) ∧ ∀ (a : Act) w, (execOp a.eval opk).run P w = .ok (.value (.pointer (some ⟨w.heap.size, 0, none⟩))) (w.alloc o))
    (h : ∃ aE, (∀ V, Kept w V → ∀ E : Act → Prop, E aE → wpQuiet P l.toArray (fun w' => ∃ x, w' = over V x) E (l.take n) a) ∧
      ∀ B w', w.heap.size ≤ B → Below w.heap.size w w' → w'.heap[B]? = some o → wpList P l.toArray Q (l.drop (n + 1)) (aE.put dst (.pointer (some ⟨B, 0, none⟩))) w') : (Code.region id l.toArray true).wp P Q a w :=
  wp_region_alloc (n + 1) (List.range n) n dst o hm hB hop (by
    obtain ⟨aE, h1, h2⟩ := h
    exact ⟨aE, fun V hV E hE => by rw [range_ops]; exact h1 V hV E hE, h2⟩)
theorem heap_cell {w : World} {B : Nat} {cs : Array Value} {t : TypeId} (h : w.heap[B]? = some (.cells cs t)) (i : Nat) : w.cell? ⟨B, i, none⟩ = cs[i]? := by
  simp [World.cell?, h]
theorem heap_frozen {w : World} {B : Nat} {cs : Array Value} {t : TypeId} (h : w.heap[B]? = some (.cells cs t)) (i : Nat) : w.frozen? ⟨B, i, none⟩ = false := by
  simp [World.frozen?, h]
theorem heap_setCell {w : World} {B : Nat} {cs : Array Value} {t : TypeId} (h : w.heap[B]? = some (.cells cs t)) (i : Nat) (v : Value) : (w.setCell ⟨B, i, none⟩ v).heap[B]? = some (.cells (cs.setIfInBounds i v) t) := by
  simp [World.setCell, Array.getElem?_modify, h]
end Go.Proofs.Ytknjdkgemkmoeaa
