/- Iterators over iterators: the contract 'Gives' of an iterator value that hands over N elements in their order, whatever a round does that keeps what the iterator leans on; the loop over such a value. -/
import Derived.Test.YtknjdkgemkmoeaaRound
namespace Go.Proofs.Ytknjdkgemkmoeaa
open Go.RowKit
set_option linter.unusedVariables false

/-- The blocks of S lie as they lay. -/
structure KeepOn (S : Nat → Prop) (W W' : World) : Prop where
  size : W.heap.size ≤ W'.heap.size
  same : ∀ k, S k → k < W.heap.size → W'.heap[k]? = W.heap[k]?

section
variable {S : Nat → Prop} {X Y Z : World}
theorem KeepOn.refl (S : Nat → Prop) (W : World) : KeepOn S W W := ⟨Nat.le_refl _, fun _ _ _ => rfl⟩
theorem KeepOn.trans (h : KeepOn S X Y) (k : KeepOn S Y Z) : KeepOn S X Z := ⟨Nat.le_trans h.size k.size, fun i hi hl => (k.same i hi (Nat.lt_of_lt_of_le hl h.size)).trans (h.same i hi hl)⟩
theorem KeepOn.mono {S' : Nat → Prop} (h : KeepOn S X Y) (hs : ∀ r, S' r → S r) : KeepOn S' X Y := ⟨h.size, fun i hi hl => h.same i (hs i hi) hl⟩
theorem KeepOn.below (h : Below X.heap.size X Y) : KeepOn S X Y := ⟨h.size, fun i _ hl => h.block i hl⟩
theorem KeepOn.grown {row : Option Nat} (h : X.grownBy Y row) (hr : ∀ r, row = some r → ¬ S r) : KeepOn S X Y := ⟨h.size, fun i hi hl => h.block i hl fun e => hr i e.symm hi⟩
theorem KeepOn.putObj {l : Nat} (o : Obj) (hl : ¬ S l) : KeepOn S X (X.putObj l o) := KeepOn.grown (grownBy_putObj' X l o) fun r e => by cases e; exact hl
theorem KeepOn.setCell {p : Addr} (v : Value) (hl : ¬ S p.block) : KeepOn S X (X.setCell p v) :=
  ⟨(KeepsWalks.setCell X p v).size, fun i hi _ => Below.heap_setCell _ _ _ i fun e => hl (e ▸ hi)⟩
theorem KeepOn.at (h : KeepOn S X Y) {k : Nat} {o : Obj} (hk : X.heap[k]? = some o) (hs : S k) : Y.heap[k]? = some o := (h.same k hs (Array.getElem?_eq_some_iff.1 hk).1).trans hk
theorem KeepOn.cell (h : KeepOn S X Y) {p : Addr} {v : Value} (hk : X.cell? p = some v) (hs : S p.block) : Y.cell? p = some v :=
  (World.cell?_of_block (w := X) (h.same p.block hs (block_lt_of_cell hk))).trans hk
theorem grown_of_below (h : Below X.heap.size X Y) : X.grownBy Y none := ⟨h.os, h.tape, h.output, h.size, fun k hk _ => h.block k hk⟩
end

/-- J abides new blocks, and the turn of a block of T. -/
def Steady (T : Nat → Prop) (J : Nat → World → Prop) : Prop := ∀ k A B row, J k A → A.grownBy B row → (∀ r, row = some r → T r) → J k B
theorem Steady.below {T : Nat → Prop} {J : Nat → World → Prop} (h : Steady T J) {k : Nat} {A B : World} (hj : J k A) (hb : Below A.heap.size A B) : J k B := h k A B none hj (grown_of_below hb) (fun r e => by cases e)
theorem Steady.and {T : Nat → Prop} {J J' : Nat → World → Prop} (h : Steady T J) (h' : Steady T J') : Steady T (fun k W => J k W ∧ J' k W) := fun k A B row hs hg hr => ⟨h k A B row hs.1 hg hr, h' k A B row hs.2 hg hr⟩
theorem Steady.pure (T : Nat → Prop) (p : Nat → Prop) : Steady T (fun k _ => p k) := fun _ _ _ _ hs _ _ => hs
theorem Steady.mono {T T' : Nat → Prop} {J : Nat → World → Prop} (h : Steady T J) (ht : ∀ r, T' r → T r) : Steady T' J := fun k A B row hs hg hr => h k A B row hs hg fun r e => ht r (hr r e)
theorem steady_cell {T : Nat → Prop} {a : Addr} {v : Value} (ha : ¬ T a.block) : Steady T (fun _ W => W.cell? a = some v) := fun k A B row hs hg hr =>
  (World.cell?_of_block (w := A) (hg.block a.block (block_lt_of_cell hs) fun e => ha (hr _ e.symm))).trans hs
theorem steady_cells {T : Nat → Prop} {a : Addr} {v : Nat → Value} (ha : ¬ T a.block) : Steady T (fun k W => W.cell? a = some (v k)) := fun k A B row hs hg hr =>
  (World.cell?_of_block (w := A) (hg.block a.block (block_lt_of_cell hs) fun e => ha (hr _ e.symm))).trans hs
theorem steady_block {T : Nat → Prop} {b : Nat} {o : Nat → Obj} (ha : ¬ T b) : Steady T (fun k W => W.heap[b]? = some (o k)) := fun k A B row hs hg hr =>
  (hg.block b (Array.getElem?_eq_some_iff.1 hs).1 fun e => ha (hr _ e.symm)).trans hs
theorem steady_below {T : Nat → Prop} {n : Nat} {w : World} (hn : n ≤ w.heap.size) (ht : ∀ r, T r → n ≤ r) : Steady T (fun _ W => Below n w W) := fun k A B row hs hg hr =>
  hs.grown hg (Nat.le_trans hn hs.size) fun r e => ht r (hr r e)

/-- From w on the value (g, lb) hands over N elements in their order; c: how many blocks it makes ahead of the first; S: the old blocks that it leans on. -/
def Gives (P : Program) (g : Nat) (lb : Array Value) (enc : Nat → Array Value) (N c : Nat) (S : Nat → Prop) (w : World) : Prop :=
  ∀ (l : Nat) (J Jx : Nat → World → Prop) (W : World), Below w.heap.size w W → Steady (fun r => W.heap.size ≤ r ∧ r < W.heap.size + c) J → Steady (fun r => W.heap.size ≤ r ∧ r < W.heap.size + c) Jx →
    (∀ k W1, k < N → W.heap.size + c ≤ W1.heap.size → J k W1 → YieldAt Fence.wide 7 P l (enc k) W1 fun e W' =>
      KeepOn (fun r => S r ∨ (W.heap.size ≤ r ∧ r < W.heap.size + c)) W1 W' ∧ ((e = .returned (.bool true) ∧ J (k + 1) W') ∨ (e = .returned (.bool false) ∧ Jx k W'))) →
    J 0 W →
    Calls P g (#[.func (.yield l) #[] #[]] ++ lb) W fun e W' => (∃ v, e = .returned v) ∧ (J N W' ∨ ∃ k, k < N ∧ Jx k W')

/-- How the body of a round may be left. -/
def itPost (S : Nat → Prop) (I Ix : Nat → World → Prop) (k : Nat) (W : World) : Exit → Act → World → Prop
  | .normal, _, W' => KeepOn S W W' ∧ I (k + 1) W'
  | .ret, _, W' => KeepOn S W W' ∧ Ix k W'
  | _, _, _ => False

theorem RoundIn.any {F : Fence} (hd : F.depth = none) {m m' : Nat} {P : Program} {l : Nat} {f : FuncId} {tmps : Array Value} {assign body : Code} {w : World} {R : Ending → World → Prop}
    (h : RoundIn F m P l f tmps assign body w R) : RoundIn F m' P l f tmps assign body w R := ⟨h.1, fun c cs _ => h.2 c cs (by unfold Fence.room; simp [hd])⟩
theorem YieldAt.any {m m' : Nat} {P : Program} {l : Nat} {args : Array Value} {W : World} {R : Ending → World → Prop} (h : YieldAt Fence.wide m P l args W R) : YieldAt Fence.wide m' P l args W R := by
  obtain ⟨fn, tmps, assign, body, hy, hR⟩ := h
  exact ⟨fn, tmps, assign, body, hy, RoundIn.any rfl hR⟩

/-- A round of an outer loop, met in an inner one's. -/
theorem RoundIn.inner (l₁ : Nat) {m m' : Nat} {P : Program} {l : Nat} {f : FuncId} {tmps : Array Value} {assign body : Code} {w : World} {R : Ending → World → Prop}
    (h : RoundIn Fence.wide m P l f tmps assign body w R) : RoundIn (Fence.wide.inRound l₁) m' P l f tmps assign body w R :=
  (RoundIn.any rfl h : RoundIn Fence.wide m' P l f tmps assign body w R)

/-- A block of T has been turned: the loop's own record. -/
def Turned (T : Nat → Prop) (A B : World) : Prop := ∃ r, T r ∧ A.grownBy B (some r)
theorem Turned.steady {T : Nat → Prop} {J : Nat → World → Prop} (hJ : Steady T J) {A B : World} (h : Turned T A B) {k : Nat} (hj : J k A) : J k B := by
  obtain ⟨r, hr, hg⟩ := h
  exact hJ k A B _ hj hg fun r' e => by cases e; exact hr
theorem Turned.heap {T : Nat → Prop} {A B : World} (h : Turned T A B) {b : Nat} {o : Obj} (hb : A.heap[b]? = some o) (hn : ¬ T b) : B.heap[b]? = some o := by
  obtain ⟨r, hr, hg⟩ := h
  exact (hg.block b (Array.getElem?_eq_some_iff.1 hb).1 fun e => hn (by cases e; exact hr)).trans hb
theorem Turned.cell {T : Nat → Prop} {A B : World} (h : Turned T A B) {a : Addr} {v : Value} (hb : A.cell? a = some v) (hn : ¬ T a.block) : B.cell? a = some v := by
  obtain ⟨r, hr, hg⟩ := h
  exact (World.cell?_of_block (w := A) (hg.block a.block (block_lt_of_cell hb) fun e => hn (by cases e; exact hr))).trans hb
theorem Turned.size {T : Nat → Prop} {A B : World} (h : Turned T A B) : A.heap.size ≤ B.heap.size := by
  obtain ⟨r, hr, hg⟩ := h
  exact hg.size

/-- A loop over such a value. -/
theorem range_gives {P : Program} {g : Operand} {ps : Array Tmp} {assign body : Code} {Q : Exit → Act → World → Prop} {a : Act} {w : World} {gf : Nat} {lb : Array Value} {enc : Nat → Array Value} {N c : Nat} {S : Nat → Prop} {w0 : World}
    (hg : a.eval g = .func (.func gf) #[] lb) (eg : ∀ args w, (callFunc gf args).run P w = .ok (.enter gf args) w) (hseq : Gives P gf lb enc N c S w0) (hb0 : Below w0.heap.size w0 w) (hS : ∀ r, S r → r < w0.heap.size) (hps : ∀ k, (enc k).size = ps.size)
    (I Ix : Nat → World → Prop) (hI : Steady (fun r => w.heap.size ≤ r ∧ r < w.heap.size + 2 + c) I) (hIx : Steady (fun r => w.heap.size ≤ r ∧ r < w.heap.size + 2 + c) Ix) (h0 : I 0 w)
    (hround : ∀ (l k : Nat) (W : World), k < N → w.heap.size + 2 + c ≤ W.heap.size → I k W → assign.wpIn (Fence.wide.inRound l) 7 P
      (Exit.then (fun a' Wa => KeepOn (fun r => S r ∨ (w.heap.size ≤ r ∧ r < w.heap.size + 2 + c)) W Wa ∧ ∀ V, Turned (fun r => w.heap.size ≤ r ∧ r < w.heap.size + 2 + c) Wa V →
        body.wpIn (Fence.wide.inRound l) 7 P (itPost (fun r => S r ∨ (w.heap.size ≤ r ∧ r < w.heap.size + 2 + c)) I Ix k V) a' V) (fun _ _ _ => False)) { tmps := (ps.zip (enc k)).foldl (fun t (p, v) => t.setIfInBounds p v) a.tmps, defers := [] } W)
    (hdone : ∀ (D : Nat) (W : World), w.heap.size = D → I N W → W.heap[D]? = some (.deferred (some [])) → Q .normal { a with defers := { target := .collected D, args := #[] } :: a.defers } W)
    (hstop : ∀ (D k : Nat) (W : World), w.heap.size = D → k < N → Ix k W → W.heap[D]? = some (.deferred (some [])) → Code.ret.wpIn Fence.wide 9 P Q { a with defers := { target := .collected D, args := #[] } :: a.defers } W) :
    (Code.rangeFunc g ps assign body).wpIn Fence.wide 9 P Q a w := by
  refine wpIn_rangeFunc ?_
  intro fn hfn
  obtain ⟨rec, hrec⟩ : ∃ rec : LoopState → Option Code → Loop, rec = fun st pe => { state := st, pending := pe, fn, tmps := a.tmps, params := ps, assign, body, defers := w.heap.size } := ⟨_, rfl⟩
  obtain ⟨V, hV⟩ : ∃ V, (w.alloc (.deferred (some []))).alloc (.loop (rec .ready none)) = V := ⟨_, rfl⟩
  have hzV : V.heap.size = w.heap.size + 2 := by rw [← hV]; simp
  have hbV : Below w.heap.size w V := by rw [← hV]; exact ((Below.refl _ w).alloc (Nat.le_refl _) _).alloc (by simp) _
  have hL : V.heap[w.heap.size + 1]? = some (.loop (rec .ready none)) := by
    rw [← hV]; have := World.alloc_heap_new (w.alloc (.deferred (some []))) (.loop (rec .ready none)); rwa [World.size_alloc] at this
  have hD : V.heap[w.heap.size]? = some (.deferred (some [])) := by
    rw [← hV]; exact (Below.heap_alloc _ _ _ (by simp)).trans (World.alloc_heap_new w _)
  have hS' : ∀ {r}, S r → r < w.heap.size := fun h => Nat.lt_of_lt_of_le (hS _ h) hb0.size
  have hTV : ∀ {row : Option Nat}, (∀ r, row = some r → V.heap.size ≤ r ∧ r < V.heap.size + c) → ∀ r, row = some r → w.heap.size ≤ r ∧ r < w.heap.size + 2 + c := fun h r e => by have := h r e; omega
  refine ⟨w.heap.size + 1, [{ target := .collected w.heap.size, args := #[] }], V, { target := .fn (.func gf) lb, args := #[.func (.yield (w.heap.size + 1)) #[] #[]] }, V, gf,
    #[.func (.yield (w.heap.size + 1)) #[] #[]] ++ lb, V, ?_, ?_, ?_, ?_, fun _ => by omega, ?_⟩
  · rw [← hV, hrec]; exact run_enterLoop_outer _ _ _ _ _
  · simp only [resolve, hg]
    simp [go_sem]
  · intro f' _; trivial
  · simp [invoke, go_sem, eg]
  refine callsIn_wide.2 ((hseq (w.heap.size + 1)
    (fun k W => I k W ∧ W.heap[w.heap.size + 1]? = some (.loop (rec .ready none)) ∧ W.heap[w.heap.size]? = some (.deferred (some [])))
    (fun k W => Ix k W ∧ W.heap[w.heap.size + 1]? = some (.loop (rec .done (some .ret))) ∧ W.heap[w.heap.size]? = some (.deferred (some [])))
    V (hb0.trans (hbV.mono hb0.size))
    (Steady.and (hI.mono fun r h => by omega) (Steady.and (steady_block (o := fun _ => .loop (rec .ready none)) (by omega)) (steady_block (o := fun _ => .deferred (some [])) (by omega))))
    (Steady.and (hIx.mono fun r h => by omega) (Steady.and (steady_block (o := fun _ => .loop (rec .done (some .ret))) (by omega)) (steady_block (o := fun _ => .deferred (some [])) (by omega))))
    ?_ ⟨hI.below h0 hbV, hL, hD⟩).mono ?_)
  · rintro k W hk hsz ⟨hi, hl, hd⟩
    have hy := run_yield (P := P) (args := enc k) hl (by rw [hrec]; exact hps k)
    rw [hrec] at hy
    refine ⟨fn, _, assign, body, hy, roundIn_of_wpIn hfn (wpIn_mono (hround _ k W hk (by omega) hi) ?_)⟩
    clear hy
    intro e a' Wa hp
    cases e with
    | normal =>
      obtain ⟨hka, hm⟩ := hp
      have hla := hka.at hl (.inr ⟨by omega, by omega⟩)
      have hda := hka.at hd (.inr ⟨by omega, by omega⟩)
      refine ⟨_, run_beginRound hla (by rw [hrec]), ?_⟩
      have hlt := (Array.getElem?_eq_some_iff.1 hla).1
      have hl2 : (Wa.putObj (w.heap.size + 1) (.loop { rec .ready none with state := .busy })).heap[w.heap.size + 1]? = some (.loop { rec .ready none with state := .busy }) := World.putObj_heap_same hlt
      have hd2 : (Wa.putObj (w.heap.size + 1) (.loop { rec .ready none with state := .busy })).heap[w.heap.size]? = some (.deferred (some [])) := (World.putObj_heap_other (by omega)).trans hda
      refine wpIn_mono (hm _ ⟨w.heap.size + 1, by omega, grownBy_putObj' Wa (w.heap.size + 1) (.loop { rec .ready none with state := .busy })⟩) ?_
      have fin : ∀ (jump : Option Code) (W3 : World), KeepOn (fun r => S r ∨ (w.heap.size ≤ r ∧ r < w.heap.size + 2 + c)) (Wa.putObj (w.heap.size + 1) (.loop { rec .ready none with state := .busy })) W3 →
          (Instr.endRound (w.heap.size + 1) jump).run P W3 = .ok (.bool jump.isNone) (W3.putObj (w.heap.size + 1) (.loop (rec (if jump.isNone then .ready else .done) jump))) ∧
          (W3.putObj (w.heap.size + 1) (.loop (rec (if jump.isNone then .ready else .done) jump))).heap[w.heap.size + 1]? = some (.loop (rec (if jump.isNone then .ready else .done) jump)) ∧
          (W3.putObj (w.heap.size + 1) (.loop (rec (if jump.isNone then .ready else .done) jump))).heap[w.heap.size]? = some (.deferred (some [])) ∧
          KeepOn (fun r => S r ∨ (V.heap.size ≤ r ∧ r < V.heap.size + c)) W (W3.putObj (w.heap.size + 1) (.loop (rec (if jump.isNone then .ready else .done) jump))) := fun jump W3 hk3 => by
        have hl3 := hk3.at hl2 (.inr ⟨by omega, by omega⟩)
        have hd3 := hk3.at hd2 (.inr ⟨by omega, by omega⟩)
        have hno : ¬ (S (w.heap.size + 1) ∨ (V.heap.size ≤ w.heap.size + 1 ∧ w.heap.size + 1 < V.heap.size + c)) := by
          rintro (h | h)
          · have := hS' h; omega
          · omega
        have hsub : ∀ r, (S r ∨ (V.heap.size ≤ r ∧ r < V.heap.size + c)) → (S r ∨ (w.heap.size ≤ r ∧ r < w.heap.size + 2 + c)) := fun r h => h.imp_right fun h => by omega
        have hkeep := ((hka.mono hsub).trans (KeepOn.putObj (.loop { rec .ready none with state := .busy }) hno)).trans ((hk3.mono hsub).trans (KeepOn.putObj (.loop (rec (if jump.isNone then .ready else .done) jump)) hno))
        refine ⟨?_, World.putObj_heap_same (Array.getElem?_eq_some_iff.1 hl3).1, (World.putObj_heap_other (by omega)).trans hd3, hkeep⟩
        have := run_endRound (P := P) jump hl3
        rw [hrec] at this ⊢
        exact this
      rintro e a3 W3 hp
      cases e with
      | normal =>
        obtain ⟨hk3, hi3⟩ := hp
        obtain ⟨hr, hl4, hd4, hkeep⟩ := fin none W3 hk3
        exact ⟨_, _, hr, hkeep, .inl ⟨rfl, hI _ _ _ _ hi3 (grownBy_putObj' W3 _ _) (fun r e => by cases e; omega), hl4, hd4⟩⟩
      | ret =>
        obtain ⟨hk3, hi3⟩ := hp
        obtain ⟨hr, hl4, hd4, hkeep⟩ := fin (some .ret) W3 hk3
        exact ⟨_, _, hr, hkeep, .inr ⟨rfl, hIx _ _ _ _ hi3 (grownBy_putObj' W3 _ _) (fun r e => by cases e; omega), hl4, hd4⟩⟩
      | exit id => exact hp.elim
      | goto t => exact hp.elim
      | panic ch => exact hp.elim
      | outgrown => exact hp.elim
    | exit id => exact hp.elim
    | goto t => exact hp.elim
    | ret => exact hp.elim
    | panic ch => exact hp.elim
    | outgrown => exact hp.elim
  · rintro e W2 ⟨⟨v, rfl⟩, (⟨hi, hl, hd⟩ | ⟨k, hk, hi, hl, hd⟩)⟩
    · exact ⟨none, _, by have := run_endLoop (P := P) hl (by rw [hrec]; simp); rw [hrec] at this; exact this,
        hdone _ _ rfl (hI _ _ _ _ hi (grownBy_putObj' W2 _ _) (fun r e => by cases e; omega)) ((World.putObj_heap_other (by omega)).trans hd)⟩
    · exact ⟨some .ret, _, by have := run_endLoop (P := P) hl (by rw [hrec]; simp); rw [hrec] at this; exact this,
        hstop _ k _ rfl hk (hIx _ _ _ _ hi (grownBy_putObj' W2 _ _) (fun r e => by cases e; omega)) ((World.putObj_heap_other (by omega)).trans hd)⟩
end Go.Proofs.Ytknjdkgemkmoeaa
