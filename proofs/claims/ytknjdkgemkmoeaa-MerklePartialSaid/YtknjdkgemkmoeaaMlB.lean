/- Iterators that ask back: the contract 'GivesQ', the loop over such a value; the way from a leaf to the root. -/
import Derived.Test.YtknjdkgemkmoeaaMlA
import Derived.Test.YtknjdkgemkmoeaaIter
import Derived.Deep.LoopGhost
import Derived.Deep.DeepCutAuto
import Derived.Deep.CutBlock
import Derived.WalkLawsBesides
namespace Go.Proofs.Ytknjdkgemkmoeaa
open Go.ChangeShapes Go.WideShapes Go.ChangeAt Go.RowKit Go.Shelf
set_option linter.unusedSimpArgs false
set_option linter.unusedVariables false
attribute [local go_sem] Oper.semAt_some

/-- From w on the value (g, lb) hands over N elements in their order; S: the old blocks that it leans on; Qb k: what it asks back behind the k-th. -/
def GivesQ (P : Program) (g : Nat) (lb : Array Value) (enc : Nat → Array Value) (N : Nat) (S : Nat → Prop) (Qb : Nat → World → Prop) (w : World) : Prop :=
  ∀ (l : Nat) (J Jx : Nat → World → Prop) (W : World), Below w.heap.size w W → Steady (fun r => W.heap.size ≤ r) J → Steady (fun r => W.heap.size ≤ r) Jx →
    (∀ k W1, k < N → J (k + 1) W1 → Qb k W1) →
    (∀ k W1, k < N → W.heap.size ≤ W1.heap.size → J k W1 → YieldAt Fence.wide 7 P l (enc k) W1 fun e W' =>
      KeepOn (fun r => S r ∨ W.heap.size ≤ r) W1 W' ∧ ((e = .returned (.bool true) ∧ J (k + 1) W') ∨ (e = .returned (.bool false) ∧ Jx k W'))) →
    J 0 W →
    Calls P g (#[.func (.yield l) #[] #[]] ++ lb) W fun e W' => (∃ v, e = .returned v) ∧ (J N W' ∨ ∃ k, k < N ∧ Jx k W')

/-- A loop over such a value: all that is new is the iterator's own; what the rounds' record says serves the iterator's questions. -/
theorem range_givesQ {P : Program} {g : Operand} {ps : Array Tmp} {assign body : Code} {Q : Exit → Act → World → Prop} {a : Act} {w : World} {gf : Nat} {lb : Array Value} {enc : Nat → Array Value} {N : Nat} {S : Nat → Prop} {Qb : Nat → World → Prop} {w0 : World}
    (hg : a.eval g = .func (.func gf) #[] lb) (eg : ∀ args w, (callFunc gf args).run P w = .ok (.enter gf args) w) (hseq : GivesQ P gf lb enc N S Qb w0) (hb0 : Below w0.heap.size w0 w) (hS : ∀ r, S r → r < w0.heap.size) (hps : ∀ k, (enc k).size = ps.size)
    (I Ix : Nat → World → Prop) (hI : Steady (fun r => w.heap.size ≤ r) I) (hIx : Steady (fun r => w.heap.size ≤ r) Ix) (h0 : I 0 w) (hQ : ∀ k W, k < N → I (k + 1) W → Qb k W)
    (hround : ∀ (l k : Nat) (W : World), k < N → w.heap.size + 2 ≤ W.heap.size → I k W → assign.wpIn (Fence.wide.inRound l) 7 P
      (Exit.then (fun a' Wa => KeepOn (fun r => S r ∨ w.heap.size ≤ r) W Wa ∧ ∀ V, Turned (fun r => w.heap.size ≤ r ∧ r < w.heap.size + 2) Wa V →
        body.wpIn (Fence.wide.inRound l) 7 P (itPost (fun r => S r ∨ w.heap.size ≤ r) I Ix k V) a' V) (fun _ _ _ => False)) { tmps := (ps.zip (enc k)).foldl (fun t (p, v) => t.setIfInBounds p v) a.tmps, defers := [] } W)
    (hdone : ∀ (D : Nat) (W : World), w.heap.size = D → I N W → W.heap[D]? = some (.deferred (some [])) → Q .normal { a with defers := { target := .collected D, args := #[] } :: a.defers } W)
    (hstop : ∀ (D k : Nat) (W : World), w.heap.size = D → k < N → Ix k W → W.heap[D]? = some (.deferred (some [])) → Code.ret.wpIn Fence.wide 9 P Q { a with defers := { target := .collected D, args := #[] } :: a.defers } W) :
    (Code.rangeFunc g ps assign body).wpIn Fence.wide 9 P Q a w := by
  refine wpIn_rangeFunc ?_
  intro fn hfn
  obtain ⟨rec, hrec⟩ : ∃ rec : LoopState → Option Code → Loop, rec = fun st pe => { state := st, pending := pe, fn, tmps := a.tmps, params := ps, assign, body, defers := w.heap.size } := ⟨_, rfl⟩
  obtain ⟨V, hV⟩ : ∃ V, (w.alloc (.deferred (some []))).alloc (.loop (rec .ready none)) = V := ⟨_, rfl⟩
  have hzV : V.heap.size = w.heap.size + 2 := by rw [← hV]; simp
  have hbV : Below w.heap.size w V := by rw [← hV]; exact ((Below.refl _ w).alloc (Nat.le_refl _) _).alloc (by simp) _
  have hL : V.heap[w.heap.size + 1]? = some (.loop (rec .ready none)) := by
    rw [← hV]; have := World.alloc_heap_new (w.alloc (.deferred (some []))) (.loop (rec .ready none)); rwa [World.size_alloc] at this
  have hD : V.heap[w.heap.size]? = some (.deferred (some [])) := by
    rw [← hV]; exact (Below.heap_alloc _ _ _ (by simp)).trans (World.alloc_heap_new w _)
  have hS' : ∀ {r}, S r → r < w.heap.size := fun h => Nat.lt_of_lt_of_le (hS _ h) hb0.size
  have hTV : ∀ {row : Option Nat}, (∀ r, row = some r → V.heap.size ≤ r) → ∀ r, row = some r → w.heap.size ≤ r := fun h r e => by have := h r e; omega
  refine ⟨w.heap.size + 1, [{ target := .collected w.heap.size, args := #[] }], V, { target := .fn (.func gf) lb, args := #[.func (.yield (w.heap.size + 1)) #[] #[]] }, V, gf,
    #[.func (.yield (w.heap.size + 1)) #[] #[]] ++ lb, V, ?_, ?_, ?_, ?_, fun _ => by omega, ?_⟩
  · rw [← hV, hrec]; exact run_enterLoop_outer _ _ _ _ _
  · simp only [resolve, hg]
    simp [go_sem]
  · intro f' _; trivial
  · simp [invoke, go_sem, eg]
  refine callsIn_wide.2 ((hseq (w.heap.size + 1)
    (fun k W => I k W ∧ W.heap[w.heap.size + 1]? = some (.loop (rec .ready none)) ∧ W.heap[w.heap.size]? = some (.deferred (some [])))
    (fun k W => Ix k W ∧ W.heap[w.heap.size + 1]? = some (.loop (rec .done (some .ret))) ∧ W.heap[w.heap.size]? = some (.deferred (some [])))
    V (hb0.trans (hbV.mono hb0.size))
    (Steady.and (hI.mono fun r h => by omega) (Steady.and (steady_block (o := fun _ => .loop (rec .ready none)) (by omega)) (steady_block (o := fun _ => .deferred (some [])) (by omega))))
    (Steady.and (hIx.mono fun r h => by omega) (Steady.and (steady_block (o := fun _ => .loop (rec .done (some .ret))) (by omega)) (steady_block (o := fun _ => .deferred (some [])) (by omega))))
    (fun k W hk h => hQ k W hk h.1) ?_ ⟨hI.below h0 hbV, hL, hD⟩).mono ?_)
  · rintro k W hk hsz ⟨hi, hl, hd⟩
    have hy := run_yield (P := P) (args := enc k) hl (by rw [hrec]; exact hps k)
    rw [hrec] at hy
    refine ⟨fn, _, assign, body, hy, roundIn_of_wpIn hfn (wpIn_mono (hround _ k W hk (by omega) hi) ?_)⟩
    clear hy
    intro e a' Wa hp
    cases e with
    | normal =>
      obtain ⟨hka, hm⟩ := hp
      have hla := hka.at hl (.inr (by omega))
      have hda := hka.at hd (.inr (by omega))
      refine ⟨_, run_beginRound hla (by rw [hrec]), ?_⟩
      have hlt := (Array.getElem?_eq_some_iff.1 hla).1
      have hl2 : (Wa.putObj (w.heap.size + 1) (.loop { rec .ready none with state := .busy })).heap[w.heap.size + 1]? = some (.loop { rec .ready none with state := .busy }) := World.putObj_heap_same hlt
      have hd2 : (Wa.putObj (w.heap.size + 1) (.loop { rec .ready none with state := .busy })).heap[w.heap.size]? = some (.deferred (some [])) := (World.putObj_heap_other (by omega)).trans hda
      refine wpIn_mono (hm _ ⟨w.heap.size + 1, ⟨Nat.le_succ _, Nat.lt_succ_self _⟩, grownBy_putObj' Wa (w.heap.size + 1) (.loop { rec .ready none with state := .busy })⟩) ?_
      have fin : ∀ (jump : Option Code) (W3 : World), KeepOn (fun r => S r ∨ w.heap.size ≤ r) (Wa.putObj (w.heap.size + 1) (.loop { rec .ready none with state := .busy })) W3 →
          (Instr.endRound (w.heap.size + 1) jump).run P W3 = .ok (.bool jump.isNone) (W3.putObj (w.heap.size + 1) (.loop (rec (if jump.isNone then .ready else .done) jump))) ∧
          (W3.putObj (w.heap.size + 1) (.loop (rec (if jump.isNone then .ready else .done) jump))).heap[w.heap.size + 1]? = some (.loop (rec (if jump.isNone then .ready else .done) jump)) ∧
          (W3.putObj (w.heap.size + 1) (.loop (rec (if jump.isNone then .ready else .done) jump))).heap[w.heap.size]? = some (.deferred (some [])) ∧
          KeepOn (fun r => S r ∨ V.heap.size ≤ r) W (W3.putObj (w.heap.size + 1) (.loop (rec (if jump.isNone then .ready else .done) jump))) := fun jump W3 hk3 => by
        have hl3 := hk3.at hl2 (.inr (by omega))
        have hd3 := hk3.at hd2 (.inr (by omega))
        have hno : ¬ (S (w.heap.size + 1) ∨ V.heap.size ≤ w.heap.size + 1) := by
          rintro (h | h)
          · have := hS' h; omega
          · omega
        have hsub : ∀ r, (S r ∨ V.heap.size ≤ r) → (S r ∨ w.heap.size ≤ r) := fun r h => h.imp_right fun h => by omega
        have hkeep := ((hka.mono hsub).trans (KeepOn.putObj (.loop { rec .ready none with state := .busy }) hno)).trans ((hk3.mono hsub).trans (KeepOn.putObj (.loop (rec (if jump.isNone then .ready else .done) jump)) hno))
        refine ⟨?_, World.putObj_heap_same (Array.getElem?_eq_some_iff.1 hl3).1, (World.putObj_heap_other (by omega)).trans hd3, hkeep⟩
        have := run_endRound (P := P) jump hl3
        rw [hrec] at this ⊢
        exact this
      rintro e a3 W3 hp
      cases e with
      | normal =>
        obtain ⟨hk3, hi3⟩ := hp
        obtain ⟨hr, hl4, hd4, hkeep⟩ := fin none W3 hk3
        exact ⟨_, _, hr, hkeep, .inl ⟨rfl, hI _ _ _ _ hi3 (grownBy_putObj' W3 _ _) (fun r e => by cases e; omega), hl4, hd4⟩⟩
      | ret =>
        obtain ⟨hk3, hi3⟩ := hp
        obtain ⟨hr, hl4, hd4, hkeep⟩ := fin (some .ret) W3 hk3
        exact ⟨_, _, hr, hkeep, .inr ⟨rfl, hIx _ _ _ _ hi3 (grownBy_putObj' W3 _ _) (fun r e => by cases e; omega), hl4, hd4⟩⟩
      | exit id => exact hp.elim
      | goto t => exact hp.elim
      | panic ch => exact hp.elim
      | outgrown => exact hp.elim
    | exit id => exact hp.elim
    | goto t => exact hp.elim
    | ret => exact hp.elim
    | panic ch => exact hp.elim
    | outgrown => exact hp.elim
  · rintro e W2 ⟨⟨v, rfl⟩, (⟨hi, hl, hd⟩ | ⟨k, hk, hi, hl, hd⟩)⟩
    · exact ⟨none, _, by have := run_endLoop (P := P) hl (by rw [hrec]; simp); rw [hrec] at this; exact this,
        hdone _ _ rfl (hI _ _ _ _ hi (grownBy_putObj' W2 _ _) (fun r e => by cases e; omega)) ((World.putObj_heap_other (by omega)).trans hd)⟩
    · exact ⟨some .ret, _, by have := run_endLoop (P := P) hl (by rw [hrec]; simp); rw [hrec] at this; exact this,
        hstop _ k _ rfl hk (hIx _ _ _ _ hi (grownBy_putObj' W2 _ _) (fun r e => by cases e; omega)) ((World.putObj_heap_other (by omega)).trans hd)⟩

section
variable {P : Program} {Q : Exit → Act → World → Prop} {n l : Nat}
/-- In a round: reads and calls that make memory, then a forced tail. -/
theorem round_tail {id : Nat} {a : Act} {w : World} {r : List Oper} (m : Nat) (hm : P.follows .mixedOrders = true) (hB : Region.lexTailB .any r.toArray m = true) (hnd : noDefer r.toArray = true) (hl : ∀ a w, ¬ Q .outgrown a w)
    (h : ∀ W, Kept w W → wpQuiet P r.toArray (fun w' => ∃ x, w' = over W x) (fun a' => ∀ w', (∃ x, w' = over W x) → wpList P r.toArray Q (r.drop m) a' w') (r.take m) a) : (Code.region id r.toArray true).wpIn (Fence.wide.inRound l) n P Q a w :=
  round_region hm hnd hl (any_head (C := fun w' => ∃ x, w' = over w x) m hB ⟨{ w with drawn := w.drawn + 1 }, (over_of (Below.refl _ _).drew).symm⟩ (h w (kept_self w)))
end

/-! ## The way up -/
theorem path_any (i h : Int) (w : World) : Calls Try.prog 58 #[.int .i64 i, .int .i64 h] w fun e w' =>
    e = .returned (.func (.func 87) #[] #[.pointer (some ⟨w.heap.size + 1, 0, none⟩), .pointer (some ⟨w.heap.size, 0, none⟩)]) ∧ w' = (w.alloc (.cells #[.int .i64 i] 3)).alloc (.cells #[.int .i64 h] 3) := by
  go_enter Try.func58, Try.ntmps58
  go_wp2
  go_ret
  exact ⟨rfl, rfl⟩
theorem div_nat (i k : Nat) : ((i / 2 ^ k : Nat) : Int) = (i : Int) / 2 ^ k := by push_cast; rfl

/-- What a round is handed: the k-th node on the way. -/
def plE (i k : Nat) : Array Value := #[.agg #[.int .i64 (k : Nat), .int .i64 (i / 2 ^ k : Nat)]]

set_option maxHeartbeats 4000000 in
set_option maxRecDepth 100000 in
theorem path_gives (i h bi bh : Nat) (S : Nat → Prop) (w : World) (ci : w.cell? ⟨bi, 0, none⟩ = some (.int .i64 (i : Nat))) (ch : w.cell? ⟨bh, 0, none⟩ = some (.int .i64 (h : Nat))) (hSi : S bi) (hi : i < 1000000) (hh : h ≤ 60) :
    Gives Try.prog 87 #[.pointer (some ⟨bh, 0, none⟩), .pointer (some ⟨bi, 0, none⟩)] (plE i) h 0 S w := by
  intro l J Jx W hW hJ hJx hY h0
  have ciW := carry hW ci
  have chW := carry hW ch
  have hY' : ∀ (k : Nat) (W1 : World), k < h → KeepOn S W W1 → J k W1 → YieldAt Fence.wide 7 Try.prog l #[.agg #[.int .i64 (k : Nat), .int .i64 (i / 2 ^ k : Nat)]] W1 fun e W' => KeepOn S W1 W' ∧ ((e = .returned (.bool true) ∧ J (k + 1) W') ∨ (e = .returned (.bool false) ∧ Jx k W')) :=
    fun k W1 hk hkp hj => by
      obtain ⟨fn, tmps, assign, body, hy, hR⟩ := hY k W1 hk (by have := hkp.size; omega) hj
      exact ⟨fn, tmps, assign, body, hy, hR.mono fun e w' ⟨h1, h2⟩ => ⟨h1.mono fun r h => .inl h, h2⟩⟩
  have hF := Lib.hid hY'
  have hJE := Lib.hid hJ
  clear hW hY hY' hJ hJx ci ch
  refine (callsIn_wide (n := 8)).1 (callsIn_of_wp Try.func87 rfl trivial ?_ rfl)
  simp only [Try.ntmps87, List.size_toArray, List.length_cons, List.length_nil, Nat.reduceAdd, Nat.reduceSub, Array.replicate_succ, Array.replicate_zero, List.push_toArray, List.append_toArray, List.nil_append, List.cons_append]
  gi_wp2
  gi_loopw [6] (fun i wr => ∃ k : Nat, k ≤ h ∧ i = .int .i64 (k : Nat) ∧ J k wr ∧ KeepOn S W wr) (fun i _ => h - (intOf i).toNat)
  case atStart => exact ⟨0, Nat.zero_le _, rfl, h0, KeepOn.refl _ _⟩
  case round =>
    obtain ⟨k, hk, rfl, hJk, hkk⟩ := hrel
    have hJk' := Lib.hid hJk
    have hkk' := Lib.hid hkk
    have cb := hkk.cell ciW hSi
    clear hJk hkk
    by_cases hkn : k < h
    · obtain ⟨fn, tmps, assign, body, hy, hR⟩ := hF.out k wr hkn hkk'.out hJk'.out
      rw [div_nat] at hy
      gi_wp2
      refine hR.mono ?_
      rintro e W3 ⟨hk3, ⟨rfl, hJ3⟩ | ⟨rfl, hJx3⟩⟩
      · gi_wp2
        go_roundw
        case rel => exact ⟨k + 1, hkn, by go_num, hJ3, hkk'.out.trans hk3⟩
        case measure => simp [intOf]; omega
      · gi_wp2
        refine bodyPost_ret (results_none rfl _ _ _) rfl ?_
        exact ⟨⟨_, rfl⟩, .inr ⟨_, hkn, hJx3⟩⟩
    · obtain rfl : k = h := by omega
      gi_wp2
      go_end0
      exact ⟨⟨_, rfl⟩, .inl hJk'.out⟩
end Go.Proofs.Ytknjdkgemkmoeaa
