/- The body of a loop over an iterator: what holds of a region outside holds of it in a round, if it defers nothing; regions there whose callees make memory. -/
import Derived.Test.YtknjdkgemkmoeaaMade
import Derived.Test.YtknjdkgemkmoeaaMadeTail
import Derived.RangeFuncNested
import Derived.RangeFuncBound
import Derived.RangeFuncCalls
import Derived.RangeFuncLeaves
import Derived.Shelf.Abstract
import Derived.Shelf.RegionOpen
import Derived.WalkKit
import Derived.OwnWalkIn
import Derived.TacticsInMore
import Derived.LoopNIn
import Derived.LoopIn
namespace Go.Proofs.Ytknjdkgemkmoeaa
open Go.RowKit

def noDefer (ops : Array Oper) : Bool := ops.toList.all fun o => match o.op with | .defer _ => false | _ => true
theorem noDefer_spec {ops : Array Oper} (h : noDefer ops = true) {i : Nat} {o : Oper} (hi : ops[i]? = some o) : ∀ c, o.op ≠ .defer c := by
  intro c e
  have := List.all_eq_true.1 h o (by rw [Array.mem_toList_iff]; exact Array.mem_of_getElem? hi)
  rw [e] at this
  cases this

section
variable {P : Program} {ops : Array Oper} {md : Region.Mode} {Q : Exit → Act → World → Prop} {n l : Nat}

theorem rowsIn_of {row : String} {args : Array Value} {w : World} {R : Value → World → Prop} (h : Rows P row args w R) : RowsIn (Fence.wide.inRound l) n P row args w R :=
  fun c cs _ => let ⟨v, w', r, s⟩ := h c cs; ⟨v, w', r, stepsIn_wide.2 s⟩
theorem no_depth (l m : Nat) : (Fence.wide.inRound l).depth.isSome = true → 1 ≤ m := fun h => by simp [Fence.wide, Fence.inRound] at h

theorem wpIn_of_wp {o : Oper} {a : Act} {K : Act → World → Prop} {w : World} (hd : ∀ c, o.op ≠ .defer c) (h : o.wp P a w K Q) : o.wpIn (Fence.wide.inRound l) n P a w K Q := by
  refine ⟨fun _ _ => trivial, ?_⟩
  unfold Oper.wp at h
  rw [Fence.inRound_round, Oper.semAt_some l a.eval o hd]
  generalize (execOp a.eval o).run P w = r at *
  cases r with
  | ok x w' =>
    cases x <;> simp only [Oper.upon] at h <;> simp only [Oper.uponIn]
    case value => exact h
    case skip => exact h
    case defer => exact h
    case enter => exact ⟨no_depth _ _, (callsIn_wide.2 h).inRound l⟩
    case row => exact ⟨no_depth _ _, rowsIn_of h⟩
  | halt x w' => cases x <;> simp only [Oper.upon] at h <;> simp only [Oper.uponIn]; exact h

theorem wpOpIn_of {i : Nat} {K K' : Act → World → Prop} {a : Act} {w : World} (hnd : noDefer ops = true) (hl : ∀ a w, ¬ Q .outgrown a w) (hK : ∀ a w, K a w → K' a w) (h : wpOp P ops Q i K a w) : wpOpIn (Fence.wide.inRound l) n P ops Q i K' a w := by
  refine wpOpIn_mono hK ?_
  unfold wpOp at h
  unfold wpOpIn
  split
  · rename_i ho; simpa only [ho] using h
  · rename_i o ho
    simp only [ho] at h
    split
    · rename_i hw
      simp only [hw, if_true] at h
      rcases h with h | ⟨_, a', w', h⟩
      · exact wpIn_of_wp (noDefer_spec hnd ho) h
      · exact absurd h (hl _ _)
    · rename_i hw
      simp only [hw] at h
      exact ⟨fun _ _ => trivial, h⟩

theorem wpAnyIn_of (hnd : noDefer ops = true) (hl : ∀ a w, ¬ Q .outgrown a w) : ∀ (fuel : Nat) (listed : Array Bool) (a : Act) (w : World), wpAny P md ops Q fuel listed a w → wpAnyIn (Fence.wide.inRound l) n P md ops Q fuel listed a w
  | 0, _, _, _, h => h
  | fuel + 1, _, _, _, h => ⟨h.1, fun i hi => wpOpIn_of hnd hl (fun a w => wpAnyIn_of hnd hl fuel _ a w) (h.2 i hi)⟩

theorem wpOpsIn_of (hnd : noDefer ops = true) (hl : ∀ a w, ¬ Q .outgrown a w) : ∀ (r : List Nat) (a : Act) (w : World), wpOps P ops Q r a w → wpOpsIn (Fence.wide.inRound l) n P ops Q r a w
  | [], _, _, h => h
  | i :: rest, a, w, h => by
    rw [wpOps_cons] at h
    rw [wpOpsIn_cons]
    exact wpOpIn_of hnd hl (fun a w => wpOpsIn_of hnd hl rest a w) h

/-- A region that draws its order, in a round. -/
theorem round_region {id : Nat} {a : Act} {w : World} (hm : P.follows .mixedOrders = true) (hnd : noDefer ops = true) (hl : ∀ a w, ¬ Q .outgrown a w)
    (h : wpAny P .any ops Q ops.size (Array.replicate ops.size false) a { w with drawn := w.drawn + 1 }) : (Code.region id ops true).wpIn (Fence.wide.inRound l) n P Q a w :=
  wpIn_region_any hm (wpAnyIn_of hnd hl _ _ _ _ h)

theorem any_quiet {C : World → Prop} {a : Act} {w : World} {r : List Oper} (hB : Region.lexB .any r.toArray = true) (hC : C w)
    (h : wpQuiet P r.toArray C (fun a' => ∀ w', C w' → Q .normal a' w') r a) : wpAny P .any r.toArray Q r.toArray.size (Array.replicate r.toArray.size false) a w := by
  simp only [Region.lexB, Bool.and_eq_true] at hB
  refine wpAny_of_quiet (Q := fun a' => ∀ w', C w' → Q .normal a' w') (fun _ w' hw' h => h w' hw') _ _ _ _ hC ?_
  have := wpAnyQ_lex (C := C) (md := .any) hB.1 r 0 (Array.replicate r.toArray.size false) a (by simp) (by simpa using hB.2) h
  simpa using this

theorem any_head {C : World → Prop} {a : Act} {w : World} {r : List Oper} (m : Nat) (hB : Region.lexTailB .any r.toArray m = true) (hC : C w)
    (h : wpQuiet P r.toArray C (fun a' => ∀ w', C w' → wpList P r.toArray Q (r.drop m) a' w') (r.take m) a) : wpAny P .any r.toArray Q r.toArray.size (Array.replicate r.toArray.size false) a w := by
  simp only [Region.lexTailB, Bool.and_eq_true, decide_eq_true_eq] at hB
  obtain ⟨⟨⟨⟨hsel, hn⟩, hs⟩, hc⟩, hlex⟩ := hB
  have hn' : m < r.length := by simpa using hn
  have htl : (r.take m).length = m := by simp; omega
  have hdl : (r.drop m).length = r.toArray.size - m := by simp
  have inv : HeadInv .any r.toArray m (Array.replicate r.toArray.size false) :=
    ⟨by simp, fun j oj _ hl => (by rw [getD_replicate_false] at hl; cases hl), fun t _ ht => getD_in (by simpa using ht) (getD_replicate_false _ _)⟩
  have H := HeadQ.lex (md := .any) (g := r.toArray.size - m) hsel hs hc hn (r.take m) 0 _ a (fun j hj => by
    have hj' : j < m := by rw [htl] at hj; exact hj
    simp [hj']) (by simpa using htl) inv (by rw [htl]; exact hlex) h
  have := HeadQ.any (Q := Q) (g := r.toArray.size - m) (fun ls a' w' hw hL => by
    have := wpAny_of_seq (md := .any) (Q' := Q) (r.drop m) m ls a' w' (fun j => by simp [List.getElem?_drop]) (by rw [hdl]; exact hL.1) (hL.2 w' hw)
    rwa [hdl] at this) _ _ _ _ hC H
  rwa [htl, show m + (r.toArray.size - m) = r.toArray.size by omega] at this

/-- The law of a loop over an iterator, the frame behind the assignment left to be found. -/
theorem range_law {F : Fence} {m : Nat} {α : Type} {g : Operand} {ps : Array Tmp} {assign body : Code} {a : Act} {w : World} (I : List α → World → Prop) (Ix : Code → List α → World → Prop)
    (hro : F.round = none) (h1 : 1 ≤ m) {gf : Nat} {lb : Array Value} (hg : a.eval g = .func (.func gf) #[] lb) (hFg : F.fn gf) (eg : ∀ args w, (callFunc gf args).run P w = .ok (.enter gf args) w)
    {encs : α → Array Value} {S Sp : List α → Prop} {N : Nat} (hseq : SeqStopsK F (m - 1) P gf lb encs (Below w.heap.size) S Sp N w) (hps : ∀ x, (encs x).size = ps.size)
    (hI : OwnFrom w.heap.size I) (hIx : ∀ c, OwnFrom w.heap.size (Ix c)) (h0 : I [] w)
    (h : ∃ a₁ : α → Act, (∀ (l : Nat) (x : α) (W : World) (K : Act → World → Prop), K (a₁ x) W →
      assign.wpIn (F.inRound l) (m - 1 - 1) P (Exit.then K (fun _ _ _ => False)) { tmps := (ps.zip (encs x)).foldl (fun t (p, v) => t.setIfInBounds p v) a.tmps, defers := [] } W) ∧
      (∀ (l : Nat) (pre : List α) (x : α) (W : World), I pre W → pre.length < N → body.wpIn (F.inRound l) (m - 1 - 1) P (ownPostG w.heap.size (Below w.heap.size) I Ix (pre ++ [x]) W) (a₁ x) W))
    (hdone : ∀ (D : Nat) (xs : List α) (W : World), w.heap.size ≤ D → S xs → I xs W → W.heap[D]? = some (.deferred (some [])) → Q .normal { a with defers := { target := .collected D, args := #[] } :: a.defers } W)
    (hstop : ∀ (D : Nat) (c : Code) (pre : List α) (W : World), w.heap.size ≤ D → Sp pre → Ix c pre W → W.heap[D]? = some (.deferred (some [])) → c.wpIn F m P Q { a with defers := { target := .collected D, args := #[] } :: a.defers } W) :
    (Code.rangeFunc g ps assign body).wpIn F m P Q a w := by
  obtain ⟨a₁, ha, hb⟩ := h
  exact wpIn_rangeFunc_ownG hro h1 hg hFg eg hseq belowK_t (belowK_b (Nat.le_refl _)) (Below.refl _ _) hps I Ix hI hIx h0 a₁ ha hb hdone hstop

/-- In a round: a region of reads and of calls that make memory. -/
theorem round_made {id : Nat} {a : Act} {w : World} {r : List Oper} (hm : P.follows .mixedOrders = true) (hB : Region.lexB .any r.toArray = true) (hnd : noDefer r.toArray = true) (hl : ∀ a w, ¬ Q .outgrown a w)
    (h : ∀ W, Kept w W → wpQuiet P r.toArray (fun w' => ∃ x, w' = over W x) (fun a' => ∀ w', (∃ x, w' = over W x) → Q .normal a' w') r a) : (Code.region id r.toArray true).wpIn (Fence.wide.inRound l) n P Q a w :=
  round_region hm hnd hl (any_quiet (C := fun w' => ∃ x, w' = over w x) hB ⟨{ w with drawn := w.drawn + 1 }, (over_of (Below.refl _ _).drew).symm⟩ (h w (kept_self w)))

theorem keeps_below {B : Nat} {W W' : World} (h : Below W.heap.size W W') : KeepsFrom B W W' :=
  ⟨h.size, fun k _ _ hk _ => (h.block k (Array.getElem?_eq_some_iff.1 hk).1).trans hk⟩

/-- In a round: reads, then a forced tail. -/
theorem round_reads {id : Nat} {a : Act} {w : World} {r : List Oper} (m : Nat) (hm : P.follows .mixedOrders = true) (hB : Region.lexTailB .any r.toArray m = true) (hnd : noDefer r.toArray = true) (hl : ∀ a w, ¬ Q .outgrown a w)
    (h : wpQuiet P r.toArray (fun w' => ∃ k, w' = w.drewN k) (fun a' => ∀ w', (∃ k, w' = w.drewN k) → wpList P r.toArray Q (r.drop m) a' w') (r.take m) a) : (Code.region id r.toArray true).wpIn (Fence.wide.inRound l) n P Q a w :=
  round_region hm hnd hl (any_head (C := fun w' => ∃ k, w' = w.drewN k) m hB ⟨1, rfl⟩ h)
end
end Go.Proofs.Ytknjdkgemkmoeaa
