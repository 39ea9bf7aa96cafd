/- For every law: what it owes at its end when it has only made new blocks; an argument that is an array of ints. -/
import Derived.Test.YtknjdkgemkmoeaaRows
import Derived.WalkKit
import Derived.ProofKit
import Derived.Below
import Derived.ChangeSame
import Derived.OpenShut
import Derived.DataShut
namespace Go.Proofs.Ytknjdkgemkmoeaa
open Go.ChangeShapes Go.WideShapes Go.ChangeAt Go.RowKit

theorem list1 {α : Type} {l : List α} (h : l.length = 1) : ∃ x0, l = [x0] := by
  match l, h with
  | [x0], _ => exact ⟨x0, rfl⟩
theorem list2 {α : Type} {l : List α} (h : l.length = 2) : ∃ x0 x1, l = [x0, x1] := by
  match l, h with
  | [x0, x1], _ => exact ⟨x0, x1, rfl⟩
theorem list3 {α : Type} {l : List α} (h : l.length = 3) : ∃ x0 x1 x2, l = [x0, x1, x2] := by
  match l, h with
  | [x0, x1, x2], _ => exact ⟨x0, x1, x2, rfl⟩
theorem list4 {α : Type} {l : List α} (h : l.length = 4) : ∃ x0 x1 x2 x3, l = [x0, x1, x2, x3] := by
  match l, h with
  | [x0, x1, x2, x3], _ => exact ⟨x0, x1, x2, x3, rfl⟩
theorem list5 {α : Type} {l : List α} (h : l.length = 5) : ∃ x0 x1 x2 x3 x4, l = [x0, x1, x2, x3, x4] := by
  match l, h with
  | [x0, x1, x2, x3, x4], _ => exact ⟨x0, x1, x2, x3, x4, rfl⟩
theorem list6 {α : Type} {l : List α} (h : l.length = 6) : ∃ x0 x1 x2 x3 x4 x5, l = [x0, x1, x2, x3, x4, x5] := by
  match l, h with
  | [x0, x1, x2, x3, x4, x5], _ => exact ⟨x0, x1, x2, x3, x4, x5, rfl⟩
theorem list7 {α : Type} {l : List α} (h : l.length = 7) : ∃ x0 x1 x2 x3 x4 x5 x6, l = [x0, x1, x2, x3, x4, x5, x6] := by
  match l, h with
  | [x0, x1, x2, x3, x4, x5, x6], _ => exact ⟨x0, x1, x2, x3, x4, x5, x6, rfl⟩
theorem list8 {α : Type} {l : List α} (h : l.length = 8) : ∃ x0 x1 x2 x3 x4 x5 x6 x7, l = [x0, x1, x2, x3, x4, x5, x6, x7] := by
  match l, h with
  | [x0, x1, x2, x3, x4, x5, x6, x7], _ => exact ⟨x0, x1, x2, x3, x4, x5, x6, x7, rfl⟩

/-- A cell that was known is known behind whatever makes new blocks alone. -/
theorem carry {w w' : World} (hb : Below w.heap.size w w') {a : Addr} {v : Value} (h : w.cell? a = some v) : w'.cell? a = some v := by
  rw [hb.cell (block_lt_of_cell h)]; exact h
theorem heap_alloc_at (w : World) (o : Obj) (k : Nat) : (w.alloc o).heap[k]? = if k = w.heap.size then some o else w.heap[k]? := by
  split
  · rename_i h; subst h; exact (MapKept.heap_alloc w o).1
  · rename_i h
    rcases Nat.lt_or_ge k w.heap.size with h1 | h1
    · exact Below.heap_alloc _ _ _ h1
    · have h2 : (w.alloc o).heap.size ≤ k := by rw [World.size_alloc]; omega
      rw [Array.getElem?_eq_none h2, Array.getElem?_eq_none h1]
theorem alloc_below (w : World) (o : Obj) : Below w.heap.size w (w.alloc o) := (Below.refl _ _).alloc (Nat.le_refl _) _

section
variable {H : Type} {enc : TypeId × Value → H} {P : Program}

theorem kept_post {f : Func} {s : ChangeSpec} {apart fresh handsOn again : Bool} {W W' : World} {args : Array Value} {v : Value} {ds gs : List (DataW H)} {pa : List MemPlace}
    (hW : DataW.Whole enc P f.params.toList s.vars apart W args.toList ds gs pa)
    (hres : ∀ (b : Nat) (sp : Nat → Bool) (hd : Bool), DataW.TrodAll enc P W' b sp hd f.resultTypes.toList (v.resultList f.resultTypes.size) (s.fn H (ds ++ gs)).results [])
    (hargs : ∀ sp : Nat → Bool, (∀ p ∈ pa, sp p.block = true) → DataW.TrodAll enc P W' 0 sp true f.params.toList args.toList (s.fn H (ds ++ gs)).args pa)
    (hvars : ∀ sp : Nat → Bool, DataW.TrodVars enc P W' sp s.vars (s.fn H (ds ++ gs)).vars []) (hb : Below W.heap.size W W')
    (hok : ∀ (j : Nat) (t : TypeId) (r : Value), f.resultTypes[j]? = some t → (v.resultList f.resultTypes.size)[j]? = some r → Value.okWide P W' .any 0 t r) :
    s.post enc P f apart fresh handsOn again W args v W' := by
  have old : ∀ p ∈ pa, p.block < W.heap.size := fun p hp => hW.lt p hp
  have hsp : ∀ p ∈ pa, decide (p.block < W.heap.size) = true := fun p hp => decide_eq_true (old p hp)
  refine ⟨ds, gs, pa, [], pa, [], hW, hres _ _ _, hargs _ hsp, hvars _, World.keptBut_mono (fun p hp => ⟨hp, Or.inr (Or.inl hp)⟩) (hb.frame (· ∈ pa)), fun _ => ?_⟩
  obtain ⟨_, _, _, _, _, hfz, hnd⟩ := hW
  refine ⟨hok, _, _, ([] ++ pa) ++ [], ⟨[] ++ pa, [], trodAll_append (hargs _ (fun _ _ => rfl)) (hres _ _ _), hvars _, rfl, ?_, ?_⟩, ?_⟩
  · intro b off hp
    have hp' : MemPlace.cell b off ∈ pa := by simpa using hp
    rw [hb.frozen (old _ hp')]
    exact hfz b off hp'
  · intro ha; simpa using hnd ha
  · intro p hp _; simpa using hp

theorem cells_of_each : ∀ (cs : List Value) (xs : List (DataW H × List MemPlace)), xs.length = cs.length →
    (∀ i, i < cs.length → ∃ z : Int, cs[i]? = some (.int .i64 z) ∧ xs[i]? = some (.lit (.int .i64 z), []) ∧ (Lit.int .i64 z).wf = true) →
    ∃ zs : List Int, cs = zs.map (Value.int .i64) ∧ xs = zs.map (fun z => (.lit (.int .i64 z), [])) ∧ ∀ z ∈ zs, (Lit.int .i64 z).wf = true
  | [], [], _, _ => ⟨[], rfl, rfl, by simp⟩
  | [], _ :: _, h, _ => by simp at h
  | _ :: _, [], h, _ => by simp at h
  | c :: cs, x :: xs, hl, h => by
    obtain ⟨z, h1, h2, h3⟩ := h 0 (by simp)
    obtain ⟨zs, rfl, rfl, h4⟩ := cells_of_each cs xs (by simpa using hl) (fun i hi => by simpa using h (i + 1) (by simpa using hi))
    simp only [List.getElem?_cons_zero, Option.some.injEq] at h1 h2
    subst h1 h2
    exact ⟨z :: zs, rfl, rfl, fun y hy => (List.mem_cons.1 hy).elim (fun e => e ▸ h3) (h4 y)⟩

theorem open_arr {w : World} {base : Nat} {sp : Nat → Bool} {held : Bool} {r : Reach} {b0 : Nat} {t e : TypeId} {n : Nat} {v : Value} {d : DataW H} {p : List MemPlace}
    (ht : P.underlying t = some (.array n e)) (he : P.underlying e = some (.int .i64)) (hc : P.cellsOf t = n) (hc1 : P.cellsOf e = 1)
    (hv : Value.okWide P w r b0 t v) (h : DataW.Trod enc P w base sp held t v d p) :
    ∃ zs : List Int, zs.length = n ∧ v = .agg (zs.map (Value.int .i64)).toArray ∧ d = .agg (zs.map fun z => .lit (.int .i64 z)) ∧ p = [] ∧ ∀ z ∈ zs, (Lit.int .i64 z).wf = true := by
  simp only [Value.okWide, ht] at hv
  obtain ⟨⟨cs⟩, rfl, hsz, _⟩ := hv
  obtain ⟨fuel, hf⟩ := h
  obtain ⟨xs, m, rfl, hx, hl, hlx, hel⟩ := DataW.trod_array ht hf
  simp only [Value.cells] at hl hel
  have hlen : cs.length = n := by simpa [hc] using hsz
  obtain ⟨zs, rfl, rfl, hw⟩ := cells_of_each cs xs (by omega) (fun i hi => by
    have h1 := hel i (by omega)
    rw [hc1, Nat.mul_one] at h1
    have h2 : (cs.drop i).take 1 = [cs[i]] := by rw [List.drop_eq_getElem_cons hi]; rfl
    rw [h2] at h1
    have hxi : xs[i]? = some (xs[i]'(by omega)) := List.getElem?_eq_getElem (by omega)
    rw [hxi] at h1
    obtain ⟨z, e1, e2, e3⟩ := DataW.trod_int he h1
    simp only [List.cons.injEq, and_true] at e1
    exact ⟨z, by rw [List.getElem?_eq_getElem hi, e1], by rw [hxi, e2], e3⟩)
  simp only [Prod.mk.injEq] at hx
  obtain ⟨rfl, rfl⟩ := hx
  refine ⟨zs, by simpa using hlen, rfl, by simp [List.map_map, Function.comp_def], ?_, hw⟩
  induction zs with
  | nil => rfl
  | cons a l ih => simp

theorem shut_arr {w : World} {base : Nat} {sp : Nat → Bool} {held : Bool} {t e : TypeId} {n : Nat} {zs : List Int}
    (ht : P.underlying t = some (.array n e)) (he : P.underlying e = some (.int .i64)) (hc : P.cellsOf t = n) (hc1 : P.cellsOf e = 1) (hl : zs.length = n) (hw : ∀ z ∈ zs, (Lit.int .i64 z).wf = true) :
    DataW.Trod enc P w base sp held t (.agg (zs.map (Value.int .i64)).toArray) (.agg (zs.map fun z => .lit (.int .i64 z))) [] := by
  refine ⟨2, ?_⟩
  show DataW.trod enc P w base sp held 2 t (zs.map (Value.int .i64)) = _
  have hm : (List.range n).mapM (fun i => DataW.trod enc P w base sp held 1 e (((zs.map (Value.int .i64)).drop (i * P.cellsOf e)).take (P.cellsOf e))) = some (zs.map fun z => ((.lit (.int .i64 z) : DataW H), ([] : List MemPlace))) := by
    refine mapM_some_of_get _ _ (by simpa using hl) (fun i x hx => ?_)
    have hi : i < n := by
      have := (List.getElem?_eq_some_iff.1 hx).1
      simpa using this
    obtain rfl : i = x := by simpa [List.getElem?_range hi] using hx
    rw [hc1, Nat.mul_one]
    have h2 : ((zs.map (Value.int .i64)).drop i).take 1 = [.int .i64 (zs[i]'(by omega))] := by
      rw [List.drop_eq_getElem_cons (by simp; omega)]; simp
    rw [h2]
    simp [DataW.trod, he, hw _ (List.getElem_mem _), List.getElem?_eq_getElem (show i < zs.length by omega)]
  unfold DataW.trod
  rw [ht]
  simp only
  rw [if_pos (by simp [hl, hc]), hm]
  simp only [Option.map_some, List.map_map, Function.comp_def, Option.some.injEq, Prod.mk.injEq, true_and]
  clear hm hw hl
  induction zs with
  | nil => rfl
  | cons a l ih => simp
end
end Go.Proofs.Ytknjdkgemkmoeaa
