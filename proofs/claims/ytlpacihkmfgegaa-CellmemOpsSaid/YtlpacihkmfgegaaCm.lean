/- A slice that lies in a block from an offset on: append, a store, a piece of it; an object in blocks of its own, and what is left alone beside it. -/
import Derived.Test.YtlpacihkmfgegaaLists
import Derived.Test.YtlpacihkmfgegaaMemB
import Derived.Test.YtlpacihkmfgegaaMadeAlloc
import Derived.Deep.AppendLies
import Derived.Deep.DeepCutAuto
import Derived.Deep.CutBlock
import Derived.Deep.LoopGhost
import Derived.WalkLawsBesides
import Derived.Lib.SliceRun
namespace Go.Proofs.Ytlpacihkmfgegaa
open Go.ChangeShapes Go.WideShapes Go.ChangeAt Go.RowKit
set_option linter.unusedSimpArgs false
set_option linter.unusedVariables false

/-! ## A row at an offset -/
/-- v is a slice of n elements of k cells each, the cells xs: nil, or from off on in a block that may be written, with room for cap. -/
def SRow (w : World) (e : TypeId) (k : Nat) (v : Value) (n : Nat) (xs : List Value) : Prop :=
  xs.length = n * k ∧ ((v = .slice none 0 0 ∧ n = 0) ∨ ∃ g off cap cur, v = .slice (some ⟨g, off, none⟩) n cap ∧ w.heap[g]? = some (.cells cur e (0, 0)) ∧ n ≤ cap ∧ cap ≤ maxLen ∧ off + cap * k ≤ cur.size ∧ (cur.toList.drop off).take (n * k) = xs)
theorem SRow.nil (w : World) (e : TypeId) (k : Nat) : SRow w e k (.slice none 0 0) 0 [] := ⟨by simp, .inl ⟨rfl, rfl⟩⟩
theorem SRow.owned {w : World} {base : Nat} {e : TypeId} {k : Nat} {v : Value} {n : Nat} {xs : List Value} (h : w.ownsRow base e k v n xs) : SRow w e k v n xs := by
  refine ⟨h.1, ?_⟩
  rcases h.2 with h1 | ⟨g, cap, cur, h1, _, h3, h4, h5, h6, h7⟩
  · exact .inl h1
  · exact .inr ⟨g, 0, cap, cur, h1, h3, h4, h5, by omega, by rw [List.drop_zero]; exact h7⟩
theorem SRow.grown {w w' : World} {e : TypeId} {k : Nat} {v : Value} {n : Nat} {xs : List Value} (h : SRow w e k v n xs) (hb : ∀ g, v.ownBlock = some g → g < w.heap.size → w'.heap[g]? = w.heap[g]?) : SRow w' e k v n xs := by
  refine ⟨h.1, ?_⟩
  rcases h.2 with h1 | ⟨g, off, cap, cur, rfl, h3, h4, h5, h6, h7⟩
  · exact .inl h1
  · exact .inr ⟨g, off, cap, cur, rfl, (hb g rfl (Array.getElem?_eq_some_iff.1 h3).1).trans h3, h4, h5, h6, h7⟩
theorem SRow.carry {w w' : World} {e : TypeId} {k : Nat} {v : Value} {n : Nat} {xs : List Value} (h : SRow w e k v n xs) (hb : Below w.heap.size w w') : SRow w' e k v n xs := h.grown fun g _ hg => hb.block g hg
theorem SRow.lt {w : World} {e : TypeId} {k : Nat} {v : Value} {n : Nat} {xs : List Value} (h : SRow w e k v n xs) {g : Nat} (hg : v.ownBlock = some g) : g < w.heap.size := by
  rcases h.2 with ⟨rfl, _⟩ | ⟨g', off, cap, cur, rfl, h3, _⟩
  · cases hg
  · cases hg; exact (Array.getElem?_eq_some_iff.1 h3).1
/-- The value written out; its cells, if there are any. -/
theorem SRow.shape {w : World} {e : TypeId} {k : Nat} {v : Value} {n : Nat} {xs : List Value} (h : SRow w e k v n xs) (hk : 0 < k) :
    ∃ a cap, v = .slice a n cap ∧ n ≤ cap ∧ cap ≤ maxLen ∧ (a = none → cap = 0) ∧ (0 < n → ∃ g off, a = some ⟨g, off, none⟩ ∧ g < w.heap.size ∧ ∀ (i : Nat) (u : Value), xs[i]? = some u → w.cell? ⟨g, off + i, none⟩ = some u ∧ w.frozen? ⟨g, off + i, none⟩ = false) := by
  rcases h.2 with ⟨rfl, rfl⟩ | ⟨g, off, cap, cur, rfl, h3, h4, h5, h6, h7⟩
  · exact ⟨none, 0, rfl, Nat.le_refl _, Nat.zero_le _, fun _ => rfl, fun h0 => absurd h0 (Nat.lt_irrefl 0)⟩
  · refine ⟨_, cap, rfl, h4, h5, fun h0 => (by cases h0), fun _ => ⟨g, off, rfl, (Array.getElem?_eq_some_iff.1 h3).1, fun i u hu => ⟨?_, by simp [World.frozen?, h3]⟩⟩⟩
    rw [← h7, List.getElem?_take] at hu
    split at hu
    · rw [List.getElem?_drop] at hu
      simp only [World.cell?, h3]
      simpa using hu
    · cases hu
/-- One cell is stored to. -/
theorem SRow.set {w : World} {e : TypeId} {k : Nat} {g off cap n : Nat} {xs : List Value} (h : SRow w e k (.slice (some ⟨g, off, none⟩) n cap) n xs) {i : Nat} (hi : i < n * k) (u : Value) :
    SRow (w.setCell ⟨g, off + i, none⟩ u) e k (.slice (some ⟨g, off, none⟩) n cap) n (xs.set i u) := by
  refine ⟨by rw [List.length_set]; exact h.1, ?_⟩
  rcases h.2 with ⟨h1, _⟩ | ⟨g', off', cap', cur, h2, h3, h4, h5, h6, h7⟩
  · cases h1
  · cases h2
    refine .inr ⟨g, off, cap, cur.setIfInBounds (off + i) u, rfl, heap_setCell h3 (off + i) u, h4, h5, by simpa using h6, ?_⟩
    rw [← h7]
    refine List.ext_getElem? fun j => ?_
    have hn : n * k ≤ cap * k := Nat.mul_le_mul_right _ h4
    by_cases hj : j < n * k
    · rw [List.getElem?_take, if_pos hj, List.getElem?_drop, List.getElem?_set, List.getElem?_take, if_pos hj, List.getElem?_drop]
      have e1 : (cur.setIfInBounds (off + i) u).toList[off + j]? = if off + i = off + j then some u else cur.toList[off + j]? := by
        rw [Array.getElem?_toList, Array.getElem?_setIfInBounds]
        by_cases e2 : off + i = off + j
        · rw [if_pos e2, if_pos e2, if_pos (by omega)]
        · rw [if_neg e2, if_neg e2, Array.getElem?_toList]
      rw [e1]
      by_cases e2 : i = j
      · subst e2
        rw [if_pos rfl, if_pos rfl, if_pos (by rw [List.length_take, List.length_drop, Array.length_toList]; omega)]
      · rw [if_neg e2, if_neg (by omega)]
    · rw [List.getElem?_eq_none (by rw [List.length_take]; omega), List.getElem?_eq_none (by rw [List.length_set, List.length_take]; omega)]
/-- A piece from the beginning. -/
theorem SRow.take {w : World} {e : TypeId} {k : Nat} {a : Option Addr} {n cap : Nat} {xs : List Value} (h : SRow w e k (.slice a n cap) n xs) {m : Nat} (hm : m ≤ n) : SRow w e k (.slice a m cap) m (xs.take (m * k)) := by
  have hmk : m * k ≤ n * k := Nat.mul_le_mul_right _ hm
  refine ⟨by rw [List.length_take, h.1]; omega, ?_⟩
  rcases h.2 with ⟨h1, h2⟩ | ⟨g', off', cap', cur, h2, h3, h4, h5, h6, h7⟩
  · cases h1
    obtain rfl : m = 0 := by omega
    exact .inl ⟨rfl, rfl⟩
  · cases h2
    refine .inr ⟨g', off', cap, cur, rfl, h3, by omega, h5, h6, ?_⟩
    rw [← h7, List.take_take, Nat.min_eq_left hmk]
/-- A piece to the end, as the model cuts it: the address stays where no room is left. -/
theorem SRow.drop {w : World} {e : TypeId} {k : Nat} {a : Option Addr} {n cap : Nat} {xs : List Value} (h : SRow w e k (.slice a n cap) n xs) {m : Nat} (hm : m ≤ n) :
    SRow w e k (.slice (if cap = m then a else a.map (·.add (m * k))) (n - m) (cap - m)) (n - m) (xs.drop (m * k)) ∧ ∀ g, (Value.slice (if cap = m then a else a.map (·.add (m * k))) (n - m) (cap - m)).ownBlock = some g → (Value.slice a n cap).ownBlock = some g := by
  rcases h.2 with ⟨h1, h2⟩ | ⟨g', off', cap', cur, h2, h3, h4, h5, h6, h7⟩
  · cases h1
    obtain rfl : m = 0 := by omega
    refine ⟨⟨by rw [List.length_drop, h.1]; simp, .inl ⟨by simp, rfl⟩⟩, fun g hg => ?_⟩
    simp [Value.ownBlock] at hg
  · cases h2
    have hl : (xs.drop (m * k)).length = (n - m) * k := by rw [List.length_drop, h.1, Nat.sub_mul]
    by_cases hc : cap = m
    · rw [if_pos hc]
      have hn : n = m := by omega
      refine ⟨⟨hl, .inr ⟨g', off', cap - m, cur, rfl, h3, by omega, by omega, ?_, ?_⟩⟩, fun g hg => by simpa [Value.ownBlock] using hg⟩
      · have : (cap - m) * k ≤ cap * k := Nat.mul_le_mul_right _ (Nat.sub_le _ _)
        omega
      · have e1 : n - m = 0 := by omega
        have e2 : xs.drop (m * k) = [] := List.length_eq_zero_iff.1 (by rw [hl, e1, Nat.zero_mul])
        rw [e1, Nat.zero_mul, e2]; rfl
    · rw [if_neg hc]
      have ha : (⟨g', off', none⟩ : Addr).add (m * k) = ⟨g', off' + m * k, none⟩ := by unfold Addr.add; split <;> simp_all
      rw [Option.map_some, ha]
      refine ⟨⟨hl, .inr ⟨g', off' + m * k, cap - m, cur, rfl, h3, by omega, by omega, ?_, ?_⟩⟩, fun g hg => by simpa [Value.ownBlock] using hg⟩
      · have hle : m * k ≤ cap * k := Nat.mul_le_mul_right _ (by omega)
        rw [Nat.sub_mul]
        omega
      · rw [← h7, List.drop_take, List.drop_drop, Nat.sub_mul]

section
variable {P : Program} (w : World)
theorem run_append_room_at (t ty e : TypeId) (i : TypeInfo) (ht : P.underlying t = some (.slice e)) (hi : P.info? e = some i)
    (g off sLen sCap : Nat) (cur : Array Value) (hg : w.heap[g]? = some (.cells cur e (0, 0)))
    (a : Addr) (m c : Nat) (news : List Value) (hl : news.length = m * i.size) (hnews : ∀ j u, news[j]? = some u → w.cell? (a.add j) = some u) (h1 : ∀ u ∈ news, u.oneCell' = true)
    (hroom : sLen + m ≤ sCap) (hfit : off + sLen * i.size + news.length ≤ cur.size) :
    (Builtin.append_ #[t, t] ty #[.slice (some ⟨g, off, none⟩) sLen sCap, .slice (some a) m c]).run P w =
      .ok (.slice (some ⟨g, off, none⟩) (sLen + m) sCap) (w.setRow g (cur.toList.take (off + sLen * i.size) ++ news ++ cur.toList.drop (off + sLen * i.size + news.length)).toArray) := by
  have hf := run_firstCells_some (P := P) w i.size m a m c news hl hnews
  have hst := run_storeCells_at P g (off + sLen * i.size) e news 0 cur w hg (by simpa using hfit) h1
  simp only [Nat.add_zero] at hst
  have ha : (⟨g, off, none⟩ : Addr).add (sLen * i.size) = ⟨g, off + sLen * i.size, none⟩ := by unfold Addr.add; split <;> simp_all
  simp [Builtin.append_, run_underlying ht, sizeOf, typeInfo, hi, Builtin.lenOf, hroom, hf, ha, hst]

/-- append onto such a row: where the new slice lies. -/
theorem run_append_srow (t ty e : TypeId) (i : TypeInfo) (z : Value) (size bytes : Nat) (ht : P.underlying t = some (.slice e)) (hi : P.info? e = some i) (hz : i.zero = some z)
    (hsize : i.size = size) (hby : i.bytes = bytes) (hzs : z.cells.size = size) (hsz : 0 < size)
    (v : Value) (n : Nat) (xs : List Value) (hown : SRow w e size v n xs)
    (a : Addr) (m c : Nat) (news : List Value) (hl : news.length = m * size) (hnews : ∀ j u, news[j]? = some u → w.cell? (a.add j) = some u) (h1 : ∀ u ∈ news, u.oneCell' = true)
    (hm : 0 < m) (h63 : n + m ≤ maxLen) (hbytes : (n + m) * bytes ≤ 140737488355328) :
    ∃ g off cap w', (Builtin.append_ #[t, t] ty #[v, .slice (some a) m c]).run P w = .ok (.slice (some ⟨g, off, none⟩) (n + m) cap) w' ∧
      SRow w' e size (.slice (some ⟨g, off, none⟩) (n + m) cap) (n + m) (xs ++ news) ∧ w.grownBy w' v.ownBlock ∧ (v.ownBlock = some g ∨ g = w.heap.size) ∧ g < w'.heap.size := by
  subst hsize
  subst hby
  have hlen : (xs ++ news).length = (n + m) * i.size := by rw [List.length_append, hown.1, hl, Nat.add_mul]
  rcases hown.2 with ⟨rfl, rfl⟩ | ⟨g, off, cap, cur, rfl, hg, hnc, hcm, hcs, htake⟩
  · have hx : xs = [] := List.eq_nil_of_length_eq_zero (by simpa using hown.1)
    subst hx
    obtain ⟨g, cap, w', h2, h3, h4, h5, h6⟩ := run_append_lies (P := P) w t ty 0 e i z i.size i.bytes ht hi hz rfl rfl hzs hsz (.slice none 0 0) 0 [] (World.ownsRow_nil _ _ _ _) a m c news hl hnews h1 hm h63 hbytes (Nat.zero_le _) _ rfl
    exact ⟨g, 0, cap, w', h2, SRow.owned h3, h4, h5, h6⟩
  · by_cases hroom : n + m ≤ cap
    · have hle : (n + m) * i.size ≤ cap * i.size := Nat.mul_le_mul_right _ hroom
      have hfit : off + n * i.size + news.length ≤ cur.size := by rw [hl]; rw [Nat.add_mul] at hle; omega
      have hr := run_append_room_at (P := P) w t ty e i ht hi g off n cap cur hg a m c news hl hnews h1 hroom hfit
      have hglt := (Array.getElem?_eq_some_iff.1 hg).1
      refine ⟨g, off, cap, _, hr, ⟨hlen, .inr ⟨g, off, cap, _, rfl, setRow_heap w g cur _ e _ hg, hroom, hcm, ?_, ?_⟩⟩, ⟨rfl, rfl, rfl, by simp, fun k _ hk => setRow_other w g k _ (fun e => hk (by simp [Value.ownBlock, e]))⟩, .inl rfl, by simp; exact hglt⟩
      · simp only [List.size_toArray, List.length_append, List.length_take, List.length_drop, Array.length_toList]
        omega
      · show (List.drop off (cur.toList.take (off + n * i.size) ++ news ++ cur.toList.drop (off + n * i.size + news.length))).take ((n + m) * i.size) = xs ++ news
        rw [List.append_assoc, List.drop_append_of_le_length (by rw [List.length_take, Array.length_toList]; omega), List.drop_take, show off + n * i.size - off = n * i.size by omega, htake, ← List.append_assoc, ← hlen]
        exact List.take_left
    · have holds : ∀ j u, xs[j]? = some u → w.cell? ((⟨g, off, none⟩ : Addr).add j) = some u := fun j u hu => by
        have ha : (⟨g, off, none⟩ : Addr).add j = ⟨g, off + j, none⟩ := by unfold Addr.add; split <;> simp_all
        rw [ha]
        rw [← htake, List.getElem?_take] at hu
        split at hu
        · rw [List.getElem?_drop] at hu
          simp only [World.cell?, hg]
          simpa using hu
        · cases hu
      have hsmall : n + m ≤ 9223372036854775807 := by simp only [maxLen] at h63; omega
      have hr := run_append_grow (P := P) w t ty e i z ht hi hz ⟨g, off, none⟩ n cap xs hown.1 holds a m c news hl hnews (by omega) (by omega) (growslice_fits (by omega) hbytes)
      have hge := grownCap_ge w (n + m) cap e
      have hcm2 : grownCap w (n + m) cap e ≤ maxLen := grownCap_le_maxLen w (n + m) cap e h63
      refine ⟨w.heap.size, 0, _, _, hr, ⟨hlen, .inr ⟨w.heap.size, 0, _, _, rfl, heap_alloc_new w.drew _, hge, hcm2, ?_, ?_⟩⟩, ⟨rfl, rfl, rfl, by simp, fun k hk _ => Below.heap_alloc w.drew _ _ hk⟩, .inr rfl, by simp⟩
      · simp only [Array.size_append, List.size_toArray, size_zeroCells, hzs, hown.1, hl, ← Nat.add_mul]
        rw [Nat.zero_add, Nat.add_sub_cancel' hge]
        exact Nat.le_refl _
      · simp only [Array.toList_append, List.append_assoc, List.drop_zero]
        rw [← List.append_assoc, ← hlen]
        exact List.take_left

/-- At a step of a region that draws its order. -/
theorem step_append_srow {ops : Array Oper} {o : Oper} {a : Act} {K : Act → World → Prop} {Q : Exit → Act → World → Prop} {E : Prop} (hgd : o.guard = none) (s x : Operand) (t : TypeId)
    (ho : o.op = .call { callee := .builtin .append, args := #[s, x], argTypes := #[t, t] })
    (e : TypeId) (i : TypeInfo) (z : Value) (size bytes : Nat) (ht : P.underlying t = some (.slice e)) (hi : P.info? e = some i) (hz : i.zero = some z)
    (hsize : i.size = size) (hby : i.bytes = bytes) (hzs : z.cells.size = size) (hsz : 0 < size)
    (v : Value) (n : Nat) (xs : List Value) (hs : a.eval s = v) (hown : SRow w e size v n xs)
    (ad : Addr) (m c : Nat) (news : List Value) (hx : a.eval x = .slice (some ad) m c) (hl : news.length = m * size) (hnews : ∀ j u, news[j]? = some u → w.cell? (ad.add j) = some u) (h1 : ∀ u ∈ news, u.oneCell' = true)
    (hm : 0 < m) (h63 : n + m ≤ maxLen) (hbytes : (n + m) * bytes ≤ 140737488355328)
    (h : ∀ g off cap w', SRow w' e size (.slice (some ⟨g, off, none⟩) (n + m) cap) (n + m) (xs ++ news) → w.grownBy w' v.ownBlock → (v.ownBlock = some g ∨ g = w.heap.size) → g < w'.heap.size → K (a.put o.dst (.slice (some ⟨g, off, none⟩) (n + m) cap)) w') :
    if Region.wanted o (yielded ops a.tmps) = true then Oper.wp P o a w K Q else E := by
  have hw : Region.wanted o (yielded ops a.tmps) = true := by simp [Region.wanted, hgd]
  rw [if_pos hw]
  obtain ⟨g, off, cap, w', hr, h2, h3, h4, h5⟩ := run_append_srow (P := P) w t o.type e i z size bytes ht hi hz hsize hby hzs hsz v n xs hown ad m c news hl hnews h1 hm h63 hbytes
  unfold Oper.wp execOp
  simp only [ho, resolve, invoke, builtin, Sem.run_bind, Sem.run_pure, Result.andThen_ok, List.map_toArray, List.map_cons, List.map_nil, hs, hx, hr]
  exact h g off cap w' h2 h3 h4 h5
end

/-! ## An object in blocks O, and what is left alone beside it -/
/-- The blocks of w outside O are in w' as they were; the object lies in O' behind it: in O and in new ones. -/
structure Moves (O : Nat → Prop) (w : World) (O' : Nat → Prop) (w' : World) : Prop where
  os : w'.os = w.os
  tape : w'.tape = w.tape
  output : w'.output = w.output
  size : w.heap.size ≤ w'.heap.size
  block : ∀ i, i < w.heap.size → ¬ O i → w'.heap[i]? = w.heap[i]?
  own : ∀ i, O' i → O i ∨ w.heap.size ≤ i
theorem Moves.refl (O : Nat → Prop) (w : World) : Moves O w O w := ⟨rfl, rfl, rfl, Nat.le_refl _, fun _ _ _ => rfl, fun _ h => .inl h⟩
theorem Moves.below (O : Nat → Prop) {w w' : World} (h : Below w.heap.size w w') : Moves O w O w' := ⟨h.os, h.tape, h.output, h.size, fun i hi _ => h.block i hi, fun _ h => .inl h⟩
theorem Moves.trans {O O' O'' : Nat → Prop} {a b c : World} (h : Moves O a O' b) (k : Moves O' b O'' c) : Moves O a O'' c :=
  ⟨k.os.trans h.os, k.tape.trans h.tape, k.output.trans h.output, Nat.le_trans h.size k.size,
    fun i hi hn => (k.block i (Nat.lt_of_lt_of_le hi h.size) (fun e => by rcases h.own i e with h1 | h1; exact hn h1; omega)).trans (h.block i hi hn),
    fun i hi => by
      rcases k.own i hi with h1 | h1
      · exact h.own i h1
      · exact .inr (Nat.le_trans h.size h1)⟩
theorem Moves.step {O O' : Nat → Prop} {a b c : World} (h : Moves O a O' b) (k : Below b.heap.size b c) : Moves O a O' c := h.trans (.below O' k)
theorem Moves.first {O O' : Nat → Prop} {a b c : World} (h : Below a.heap.size a b) (k : Moves O b O' c) : Moves O a O' c := (Moves.below O h).trans k
/-- All blocks of the object are new: nothing that was there has turned. -/
theorem Moves.toBelow {O O' : Nat → Prop} {w w0 w' : World} (h : Moves O w O' w') (hb : Below w0.heap.size w0 w) (hO : ∀ i, O i → w0.heap.size ≤ i) : Below w0.heap.size w0 w' :=
  ⟨h.os.trans hb.os, h.tape.trans hb.tape, h.output.trans hb.output, Nat.le_trans hb.size h.size, fun i hi => (h.block i (Nat.lt_of_lt_of_le hi hb.size) (fun e => by have := hO i e; omega)).trans (hb.block i hi)⟩
theorem Moves.from {O O' : Nat → Prop} {w w0 w' : World} (h : Moves O w O' w') (hb : w0.heap.size ≤ w.heap.size) (hO : ∀ i, O i → w0.heap.size ≤ i) : ∀ i, O' i → w0.heap.size ≤ i := fun i hi => by
  rcases h.own i hi with h1 | h1
  · exact hO i h1
  · omega
theorem Moves.set {O O' : Nat → Prop} {w w' : World} (h : Moves O w O' w') {p : Addr} (hp : O' p.block) (v : Value) : Moves O w O' (w'.setCell p v) :=
  h.trans ⟨rfl, rfl, rfl, by simp [World.setCell], fun i _ hn => Below.heap_setCell _ _ _ _ (fun e => hn (e ▸ hp)), fun _ h => .inl h⟩
theorem Moves.more {O O' : Nat → Prop} {w w' : World} (h : Moves O w O' w') {Q : Nat → Prop} (hq : ∀ i, Q i → O' i ∨ O i ∨ w.heap.size ≤ i) : Moves O w Q w' :=
  ⟨h.os, h.tape, h.output, h.size, h.block, fun i hi => by rcases hq i hi with h1 | h1; exact h.own i h1; exact h1⟩
/-- A slice that lies elsewhere reads as it did. -/
theorem VL.moves {O O' : Nat → Prop} {w w' : World} {v : Value} {xs : List Value} (h : VL w v xs) (hm : Moves O w O' w') (hne : ∀ k, v.ownBlock = some k → ¬ O k) : VL w' v xs := by
  obtain ⟨a, cap, h1, h2, h3, h4⟩ := h
  refine ⟨a, cap, h1, h2, h3, ?_⟩
  rcases h4 with h4 | ⟨g, off, rfl, hl, h5⟩
  · exact .inl h4
  · refine .inr ⟨g, off, rfl, Nat.lt_of_lt_of_le hl hm.size, fun i u hu => ?_⟩
    have hg : ¬ O g := hne g (by rw [h1]; rfl)
    exact (World.cell?_of_block (w := w) (hm.block g hl hg)).trans (h5 i u hu)
theorem IL.moves {O O' : Nat → Prop} {w w' : World} {v : Value} {l : List Int} (h : IL w v l) (hm : Moves O w O' w') (hne : ∀ k, v.ownBlock = some k → ¬ O k) : IL w' v l := VL.moves h hm hne
theorem PL.moves {O O' : Nat → Prop} {w w' : World} {v : Value} {E : List (Int × Int)} (h : PL w v E) (hm : Moves O w O' w') (hne : ∀ k, v.ownBlock = some k → ¬ O k) : PL w' v E := by
  obtain ⟨a, cap, h1, h2, h3, h4⟩ := h
  refine ⟨a, cap, h1, h2, h3, ?_⟩
  rcases h4 with h4 | ⟨g, off, rfl, hl, h5⟩
  · exact .inl h4
  · refine .inr ⟨g, off, rfl, Nat.lt_of_lt_of_le hl hm.size, fun i p hp => ?_⟩
    have hg : ¬ O g := hne g (by rw [h1]; rfl)
    have e : ∀ o, w'.cell? ⟨g, o, none⟩ = w.cell? ⟨g, o, none⟩ := fun o => World.cell?_of_block (hm.block g hl hg)
    exact ⟨(e _).trans (h5 i p hp).1, (e _).trans (h5 i p hp).2⟩

/-! ## The memory -/
namespace Cm
/-- Entries as pairs of integers. -/
def prs (l : List (Nat × Int)) : List (Int × Int) := l.map fun p => ((p.1 : Int), p.2)
theorem prs_length (l : List (Nat × Int)) : (prs l).length = l.length := by unfold prs; rw [List.length_map]
theorem prs_append (a b : List (Nat × Int)) : prs (a ++ b) = prs a ++ prs b := by unfold prs; rw [List.map_append]
theorem prs_at {l : List (Nat × Int)} {i : Nat} {p : Nat × Int} (h : l[i]? = some p) : (prs l)[i]? = some ((p.1 : Int), p.2) := by unfold prs; rw [List.getElem?_map, h]; rfl
def ents (l : List (Nat × Int)) : List Value := flatP (prs l)
theorem ents_length (l : List (Nat × Int)) : (ents l).length = l.length * 2 := by unfold ents; rw [flatP_length, prs_length]
theorem ents_append (a b : List (Nat × Int)) : ents (a ++ b) = ents a ++ ents b := by unfold ents; rw [prs_append, flatP_append]
theorem ents_take (l : List (Nat × Int)) (m : Nat) : (ents l).take (m * 2) = ents (l.take m) := by
  rcases Nat.lt_or_ge l.length m with h | h
  · rw [List.take_of_length_le (by rw [ents_length]; omega), List.take_of_length_le (by omega)]
  · have e : ents l = ents (l.take m) ++ ents (l.drop m) := by rw [← ents_append, List.take_append_drop]
    rw [e, List.take_left' (by rw [ents_length, List.length_take]; omega)]
theorem ents_drop (l : List (Nat × Int)) (m : Nat) : (ents l).drop (m * 2) = ents (l.drop m) := by
  rcases Nat.lt_or_ge l.length m with h | h
  · rw [List.drop_eq_nil_of_le (by rw [ents_length]; omega), List.drop_eq_nil_of_le (by omega)]; rfl
  · have e : ents l = ents (l.take m) ++ ents (l.drop m) := by rw [← ents_append, List.take_append_drop]
    rw [e, List.drop_left' (by rw [ents_length, List.length_take]; omega)]
theorem ents_at {l : List (Nat × Int)} {i : Nat} {p : Nat × Int} (h : l[i]? = some p) : (ents l)[i * 2]? = some (.int .i64 (p.1 : Nat)) ∧ (ents l)[i * 2 + 1]? = some (.int .i64 p.2) := flatP_at (prs_at h)
theorem flatP_one' (E : List (Int × Int)) : ∀ u ∈ flatP E, u.oneCell' = true := fun u hu => by
  unfold flatP at hu
  obtain ⟨p, _, hp⟩ := List.mem_flatMap.1 hu
  simp only [List.mem_cons, List.not_mem_nil, or_false] at hp
  rcases hp with rfl | rfl <;> rfl
theorem ents_one (l : List (Nat × Int)) : ∀ u ∈ ents l, u.oneCell' = true := flatP_one' _
theorem ints_one' (l : List Int) : ∀ u ∈ ints l, u.oneCell' = true := fun u hu => by
  unfold ints at hu
  obtain ⟨z, _, rfl⟩ := List.mem_map.1 hu
  rfl
theorem ints_set (l : List Int) (i : Nat) (z : Int) : (ints l).set i (.int .i64 z) = ints (l.set i z) := by unfold ints; rw [List.map_set]

/-- Block b is a memory that says what S says; it lies in the blocks O. -/
structure Par (w : World) (b : Nat) (O : Nat → Prop) (S : Me) (cv lv : Value) : Prop where
  ob : w.heap[b]? = some (.cells #[cv, lv, .int .i64 (S.base : Nat)] 65 (0, 0))
  cells : SRow w 3 1 cv S.cs.length (ints S.cs)
  log : SRow w 69 2 lv S.lg.length (ents S.lg)
  cO : ∀ k, cv.ownBlock = some k → O k ∧ k ≠ b ∧ lv.ownBlock ≠ some k
  lO : ∀ k, lv.ownBlock = some k → O k ∧ k ≠ b
  bO : O b
  lt : ∀ k, O k → k < w.heap.size
  ok : ∀ (i : Nat) (e : Nat × Int), S.lg[i]? = some e → e.1 < S.cs.length
def Mo (w : World) (b : Nat) (O : Nat → Prop) (S : Me) : Prop := ∃ cv lv, Par w b O S cv lv
theorem Par.kept {w w' : World} {b : Nat} {O : Nat → Prop} {S : Me} {cv lv : Value} (h : Par w b O S cv lv) (hs : w.heap.size ≤ w'.heap.size) (hb : ∀ i, O i → w'.heap[i]? = w.heap[i]?) : Par w' b O S cv lv :=
  ⟨(hb b h.bO).trans h.ob, h.cells.grown fun g hg _ => hb g (h.cO g hg).1, h.log.grown fun g hg _ => hb g (h.lO g hg).1, h.cO, h.lO, h.bO, fun k hk => Nat.lt_of_lt_of_le (h.lt k hk) hs, h.ok⟩
theorem Par.carry {w w' : World} {b : Nat} {O : Nat → Prop} {S : Me} {cv lv : Value} (h : Par w b O S cv lv) (hb : Below w.heap.size w w') : Par w' b O S cv lv := h.kept hb.size fun i hi => hb.block i (h.lt i hi)
theorem Mo.carry {w w' : World} {b : Nat} {O : Nat → Prop} {S : Me} (h : Mo w b O S) (hb : Below w.heap.size w w') : Mo w' b O S := by
  obtain ⟨cv, lv, h⟩ := h; exact ⟨cv, lv, h.carry hb⟩
/-- Another object is worked on. -/
theorem Mo.beside {w w' : World} {b : Nat} {O Q Q' : Nat → Prop} {S : Me} (h : Mo w b O S) (hm : Moves Q w Q' w') (hd : ∀ i, O i → ¬ Q i) : Mo w' b O S := by
  obtain ⟨cv, lv, h⟩ := h; exact ⟨cv, lv, h.kept hm.size fun i hi => hm.block i (h.lt i hi) (hd i hi)⟩
theorem Mo.lt {w : World} {b : Nat} {O : Nat → Prop} {S : Me} (h : Mo w b O S) : ∀ k, O k → k < w.heap.size := by
  obtain ⟨cv, lv, h⟩ := h; exact h.lt
theorem Mo.apart {w w' : World} {O O' Q : Nat → Prop} (hm : Moves Q w O' w') (hd : ∀ i, O i → ¬ Q i) (hl : ∀ i, O i → i < w.heap.size) : ∀ i, O i → ¬ O' i := fun i hi e => by
  rcases hm.own i e with h1 | h1
  · exact hd i hi h1
  · have := hl i hi; omega
theorem Par.at0 {w : World} {b : Nat} {O : Nat → Prop} {S : Me} {cv lv : Value} (h : Par w b O S cv lv) : w.cell? ⟨b, 0, none⟩ = some cv := heap_cell h.ob 0
theorem Par.at1 {w : World} {b : Nat} {O : Nat → Prop} {S : Me} {cv lv : Value} (h : Par w b O S cv lv) : w.cell? ⟨b, 1, none⟩ = some lv := heap_cell h.ob 1
theorem Par.at2 {w : World} {b : Nat} {O : Nat → Prop} {S : Me} {cv lv : Value} (h : Par w b O S cv lv) : w.cell? ⟨b, 2, none⟩ = some (.int .i64 (S.base : Nat)) := heap_cell h.ob 2
theorem Par.frozen {w : World} {b : Nat} {O : Nat → Prop} {S : Me} {cv lv : Value} (h : Par w b O S cv lv) (i : Nat) : w.frozen? ⟨b, i, none⟩ = false := heap_frozen h.ob i
theorem info_entry : (Try.prog.info? 69).map (fun i => (i.zero, i.size, i.bytes)) = some (some (.agg #[.int .i64 0, .int .i64 0]), 2, 16) := by kernel_rfl
theorem info_int : (Try.prog.info? 3).map (fun i => (i.zero, i.size, i.bytes)) = some (some (.int .i64 0), 1, 8) := by kernel_rfl
end Cm
end Go.Proofs.Ytlpacihkmfgegaa
