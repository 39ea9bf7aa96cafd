/- Slices of elements of k cells each, laid flat: read, owned, sorted. -/
import Derived.Test.YtlpacihkmfgegaaLawKit
import Derived.Test.YtlpacihkmfgegaaMade
import Derived.Shelf.SlSortCmp.NoneTotal
namespace Go.Proofs.Ytlpacihkmfgegaa
open Go.ChangeShapes Go.WideShapes Go.ChangeAt Go.RowKit Go.Sort
set_option linter.unusedSimpArgs false
set_option linter.unusedVariables false

section
variable {α : Type} {enc : α → List Value} {k : Nat}
theorem flat_length (hk : ∀ x, (enc x).length = k) : ∀ l : List α, (l.flatMap enc).length = l.length * k
  | [] => by simp
  | x :: l => by rw [List.flatMap_cons, List.length_append, flat_length hk l, hk, List.length_cons, Nat.add_mul, Nat.one_mul, Nat.add_comm]
theorem flat_get (hk : ∀ x, (enc x).length = k) : ∀ (l : List α) (i : Nat) (x : α) (j : Nat), l[i]? = some x → j < k → (l.flatMap enc)[i * k + j]? = (enc x)[j]?
  | [], i, x, j, h, _ => by simp at h
  | y :: l, 0, x, j, h, hj => by
    simp only [List.getElem?_cons_zero, Option.some.injEq] at h
    subst h
    rw [List.flatMap_cons, Nat.zero_mul, Nat.zero_add, List.getElem?_append_left (by rw [hk]; exact hj)]
  | y :: l, i + 1, x, j, h, hj => by
    rw [List.flatMap_cons, List.getElem?_append_right (by rw [hk, Nat.add_mul]; omega), hk, show (i + 1) * k + j - k = i * k + j by rw [Nat.add_mul]; omega]
    exact flat_get hk l i x j (by simpa using h) hj

/-- A slice of elements of k cells: its cells read l. -/
structure RowK (enc : α → List Value) (w : World) (g off cap : Nat) (l : List α) : Prop where
  le : l.length ≤ cap
  max : cap ≤ maxLen
  cells : ∀ i u, (l.flatMap enc)[i]? = some u → w.cell? ⟨g, off + i, none⟩ = some u
theorem RowK.carry {w w' : World} {g off cap : Nat} {l : List α} (h : RowK enc w g off cap l) (hb : Below w.heap.size w w') : RowK enc w' g off cap l :=
  ⟨h.le, h.max, fun i u hu => Proofs.Ytlpacihkmfgegaa.carry hb (h.cells i u hu)⟩
theorem RowK.at {w : World} {g off cap : Nat} {l : List α} (h : RowK enc w g off cap l) (hk : ∀ x, (enc x).length = k) {i j : Nat} {x : α} {u : Value} (hx : l[i]? = some x) (hu : (enc x)[j]? = some u) :
    w.cell? ⟨g, off + (i * k + j), none⟩ = some u :=
  h.cells _ _ (by rw [flat_get hk l i x j hx (by have := (List.getElem?_eq_some_iff.1 hu).1; rw [hk] at this; exact this)]; exact hu)
theorem RowK.take {w : World} {g off cap : Nat} {l : List α} (h : RowK enc w g off cap l) (n : Nat) : RowK enc w g off cap (l.take n) :=
  ⟨by have := h.le; simp; omega, h.max, fun i u hu => h.cells i u (by
    have e : l.flatMap enc = (l.take n).flatMap enc ++ (l.drop n).flatMap enc := by rw [← List.flatMap_append, List.take_append_drop]
    rw [e, List.getElem?_append_left (List.getElem?_eq_some_iff.1 hu).1]; exact hu)⟩

theorem owned_row {w : World} {base : Nat} {e : TypeId} {v : Value} {l : List α} (h : w.ownsRow base e k v l.length (l.flatMap enc)) :
    (v = .slice none 0 0 ∧ l = []) ∨ ∃ g cap, v = .slice (some ⟨g, 0, none⟩) l.length cap ∧ base ≤ g ∧ g < w.heap.size ∧ RowK enc w g 0 cap l ∧ (∀ i, i < l.length * k → w.frozen? ⟨g, i, none⟩ = false) := by
  obtain ⟨h1, h2⟩ := h
  rcases h2 with ⟨h3, h4⟩ | ⟨g, cap, cur, h3, h4, h5, h6, h7, h8, h9⟩
  · exact Or.inl ⟨h3, List.length_eq_zero_iff.1 h4⟩
  · refine Or.inr ⟨g, cap, h3, h4, (Array.getElem?_eq_some_iff.1 h5).1, ⟨h6, h7, fun i u hu => ?_⟩, fun i hi => ?_⟩
    · rw [← h9, List.getElem?_take] at hu
      split at hu
      · rw [Nat.zero_add]
        simp only [World.cell?, h5]
        simpa using hu
      · cases hu
    · simp [World.frozen?, h5]
end

section
variable {α : Type} [Inhabited α] {enc : α → List Value} {k : Nat}
theorem flatK_toList (hk : ∀ x, (enc x).length = k) (l : List α) : (flatK enc k l.toArray).toList = l.flatMap enc := by
  refine List.ext_getElem? fun t => ?_
  by_cases ht : t < l.length * k
  · have hk0 : 0 < k := by
      rcases Nat.eq_zero_or_pos k with h | h
      · subst h; simp at ht
      · exact h
    have hq : t / k < l.length := Nat.div_lt_of_lt_mul (by rw [Nat.mul_comm]; exact ht)
    have hr : t % k < k := Nat.mod_lt _ hk0
    have e := flat_get hk l (t / k) l[t / k] (t % k) (List.getElem?_eq_getElem hq) hr
    have e2 : t / k * k + t % k = t := by have := Nat.div_add_mod t k; rw [Nat.mul_comm] at this; exact this
    rw [e2] at e
    rw [e]
    have hs : t < (flatK enc k l.toArray).toList.length := by simp; exact ht
    rw [List.getElem?_eq_getElem hs]
    have g1 := get_flatK enc k l.toArray t (by simpa using ht)
    have e3 : (flatK enc k l.toArray)[t]! = (flatK enc k l.toArray).toList[t] := by rw [getElem!_pos (flatK enc k l.toArray) t (by simpa using ht)]; simp
    rw [e3] at g1
    rw [g1]
    have e4 : l.toArray[t / k]! = l[t / k] := by rw [getElem!_pos l.toArray (t / k) (by simpa using hq)]; simp
    rw [e4, getElem!_pos (enc l[t / k]) (t % k) (by rw [hk]; exact hr), List.getElem?_eq_getElem]
  · rw [List.getElem?_eq_none (by simp; omega), List.getElem?_eq_none (by rw [flat_length hk]; omega)]

theorem holdsK_of_row (hk : ∀ x, (enc x).length = k) {w : World} {g cap : Nat} {l : List α} (h : RowK enc w g 0 cap l) (hf : ∀ i, i < l.length * k → w.frozen? ⟨g, i, none⟩ = false) : HoldsK enc k w g 0 l.toArray := by
  intro j hj
  have hj' : j < l.length * k := by simpa using hj
  have hl : j < (flatK enc k l.toArray).toList.length := by simpa using hj
  refine ⟨?_, by rw [Nat.zero_add]; exact hf j hj'⟩
  refine h.cells j _ ?_
  rw [← flatK_toList hk, List.getElem?_eq_getElem hl]
  congr 1
  rw [getElem!_pos (flatK enc k l.toArray) j hj]; simp

theorem heap_sortWorldK (w : World) (g n : Nat) (d : Array α) (os : Array Obj) {cur : Array Value} {e : TypeId} (h : w.heap[g]? = some (.cells cur e (0, 0))) :
    (sortWorldK enc k w g 0 n d os).heap[g]? = some (.cells (putCells id 0 (flatK enc k d) cur) e (0, 0)) := by
  have hg := (Array.getElem?_eq_some_iff.1 h).1
  have h1 : (putRowK enc k (Sort.ahead w n) g 0 d).heap[g]? = some (.cells (putCells id 0 (flatK enc k d) cur) e (0, 0)) := by
    show (w.heap.modify g (onCells (putCells id 0 (flatK enc k d))))[g]? = _
    rw [Array.getElem?_modify, if_pos rfl, h]; rfl
  have hg1 := (Array.getElem?_eq_some_iff.1 h1).1
  rw [← h1]
  show (_ ++ os)[g]? = _
  rw [Array.getElem?_append_left hg1]
theorem sortWorldK_below {B : Nat} (w : World) (g n : Nat) (d : Array α) (os : Array Obj) (hB : B ≤ g) (hg : g < w.heap.size) : Below B w (sortWorldK enc k w g 0 n d os) := by
  refine ⟨rfl, rfl, rfl, size_sortWorldK_c enc k w g 0 n d os, fun i hi => ?_⟩
  show ((w.heap.modify g (onCells (putCells id 0 (flatK enc k d)))) ++ os)[i]? = _
  rw [Array.getElem?_append_left (by simp; omega), Array.getElem?_modify, if_neg (by omega)]
theorem owned_sorted (hk : ∀ x, (enc x).length = k) {w : World} {base g cap n : Nat} {e : TypeId} {l l' : List α} {os : Array Obj} (h : w.ownsRow base e k (.slice (some ⟨g, 0, none⟩) l.length cap) l.length (l.flatMap enc)) (hl : l'.length = l.length) :
    (sortWorldK enc k w g 0 n l'.toArray os).ownsRow base e k (.slice (some ⟨g, 0, none⟩) l'.length cap) l'.length (l'.flatMap enc) := by
  obtain ⟨h1, h2⟩ := h
  rcases h2 with ⟨h3, h4⟩ | ⟨g', cap', cur, h3, h4, h5, h6, h7, h8, h9⟩
  · cases h3
  · simp only [Value.slice.injEq, Option.some.injEq, Addr.mk.injEq, true_and, and_true] at h3
    obtain ⟨rfl, rfl⟩ := h3
    refine ⟨flat_length hk l', Or.inr ⟨g, cap, _, rfl, h4, heap_sortWorldK w g n l'.toArray os h5, by omega, h7, by simp [putCells, h8], ?_⟩⟩
    have hs : l'.length * k ≤ cur.size := by rw [h8]; exact Nat.mul_le_mul_right _ (by omega)
    rw [← flatK_toList hk l']
    refine List.ext_getElem? fun t => ?_
    by_cases ht : t < l'.length * k
    · have hl2 : t < (flatK enc k l'.toArray).toList.length := by simp; exact ht
      rw [List.getElem?_take, if_pos ht, List.getElem?_eq_getElem hl2]
      simp only [putCells, Array.getElem?_toList, Array.getElem?_mapIdx, Nat.zero_le, true_and, Nat.zero_add, Nat.sub_zero, size_flatK, List.size_toArray, id]
      rw [Array.getElem?_eq_getElem (show t < cur.size by omega), Option.map_some, if_pos ht, getElem!_pos (flatK enc k l'.toArray) t (by simpa using ht)]; simp
    · rw [List.getElem?_eq_none (by simp; omega), List.getElem?_eq_none (by simp; omega)]
end

section
variable {P : Program} {α : Type} [Inhabited α] {enc : α → List Value} {k : Nat}
/-- slices.SortFunc on a slice that the call owns, nil or not: a permutation that does not fall; all else as it was. -/
theorem sort_owned {ρ : Go.Shelf.Ren} (L : SlLaysF0.n6 P ρ) (aE : ∀ w, (isAgg (ρ.t 24)).run P w = .ok true w) (zE : ∀ w, (Go.sizeOf (ρ.t 24)).run P w = .ok k w) (hk : ∀ x, (enc x).length = k) (h1 : ∀ x, ∀ v ∈ enc x, v.oneCell' = true)
    (cf : α → α → Int) (hO : SWO (ltOf cf)) (g : Nat) (eg : ∀ args w, (callFunc g args).run P w = .ok (.enter g args) w)
    (hcmp : ∀ (x y : α) (W : World), Calls P g #[.agg (enc x).toArray, .agg (enc y).toArray] W fun e w' => e = .returned (.int .i64 (cf x y)) ∧ ∃ q os', w' = grow (W.drewN q) os')
    {base : Nat} {e : TypeId} (v : Value) (l : List α) (w : World) (hown : w.ownsRow base e k v l.length (l.flatMap enc)) (hl : l.length < 4611686018427387904) :
    Calls P (ρ.f 6) #[v, .func (.func g) #[] #[]] w fun e' w' => e' = .returned (.tuple #[]) ∧ ∃ l' : List α, l'.Perm l ∧ (l'.Pairwise fun x y => ¬ cf y x < 0) ∧ w'.ownsRow base e k v l'.length (l'.flatMap enc) ∧ Below base w w' := by
  rcases owned_row hown with ⟨rfl, rfl⟩ | ⟨b, cap, rfl, hb, hlt, hR, hf⟩
  · refine (AnyF.slices_SortFunc_none { L with } none 0 _ w).mono ?_
    rintro e' w' ⟨rfl, rfl⟩
    exact ⟨rfl, [], List.Perm.nil, List.Pairwise.nil, hown, Below.refl _ _⟩
  · have hsz : l.toArray.size < 4611686018427387904 := by simp; omega
    have hc := AnyQ.slices_SortFunc L k aE zE enc hk h1 cf hO g #[] b 0 cap l.toArray w eg (fun _ _ _ _ x y => by simpa using hcmp x y _) (holdsK_of_row hk hR hf) hlt hsz
    simp only [List.size_toArray] at hc
    refine hc.mono ?_
    rintro e' w' ⟨rfl, d', n, os, hp, hs, rfl⟩
    obtain ⟨p1, p2, p3⟩ := hp
    have p3' : d'.toList.Perm l := by
      have e1 : d'.extract 0 l.length = d' := by
        have : l.length = d'.size := by rw [p1]; simp
        rw [this]; simp
      simpa [e1] using p3
    refine ⟨rfl, d'.toList, p3', ?_, ?_, sortWorldK_below w b n d' os hb hlt⟩
    · rw [List.pairwise_iff_getElem]
      intro i j hi hj hij
      have h2 := hs i j (Nat.zero_le _) hij (by simp at hj; rw [p1] at hj; simpa using hj)
      rw [getElem!_pos d' i (by simpa using hi), getElem!_pos d' j (by simpa using hj)] at h2
      have := of_decide_eq_false h2
      simpa using this
    · have hl' : d'.toList.length = l.length := by simpa using p1
      have := owned_sorted (enc := enc) (n := n) (os := os) (l' := d'.toList) hk hown hl'
      rw [hl'] at this ⊢
      simpa using this
end
end Go.Proofs.Ytlpacihkmfgegaa
