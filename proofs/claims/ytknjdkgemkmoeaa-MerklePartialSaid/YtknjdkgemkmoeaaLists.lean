/- Slices of integers, of values of one cell, and of slices of integers, as lists. -/
import Derived.Test.YtknjdkgemkmoeaaLawKit
import Derived.Test.YtknjdkgemkmoeaaMade
import Derived.Laws.OwnMore
namespace Go.Proofs.Ytknjdkgemkmoeaa
open Go.ChangeShapes Go.WideShapes Go.ChangeAt Go.RowKit
set_option linter.unusedSimpArgs false
set_option linter.unusedVariables false

/-- v is a slice whose elements, of one cell each, are xs. -/
def VL (w : World) (v : Value) (xs : List Value) : Prop :=
  ∃ (a : Option Addr) (cap : Nat), v = .slice a xs.length cap ∧ xs.length ≤ cap ∧ cap ≤ maxLen ∧
    (xs = [] ∨ ∃ g off, a = some ⟨g, off, none⟩ ∧ g < w.heap.size ∧ ∀ (i : Nat) (u : Value), xs[i]? = some u → w.cell? ⟨g, off + i, none⟩ = some u)
def ints (l : List Int) : List Value := l.map (Value.int .i64)
def IL (w : World) (v : Value) (l : List Int) : Prop := VL w v (ints l)
/-- v is a slice of slices of integers. -/
def GL (w : World) (v : Value) (gs : List (List Int)) : Prop :=
  ∃ xs : List Value, xs.length = gs.length ∧ VL w v xs ∧ ∀ (i : Nat) (x : Value) (l : List Int), xs[i]? = some x → gs[i]? = some l → IL w x l

theorem ints_length (l : List Int) : (ints l).length = l.length := by unfold ints; rw [List.length_map]
theorem ints_at {l : List Int} {i : Nat} {z : Int} (h : l[i]? = some z) : (ints l)[i]? = some (.int .i64 z) := by unfold ints; rw [List.getElem?_map, h]; rfl
theorem VL.nil (w : World) : VL w (.slice none 0 0) [] := ⟨none, 0, rfl, Nat.le_refl _, Nat.zero_le _, .inl rfl⟩
theorem IL.nil (w : World) : IL w (.slice none 0 0) [] := VL.nil w
theorem VL.carry {w w' : World} {v : Value} {xs : List Value} (h : VL w v xs) (hb : Below w.heap.size w w') : VL w' v xs := by
  obtain ⟨a, cap, h1, h2, h3, h4⟩ := h
  refine ⟨a, cap, h1, h2, h3, ?_⟩
  rcases h4 with h4 | ⟨g, off, h4, hg, h5⟩
  · exact .inl h4
  · exact .inr ⟨g, off, h4, Nat.lt_of_lt_of_le hg hb.size, fun i u hu => Proofs.Ytknjdkgemkmoeaa.carry hb (h5 i u hu)⟩
theorem IL.carry {w w' : World} {v : Value} {l : List Int} (h : IL w v l) (hb : Below w.heap.size w w') : IL w' v l := VL.carry h hb
theorem GL.carry {w w' : World} {v : Value} {gs : List (List Int)} (h : GL w v gs) (hb : Below w.heap.size w w') : GL w' v gs := by
  obtain ⟨xs, h1, h2, h3⟩ := h
  exact ⟨xs, h1, h2.carry hb, fun i x l hx hl => (h3 i x l hx hl).carry hb⟩
/-- Either empty (any address, any room), or a row at a block. -/
theorem VL.cases {w : World} {v : Value} {xs : List Value} (h : VL w v xs) :
    (xs = [] ∧ ∃ a cap, v = .slice a 0 cap ∧ cap ≤ maxLen) ∨
    ∃ g off cap, v = .slice (some ⟨g, off, none⟩) xs.length cap ∧ xs.length ≤ cap ∧ cap ≤ maxLen ∧ 0 < xs.length ∧ g < w.heap.size ∧ ∀ (i : Nat) (u : Value), xs[i]? = some u → w.cell? ⟨g, off + i, none⟩ = some u := by
  obtain ⟨a, cap, h1, h2, h3, h4⟩ := h
  rcases h4 with rfl | ⟨g, off, rfl, hg, h5⟩
  · exact .inl ⟨rfl, a, cap, h1, h3⟩
  · cases xs with
    | nil => exact .inl ⟨rfl, _, cap, h1, h3⟩
    | cons x xs => exact .inr ⟨g, off, cap, h1, h2, h3, by simp, hg, h5⟩
/-- The same for integers, the cells by the numbers. -/
theorem IL.cases {w : World} {v : Value} {l : List Int} (h : IL w v l) :
    (l = [] ∧ ∃ a cap, v = .slice a 0 cap ∧ cap ≤ maxLen) ∨
    ∃ g off cap, v = .slice (some ⟨g, off, none⟩) l.length cap ∧ l.length ≤ cap ∧ cap ≤ maxLen ∧ 0 < l.length ∧ g < w.heap.size ∧ ∀ (i : Nat) (z : Int), l[i]? = some z → w.cell? ⟨g, off + i, none⟩ = some (.int .i64 z) := by
  rcases VL.cases h with ⟨h1, h2⟩ | ⟨g, off, cap, h1, h2, h3, h4, h5, h6⟩
  · exact .inl ⟨by unfold ints at h1; exact List.map_eq_nil_iff.1 h1, h2⟩
  · rw [ints_length] at h1 h2 h4
    exact .inr ⟨g, off, cap, h1, h2, h3, h4, h5, fun i z hz => h6 i _ (ints_at hz)⟩
/-- What the call has gathered by append reads as a list. -/
theorem VL.owned {w : World} {base : Nat} {e : TypeId} {v : Value} {n : Nat} {xs : List Value} (h : w.ownsRow base e 1 v n xs) : VL w v xs := by
  obtain ⟨h1, h2⟩ := h
  rw [Nat.mul_one] at h1
  rcases h2 with ⟨h3, h4⟩ | ⟨g, cap, cur, h3, h4, h5, h6, h7, h8, h9⟩
  · subst h4
    have : xs = [] := List.length_eq_zero_iff.1 h1
    subst this
    rw [h3]; exact VL.nil w
  · refine ⟨_, cap, by rw [h3, h1], by omega, h7, .inr ⟨g, 0, rfl, (Array.getElem?_eq_some_iff.1 h5).1, fun i u hu => ?_⟩⟩
    rw [← h9, List.getElem?_take] at hu
    split at hu
    · rw [Nat.zero_add]
      simp only [World.cell?, h5]
      simpa using hu
    · cases hu
theorem IL.owned {w : World} {base : Nat} {e : TypeId} {v : Value} {n : Nat} {l : List Int} (h : w.ownsRow base e 1 v n (ints l)) : IL w v l := VL.owned h
/-- A slice of slices: the length, and an element. -/
theorem GL.cases {w : World} {v : Value} {gs : List (List Int)} (h : GL w v gs) :
    (gs = [] ∧ ∃ a cap, v = .slice a 0 cap ∧ cap ≤ maxLen) ∨
    ∃ g off cap, v = .slice (some ⟨g, off, none⟩) gs.length cap ∧ gs.length ≤ cap ∧ cap ≤ maxLen ∧ 0 < gs.length ∧ g < w.heap.size ∧ ∀ (i : Nat) (l : List Int), gs[i]? = some l → ∃ x, w.cell? ⟨g, off + i, none⟩ = some x ∧ IL w x l := by
  obtain ⟨xs, h1, h2, h3⟩ := h
  rcases h2.cases with ⟨rfl, h4⟩ | ⟨g, off, cap, h4, h5, h6, h7, h8, h9⟩
  · exact .inl ⟨List.length_eq_zero_iff.1 (by rw [← h1]; rfl), h4⟩
  · rw [h1] at h4 h5 h7
    refine .inr ⟨g, off, cap, h4, h5, h6, h7, h8, fun i l hl => ?_⟩
    have hi : i < xs.length := by rw [h1]; exact (List.getElem?_eq_some_iff.1 hl).1
    have hx : xs[i]? = some xs[i] := List.getElem?_eq_getElem hi
    exact ⟨_, h9 i _ hx, h3 i _ l hx hl⟩

/-! ## Slices of pairs -/
def flatP (E : List (Int × Int)) : List Value := E.flatMap fun p => [.int .i64 p.1, .int .i64 p.2]
theorem flatP_length : ∀ E : List (Int × Int), (flatP E).length = E.length * 2
  | [] => rfl
  | p :: E => by unfold flatP; rw [List.flatMap_cons, List.length_append, show (E.flatMap fun p => [Value.int .i64 p.1, Value.int .i64 p.2]) = flatP E from rfl, flatP_length E]; simp only [List.length_cons, List.length_nil]; omega
theorem flatP_append (E D : List (Int × Int)) : flatP (E ++ D) = flatP E ++ flatP D := by unfold flatP; rw [List.flatMap_append]
theorem flatP_at : ∀ {E : List (Int × Int)} {i : Nat} {p : Int × Int}, E[i]? = some p → (flatP E)[i * 2]? = some (.int .i64 p.1) ∧ (flatP E)[i * 2 + 1]? = some (.int .i64 p.2)
  | [], i, p, h => by simp at h
  | q :: E, 0, p, h => by
    simp only [List.getElem?_cons_zero, Option.some.injEq] at h
    subst h
    exact ⟨rfl, rfl⟩
  | q :: E, i + 1, p, h => by
    obtain ⟨h1, h2⟩ := flatP_at (E := E) (i := i) (p := p) (by simpa using h)
    have e : flatP (q :: E) = [.int .i64 q.1, .int .i64 q.2] ++ flatP E := rfl
    rw [e, List.getElem?_append_right (by simp only [List.length_cons, List.length_nil]; omega), List.getElem?_append_right (by simp only [List.length_cons, List.length_nil]; omega)]
    simp only [List.length_cons, List.length_nil]
    rw [show (i + 1) * 2 - (0 + 1 + 1) = i * 2 by omega, show (i + 1) * 2 + 1 - (0 + 1 + 1) = i * 2 + 1 by omega]
    exact ⟨h1, h2⟩
/-- v is a slice of pairs of integers. -/
def PL (w : World) (v : Value) (E : List (Int × Int)) : Prop :=
  ∃ (a : Option Addr) (cap : Nat), v = .slice a E.length cap ∧ E.length ≤ cap ∧ cap ≤ maxLen ∧
    (E = [] ∨ ∃ g off, a = some ⟨g, off, none⟩ ∧ g < w.heap.size ∧ ∀ (i : Nat) (p : Int × Int), E[i]? = some p → w.cell? ⟨g, off + i * 2, none⟩ = some (.int .i64 p.1) ∧ w.cell? ⟨g, off + i * 2 + 1, none⟩ = some (.int .i64 p.2))
theorem PL.nil (w : World) : PL w (.slice none 0 0) [] := ⟨none, 0, rfl, Nat.le_refl _, Nat.zero_le _, .inl rfl⟩
theorem PL.carry {w w' : World} {v : Value} {E : List (Int × Int)} (h : PL w v E) (hb : Below w.heap.size w w') : PL w' v E := by
  obtain ⟨a, cap, h1, h2, h3, h4⟩ := h
  refine ⟨a, cap, h1, h2, h3, ?_⟩
  rcases h4 with h4 | ⟨g, off, h4, hg, h5⟩
  · exact .inl h4
  · exact .inr ⟨g, off, h4, Nat.lt_of_lt_of_le hg hb.size, fun i p hp => ⟨Proofs.Ytknjdkgemkmoeaa.carry hb (h5 i p hp).1, Proofs.Ytknjdkgemkmoeaa.carry hb (h5 i p hp).2⟩⟩
theorem PL.cases {w : World} {v : Value} {E : List (Int × Int)} (h : PL w v E) :
    (E = [] ∧ ∃ a cap, v = .slice a 0 cap ∧ cap ≤ maxLen) ∨
    ∃ g off cap, v = .slice (some ⟨g, off, none⟩) E.length cap ∧ E.length ≤ cap ∧ cap ≤ maxLen ∧ 0 < E.length ∧ g < w.heap.size ∧ ∀ (i : Nat) (p : Int × Int), E[i]? = some p → w.cell? ⟨g, off + i * 2, none⟩ = some (.int .i64 p.1) ∧ w.cell? ⟨g, off + i * 2 + 1, none⟩ = some (.int .i64 p.2) := by
  obtain ⟨a, cap, h1, h2, h3, h4⟩ := h
  rcases h4 with rfl | ⟨g, off, rfl, hg, h5⟩
  · exact .inl ⟨rfl, a, cap, h1, h3⟩
  · cases E with
    | nil => exact .inl ⟨rfl, _, cap, h1, h3⟩
    | cons x E => exact .inr ⟨g, off, cap, h1, h2, h3, by simp, hg, h5⟩
theorem PL.owned {w : World} {base : Nat} {e : TypeId} {v : Value} {n : Nat} {E : List (Int × Int)} (h : w.ownsRow base e 2 v n (flatP E)) : PL w v E := by
  obtain ⟨h1, h2⟩ := h
  rw [flatP_length] at h1
  rcases h2 with ⟨h3, h4⟩ | ⟨g, cap, cur, h3, h4, h5, h6, h7, h8, h9⟩
  · subst h4
    have : E = [] := List.length_eq_zero_iff.1 (by omega)
    subst this
    rw [h3]; exact PL.nil w
  · have cell : ∀ i u, (flatP E)[i]? = some u → w.cell? ⟨g, i, none⟩ = some u := fun i u hu => by
      rw [← h9, List.getElem?_take] at hu
      split at hu
      · simp only [World.cell?, h5]
        simpa using hu
      · cases hu
    refine ⟨_, cap, by rw [h3, show n = E.length by omega], by omega, h7, .inr ⟨g, 0, rfl, (Array.getElem?_eq_some_iff.1 h5).1, fun i p hp => ?_⟩⟩
    rw [Nat.zero_add]
    exact ⟨cell _ _ (flatP_at hp).1, cell _ _ (flatP_at hp).2⟩

/-! ## What is kept when one row turns -/
theorem VL.grown {w w' : World} {row : Option Nat} {v : Value} {xs : List Value} (h : VL w v xs) (hg : w.grownBy w' row) (hne : ∀ k, row = some k → v.ownBlock ≠ some k) : VL w' v xs := by
  obtain ⟨a, cap, h1, h2, h3, h4⟩ := h
  refine ⟨a, cap, h1, h2, h3, ?_⟩
  rcases h4 with h4 | ⟨g, off, rfl, hl, h5⟩
  · exact .inl h4
  · refine .inr ⟨g, off, rfl, Nat.lt_of_lt_of_le hl hg.size, fun i u hu => hg.cell (h5 i u hu) (fun e => hne g e.symm ?_)⟩
    rw [h1]; rfl
/-- The cells of a list in a row of blocks from B on; a store elsewhere. -/
theorem VL.set {w : World} {v : Value} {xs : List Value} (h : VL w v xs) {p : Addr} (u : Value) (hne : v.ownBlock ≠ some p.block) : VL (w.setCell p u) v xs := by
  obtain ⟨a, cap, h1, h2, h3, h4⟩ := h
  refine ⟨a, cap, h1, h2, h3, ?_⟩
  rcases h4 with h4 | ⟨g, off, rfl, hl, h5⟩
  · exact .inl h4
  · refine .inr ⟨g, off, rfl, by simp [World.setCell]; exact hl, fun i x hx => ?_⟩
    have hgp : g ≠ p.block := fun e => hne (by rw [h1, ← e]; rfl)
    exact (World.cell?_of_block (w := w) (Below.heap_setCell _ _ _ _ hgp)).trans (h5 i x hx)

/-! ## Lists of numbers -/
def natI (l : List Nat) : List Int := l.map Int.ofNat
theorem natI_length (l : List Nat) : (natI l).length = l.length := by unfold natI; rw [List.length_map]
theorem natI_inj {l m : List Nat} (h : natI l = natI m) : l = m := by
  unfold natI at h
  exact (List.map_inj_right (fun _ _ h => Int.ofNat.inj h)).1 h
theorem mem_natI {l : List Nat} {z : Int} : z ∈ natI l ↔ 0 ≤ z ∧ z.toNat ∈ l := by
  unfold natI
  rw [List.mem_map]
  constructor
  · rintro ⟨n, hn, rfl⟩; exact ⟨Int.natCast_nonneg n, hn⟩
  · rintro ⟨h1, h2⟩; exact ⟨_, h2, Int.toNat_of_nonneg h1⟩
end Go.Proofs.Ytknjdkgemkmoeaa
