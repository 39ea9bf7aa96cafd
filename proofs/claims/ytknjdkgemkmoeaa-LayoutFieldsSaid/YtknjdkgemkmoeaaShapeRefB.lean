/- The reference's turned polygons. -/
import Derived.Test.YtknjdkgemkmoeaaShapeRef
import Derived.Deep.DeepFit
namespace Go.Proofs.Ytknjdkgemkmoeaa
open Go.ChangeShapes Go.WideShapes Go.ChangeAt Go.RowKit
open Fxm
set_option linter.unusedSimpArgs false
set_option linter.unusedVariables false

theorem vinfo : (Try.prog.info? 52).map (fun i => (i.zero, i.size, i.bytes)) = some (some (.agg #[.int .i64 0, .int .i64 0]), 2, 16) := by kernel_rfl

theorem flatV_length : ∀ vs, (flatV vs).length = vs.length * 2
  | [] => rfl
  | p :: l => by simp only [flatV, List.length_cons, flatV_length l]; omega
theorem flatV_append : ∀ a b, flatV (a ++ b) = flatV a ++ flatV b
  | [], _ => rfl
  | p :: l, b => by simp [flatV, flatV_append l b]
theorem flatV_drop : ∀ (vs : List (Int × Int)) k, (flatV vs).drop (k * 2) = flatV (vs.drop k)
  | vs, 0 => by simp
  | [], k + 1 => by simp [flatV]
  | p :: l, k + 1 => by
    rw [show (k + 1) * 2 = k * 2 + 1 + 1 by omega]
    simp only [flatV, List.drop_succ_cons]
    exact flatV_drop l k
theorem flatV_take : ∀ (vs : List (Int × Int)) k, (flatV vs).take (k * 2) = flatV (vs.take k)
  | vs, 0 => by simp [flatV]
  | [], k + 1 => by simp [flatV]
  | p :: l, k + 1 => by
    rw [show (k + 1) * 2 = k * 2 + 1 + 1 by omega]
    simp only [flatV, List.take_succ_cons, flatV_take l k]
theorem flatV_one : ∀ (vs : List (Int × Int)) u, u ∈ flatV vs → u.oneCell' = true
  | [], u, h => by simp [flatV] at h
  | p :: l, u, h => by
    simp only [flatV, List.mem_cons] at h
    rcases h with rfl | rfl | h
    · rfl
    · rfl
    · exact flatV_one l u h

/-- The slice value v holds the vertices vs. -/
def PolyAt (w : World) (v : Value) (vs : List (Int × Int)) : Prop :=
  (v = .slice none 0 0 ∧ vs = []) ∨ ∃ g off cap, v = .slice (some ⟨g, off, none⟩) vs.length cap ∧ vs ≠ [] ∧ vs.length ≤ cap ∧ cap ≤ maxLen ∧ ∀ i u, (flatV vs)[i]? = some u → w.cell? ⟨g, off + i, none⟩ = some u
theorem PolyAt.carry {w w' : World} {v : Value} {vs : List (Int × Int)} (h : PolyAt w v vs) (hb : Below w.heap.size w w') : PolyAt w' v vs := by
  rcases h with h | ⟨g, off, cap, h1, h2, h3, h4, h5⟩
  · exact Or.inl h
  · exact Or.inr ⟨g, off, cap, h1, h2, h3, h4, fun i u hu => Proofs.Ytknjdkgemkmoeaa.carry hb (h5 i u hu)⟩
theorem PolyAt.owned {w : World} {base : Nat} {v : Value} {vs : List (Int × Int)} (h : w.ownsRow base 52 2 v vs.length (flatV vs)) (hv : vs ≠ []) : PolyAt w v vs := by
  obtain ⟨h1, h2⟩ := h
  rcases h2 with ⟨h3, h4⟩ | ⟨g, cap, cur, h3, h4, h5, h6, h7, h8, h9⟩
  · exact Or.inl ⟨h3, List.length_eq_zero_iff.1 h4⟩
  · refine Or.inr ⟨g, 0, cap, h3, hv, h6, h7, fun i u hu => ?_⟩
    rw [Nat.zero_add, heap_cell h5]
    rw [← h9, List.getElem?_take] at hu
    split at hu
    · simpa using hu
    · cases hu

/-- A slice of n = vs.length vertices that starts at block g's head, of capacity cap, holds vs. -/
structure Row (w : World) (g cap : Nat) (vs : List (Int × Int)) : Prop where
  le : vs.length ≤ cap
  max : cap ≤ maxLen
  cells : ∀ i u, (flatV vs)[i]? = some u → w.cell? ⟨g, i, none⟩ = some u
theorem Row.carry {w w' : World} {g cap : Nat} {vs : List (Int × Int)} (h : Row w g cap vs) (hb : Below w.heap.size w w') : Row w' g cap vs :=
  ⟨h.le, h.max, fun i u hu => Proofs.Ytknjdkgemkmoeaa.carry hb (h.cells i u hu)⟩
theorem Row.owned {w : World} {base g cap n : Nat} {vs : List (Int × Int)} (h : w.ownsRow base 52 2 (.slice (some ⟨g, 0, none⟩) n cap) n (flatV vs)) (hn : vs.length = n) : Row w g cap vs := by
  subst hn
  obtain ⟨h1, h2⟩ := h
  rcases h2 with ⟨h3, h4⟩ | ⟨g', cap', cur, h3, h4, h5, h6, h7, h8, h9⟩
  · cases h3
  · simp only [Value.slice.injEq, Option.some.injEq, Addr.mk.injEq] at h3
    obtain ⟨⟨rfl, _, _⟩, _, rfl⟩ := h3
    refine ⟨h6, h7, fun i u hu => ?_⟩
    rw [heap_cell h5]
    rw [← h9, List.getElem?_take] at hu
    split at hu
    · simpa using hu
    · cases hu
theorem Row.store {w : World} {g cap : Nat} {vs : List (Int × Int)} (h : Row w g cap vs) {p : Addr} (hp : p.block ≠ g) (v : Value) : Row (w.setCell p v) g cap vs :=
  ⟨h.le, h.max, fun i u hu => (World.cell?_setCell_far _ _ _ _ hp).trans (h.cells i u hu)⟩

theorem news_of {w W : World} {g off : Nat} {vs : List (Int × Int)} (hb : Below w.heap.size w W) (hc : ∀ i u, (flatV vs)[i]? = some u → w.cell? ⟨g, off + i, none⟩ = some u) (k : Nat) :
    ∀ j u, (flatV (vs.drop k))[j]? = some u → W.cell? ((⟨g, off + k * 2, none⟩ : Addr).add j) = some u := fun j u hu => by
  rw [← flatV_drop, List.getElem?_drop] at hu
  have := Proofs.Ytknjdkgemkmoeaa.carry hb (hc _ _ hu)
  rw [show (⟨g, off + k * 2, none⟩ : Addr).add j = ⟨g, off + (k * 2 + j), none⟩ by simp [Addr.add, Nat.add_assoc]]
  exact this
theorem news_to {w W : World} {g off : Nat} {vs : List (Int × Int)} (hb : Below w.heap.size w W) (hc : ∀ i u, (flatV vs)[i]? = some u → w.cell? ⟨g, off + i, none⟩ = some u) (k : Nat) :
    ∀ j u, (flatV (vs.take k))[j]? = some u → W.cell? ((⟨g, off, none⟩ : Addr).add j) = some u := fun j u hu => by
  rw [← flatV_take, List.getElem?_take] at hu
  split at hu
  · rw [show (⟨g, off, none⟩ : Addr).add j = ⟨g, off + j, none⟩ by simp [Addr.add]]
    exact Proofs.Ytknjdkgemkmoeaa.carry hb (hc _ _ hu)
  · cases hu

theorem owned_shape {w : World} {base : Nat} {e : TypeId} {size n : Nat} {v : Value} {xs : List Value} (h : w.ownsRow base e size v n xs) (hn : 0 < n) : ∃ g cap, v = .slice (some ⟨g, 0, none⟩) n cap := by
  rcases h.2 with ⟨_, h2⟩ | ⟨g, cap, cur, h3, _⟩
  · omega
  · exact ⟨g, cap, h3⟩
/-- append onto a row of the call's own; something is in it behind: the new value written out. -/
theorem append_row {P : Program} {ops : Array Oper} {rest : List Oper} {o : Oper} {a : Act} {w : World} {Q : Exit → Act → World → Prop} (hgd : o.guard = none) (s x : Operand) (t : TypeId)
    (ho : o.op = .call { callee := .builtin .append, args := #[s, x], argTypes := #[t, t] })
    (base : Nat) (e : TypeId) (i : TypeInfo) (z : Value) (size bytes : Nat) (ht : P.underlying t = some (.slice e)) (hi : P.info? e = some i) (hz : i.zero = some z)
    (hsize : i.size = size) (hby : i.bytes = bytes) (hzs : z.cells.size = size) (hsz : 0 < size)
    (v : Value) (n : Nat) (xs : List Value) (hs : a.eval s = v) (hown : w.ownsRow base e size v n xs)
    (ad : Addr) (m c : Nat) (news : List Value) (hx : a.eval x = .slice (some ad) m c) (hl : news.length = m * size) (hnews : ∀ j u, news[j]? = some u → w.cell? (ad.add j) = some u) (h1 : ∀ u ∈ news, u.oneCell' = true)
    (h63 : n + m ≤ maxLen) (hbytes : (n + m) * bytes ≤ 140737488355328) (hbase : base ≤ w.heap.size) (hnm : 0 < n + m)
    (h : ∀ g cap w', w'.ownsRow base e size (.slice (some ⟨g, 0, none⟩) (n + m) cap) (n + m) (xs ++ news) → Below base w w' → wpList P ops Q rest (a.put o.dst (.slice (some ⟨g, 0, none⟩) (n + m) cap)) w') : wpList P ops Q (o :: rest) a w :=
  wpList_append_own _ hgd s x t ho base e i z size bytes ht hi hz hsize hby hzs hsz v n xs hs hown ad m c news hx hl hnews h1 h63 hbytes hbase fun v' w' h2 h3 _ => by
    have hb := (Below.refl base w).grown h3 hbase (fun j hj => (hown.lt j hj).1)
    obtain ⟨g, cap, rfl⟩ := owned_shape h2 hnm
    exact h g cap w' h2 hb

end Go.Proofs.Ytknjdkgemkmoeaa
