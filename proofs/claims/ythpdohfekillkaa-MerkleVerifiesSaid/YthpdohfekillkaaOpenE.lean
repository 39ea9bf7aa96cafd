/- Arguments that are slices of words, and leaves (two integers and a slice of words). -/
import Derived.Test.YthpdohfekillkaaOpen
import Derived.Test.YthpdohfekillkaaHaL
namespace Go.Proofs.Ythpdohfekillkaa
open Go.ChangeShapes Go.WideShapes Go.ChangeAt Go.RowKit Go.Deep Go.Joins
section
variable {H : Type} {enc : TypeId × Value → H} {P : Program}
theorem words_of (zs : List Int) (h : ∀ n, n ∈ zs → (Lit.int .u64 n).wf = true) : ∃ l : List W64, zs.map (Value.int .u64) = u64s l := by
  induction zs with
  | nil => exact ⟨[], rfl⟩
  | cons z zs ih =>
    obtain ⟨l, hl⟩ := ih fun n hn => h n (List.mem_cons_of_mem _ hn)
    obtain ⟨x, hx⟩ := lit_word (h z (List.mem_cons_self ..))
    exact ⟨x :: l, by rw [List.map_cons, hl, hx]; rfl⟩
theorem open_word_cells {t e : TypeId} {w : World} {base fuel : Nat} {held : Bool} {spare : Nat → Bool} {cs : List Value} {x : DataW H × List MemPlace} (ht : P.underlying t = some (.slice e)) (he : P.underlying e = some (.int .u64)) (hc : P.cellsOf e = 1)
    (h : DataW.trod enc P w base spare held fuel t cs = some x) : ∃ v l, cs = [v] ∧ VL w v (u64s l) ∧ ∀ n c, v = .slice none n c → v = .slice none 0 0 := by
  rcases open_ints ht he hc h with ⟨h0, _⟩ | ⟨a, len, cap, zs, hcs, hb, hl, hm, hz, hx, hcell, hw⟩
  · exact ⟨.slice none 0 0, [], h0, ⟨none, 0, rfl, Nat.le_refl _, Nat.zero_le _, Or.inl rfl⟩, fun n c e => rfl⟩
  · have hlz : len ≤ zs.length := by rw [hz]; split <;> omega
    obtain ⟨l, hl'⟩ := words_of (zs.take len) fun n hn => hw n (List.mem_of_mem_take hn)
    have hL : (u64s l).length = len := by rw [← hl', List.length_map, List.length_take]; omega
    refine ⟨_, l, hcs, ⟨some a, cap, by rw [hL], by rw [hL]; exact hl, hm, ?_⟩, fun n c e => (by cases e)⟩
    by_cases h0 : len = 0
    · exact Or.inl (List.length_eq_zero_iff.1 (by rw [hL, h0]))
    · obtain ⟨b, off, spot⟩ := a
      have hspot : spot = none := by
        have := World.cell?_spot (hcell 0 (by omega))
        simpa [Addr.add] using this
      subst hspot
      have h5 := hcell 0 (by omega)
      rw [add_plain] at h5
      refine Or.inr ⟨b, off, rfl, block_lt_of_cell h5, fun i u hu => ?_⟩
      rw [← hl', List.getElem?_map, List.getElem?_take] at hu
      split at hu
      · rename_i hi
        have hi2 : i < zs.length := by omega
        rw [List.getElem?_eq_getElem hi2] at hu
        simp only [Option.map_some, Option.some.injEq] at hu
        have h4 := hcell i hi2
        have e1 : zs.getD i 0 = zs[i] := by simp [List.getD, hi2]
        rw [e1, add_plain] at h4
        rw [h4, ← hu]
      · cases hu
theorem open_leaf {r : Reach} {b0 base : Nat} {held : Bool} {spare : Nat → Bool} {w : World} {t e : TypeId} {f0 f1 f2 : Field} {v : Value} {d : DataW H} {p : List MemPlace} (hs : P.underlying t = some (.struct #[f0, f1, f2])) (hone : oneCellFields P #[f0, f1, f2] = true) (hC : P.cellsOf t = 3)
    (h0 : P.underlying f0.type = some (.int .i64)) (h1 : P.underlying f1.type = some (.int .i64)) (h2 : P.underlying f2.type = some (.slice e)) (he : P.underlying e = some (.int .u64)) (hc : P.cellsOf e = 1)
    (hv : Value.okWide P w r b0 t v) (h : DataW.Trod enc P w base spare held t v d p) :
    ∃ (i n : Int) (s : Value) (l : List W64), v = .agg #[.int .i64 i, .int .i64 n, s] ∧ (Lit.int .i64 i).wf = true ∧ (Lit.int .i64 n).wf = true ∧ VL w s (u64s l) ∧ ∀ m c, s = .slice none m c → s = .slice none 0 0 := by
  obtain ⟨v0, v1, v2, y0, y1, y2, n, rfl, -, -, g0, g1, g2⟩ := Go.Joins.open_agg3 hs hone hC hv h
  obtain ⟨z0, e0, -, w0⟩ := DataW.trod_int h0 g0
  obtain ⟨z1, e1, -, w1⟩ := DataW.trod_int h1 g1
  obtain ⟨s, l, e2, k1, k2⟩ := open_word_cells h2 he hc g2
  simp only [List.cons.injEq, and_true] at e0 e1 e2
  subst e0 e1 e2
  exact ⟨z0, z1, _, l, rfl, w0, w1, k1, k2⟩
end
example {H : Type} {enc : TypeId × Value → H} {w : World} {base fuel : Nat} {held : Bool} {spare : Nat → Bool} {cs : List Value} {x : DataW H × List MemPlace} (h : DataW.trod enc Try.prog w base spare held fuel 31 cs = some x) : ∃ v l, cs = [v] ∧ VL w v (u64s l) ∧ ∀ n c, v = .slice none n c → v = .slice none 0 0 :=
  open_word_cells Try.underlying31 Try.underlying27 (by kernel_rfl) h
example {H : Type} {enc : TypeId × Value → H} {w : World} {base b0 : Nat} {held : Bool} {spare : Nat → Bool} {v : Value} {d : DataW H} {p : List MemPlace} (hv : Value.okWide Try.prog w .any b0 33 v) (h : DataW.Trod enc Try.prog w base spare held 33 v d p) : ∃ (i n : Int) (s : Value) (l : List W64), v = .agg #[.int .i64 i, .int .i64 n, s] ∧ (Lit.int .i64 i).wf = true ∧ (Lit.int .i64 n).wf = true ∧ VL w s (u64s l) ∧ ∀ m c, s = .slice none m c → s = .slice none 0 0 :=
  open_leaf Try.underlying33 (by kernel_rfl) (by kernel_rfl) Try.underlying3 Try.underlying3 Try.underlying31 Try.underlying27 (by kernel_rfl) hv h
end Go.Proofs.Ythpdohfekillkaa
