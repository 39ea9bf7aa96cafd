/- For every law: an argument that is a slice of arrays of integers, opened. -/
import Derived.Test.YtlpacihkmfgegaaOpen
namespace Go.Proofs.Ytlpacihkmfgegaa
open Go.ChangeShapes Go.WideShapes Go.ChangeAt Go.RowKit Go.Deep Go.Joins

section
variable {H : Type} {enc : TypeId × Value → H} {P : Program}
theorem open_slice_arrs {t e f : TypeId} {n : Nat} {w : World} {base fuel : Nat} {held : Bool} {spare : Nat → Bool} {cs : List Value} {x : DataW H × List MemPlace} (ht : P.underlying t = some (.slice e)) (he : P.underlying e = some (.array n f)) (hf : P.underlying f = some (.int .i64))
    (hpos : 0 < n) (hC : P.cellsOf e = n) (hc1 : P.cellsOf f = 1) (h : DataW.trod enc P w base spare held fuel t cs = some x) :
    ∃ v Z len, cs = [v] ∧ IntsAt w v n Z len := by
  rcases open_slice ht h with ⟨h0, _⟩ | ⟨a, len, cap, m, n', D, Pl, hcs, hb, hl, hm, hmm, hx, hi⟩
  · exact ⟨.slice none 0 0, fun _ => 0, 0, h0, none, 0, rfl, Nat.le_refl _, Nat.zero_le _, fun _ => (by decide : (Lit.int .i64 0).wf = true), Or.inl rfl⟩
  · have hlm : len ≤ m := by rw [hmm]; split <;> omega
    have key : ∀ i, ∃ z : Int, (Lit.int .i64 z).wf = true ∧ (i < len * n → w.cell? (a.add i) = some (.int .i64 z)) := by
      intro i
      by_cases hil : i < len * n
      · have hq : i / n < len := Nat.div_lt_of_lt_mul (by rw [Nat.mul_comm]; exact hil)
        have hr : i % n < n := Nat.mod_lt _ hpos
        have hir : i / n * n + i % n = i := by have := Nat.div_add_mod i n; rw [Nat.mul_comm] at this; exact this
        generalize i / n = q at *
        generalize i % n = j at *
        obtain ⟨cs', hc, ht'⟩ := hi q (by omega)
        rw [hC] at hc
        obtain ⟨xs, m', rfl, hxx, hl', hlx, hel⟩ := DataW.trod_array he ht'
        obtain ⟨_, hcl, hat⟩ := World.cells?_some hc
        have hcell := hat j hr
        have h1 := hel j hr
        rw [hc1, Nat.mul_one] at h1
        have hone' : (cs'.drop j).take 1 = [cs'[j]'(by omega)] := by
          rw [List.drop_eq_getElem_cons (by omega)]
          rfl
        have hys : xs[j]? = some (xs[j]'(by omega)) := List.getElem?_eq_getElem (by omega)
        rw [hone', hys] at h1
        obtain ⟨z, e1, e2, e3⟩ := DataW.trod_int hf h1
        simp only [List.cons.injEq, and_true] at e1
        have hv : cs'[j]? = some (cs'[j]'(by omega)) := List.getElem?_eq_getElem (by omega)
        refine ⟨z, e3, fun _ => ?_⟩
        rw [← hir, ← Go.Deep.add_add, hcell, hv, e1]
      · exact ⟨0, by decide, fun h => absurd h hil⟩
    refine ⟨_, fun i => (key i).choose, len, hcs, some a, cap, rfl, hl, hm, fun i => (key i).choose_spec.1, ?_⟩
    by_cases hz : len * n = 0
    · rcases Nat.mul_eq_zero.1 hz with h0 | h0
      · exact Or.inl h0
      · omega
    · obtain ⟨b, off, spot⟩ := a
      have hspot : spot = none := by
        have := World.cell?_spot ((key 0).choose_spec.2 (by omega))
        simpa [Addr.add] using this
      subst hspot
      exact Or.inr ⟨b, off, rfl, fun i hi => by rw [← add_plain]; exact (key i).choose_spec.2 hi⟩
end
example {H : Type} {enc : TypeId × Value → H} {w : World} {base fuel : Nat} {held : Bool} {spare : Nat → Bool} {cs : List Value} {x : DataW H × List MemPlace} (h : DataW.trod enc Try.prog w base spare held fuel 51 cs = some x) : ∃ v Z len, cs = [v] ∧ IntsAt w v 2 Z len :=
  open_slice_arrs Try.underlying51 Try.underlying54 Try.underlying3 (by decide) (by kernel_rfl) (by kernel_rfl) h
end Go.Proofs.Ytlpacihkmfgegaa
