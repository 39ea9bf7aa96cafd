/- For every law: an argument that is a slice of integers, or a slice of structs of integers, or a struct that holds one, opened; all arguments read behind the call as they did. -/
import Derived.Test.YtknjdkgemkmoeaaLawKit
import Derived.Carry
import Derived.Deep.Slices
import Derived.Deep.Fields
import Derived.Lib.SmallJoins
namespace Go.Proofs.Ytknjdkgemkmoeaa
open Go.ChangeShapes Go.WideShapes Go.ChangeAt Go.RowKit Go.Deep Go.Joins

section
variable {H : Type} {enc : TypeId × Value → H} {P : Program}

/-- All arguments read behind the call as they did. -/
theorem trodAll_stays (hl : laidOutB P = true) {W W' : World} (hb : Below W.heap.size W W') {sp' : Nat → Bool} : ∀ {ts : List TypeId} {vs : List Value} {ds : List (DataW H)} {ps : List MemPlace},
    (∀ t ∈ ts, P.readableRec t = true ∧ t < P.types.size) → DataW.TrodAll enc P W 0 (fun _ => true) true ts vs ds ps → (∀ p ∈ ps, p.block < W.heap.size) → (∀ p ∈ ps, sp' p.block = true) →
    DataW.TrodAll enc P W' 0 sp' true ts vs ds ps
  | [], [], [], _, _, h, _, _ => h
  | _ :: _, _ :: _, _ :: _, _, hT, ⟨p, q, h1, h2, e⟩, hlt, hs =>
    ⟨p, q, Go.WideElems.Trod_stays hl (hT _ (List.mem_cons.2 (Or.inl rfl))).1 (hT _ (List.mem_cons.2 (Or.inl rfl))).2 h1
        (fun x hx => hb.same (hlt x (by rw [e]; exact List.mem_append_left _ hx))) (fun x hx => hs x (by rw [e]; exact List.mem_append_left _ hx)),
      trodAll_stays hl hb (fun t ht => hT t (List.mem_cons.2 (Or.inr ht))) h2 (fun x hx => hlt x (by rw [e]; exact List.mem_append_right _ hx)) (fun x hx => hs x (by rw [e]; exact List.mem_append_right _ hx)), e⟩

/-- v is a slice of 'len' elements of k integers each: the cells from its start read Z. -/
def IntsAt (w : World) (v : Value) (k : Nat) (Z : Nat → Int) (len : Nat) : Prop :=
  ∃ (a : Option Addr) (cap : Nat), v = .slice a len cap ∧ len ≤ cap ∧ cap ≤ maxLen ∧ (∀ i, (Lit.int .i64 (Z i)).wf = true) ∧
    (len = 0 ∨ ∃ g off, a = some ⟨g, off, none⟩ ∧ ∀ i, i < len * k → w.cell? ⟨g, off + i, none⟩ = some (.int .i64 (Z i)))

theorem open_slice_cells {t e : TypeId} {fs : Array Field} {w : World} {base fuel : Nat} {held : Bool} {spare : Nat → Bool} {cs : List Value} {x : DataW H × List MemPlace} (ht : P.underlying t = some (.slice e)) (he : P.underlying e = some (.struct fs))
    (hone : oneCellFields P fs = true) (hpos : 0 < fs.size) (hC : P.cellsOf e = fs.size) (hint : ∀ (j : Nat) (f : Field), fs[j]? = some f → P.underlying f.type = some (.int .i64)) (h : DataW.trod enc P w base spare held fuel t cs = some x) :
    ∃ v Z len, cs = [v] ∧ IntsAt w v fs.size Z len := by
  rcases open_slice ht h with ⟨h0, _⟩ | ⟨a, len, cap, m, n, D, Pl, hcs, hb, hl, hm, hmm, hx, hi⟩
  · exact ⟨.slice none 0 0, fun _ => 0, 0, h0, none, 0, rfl, Nat.le_refl _, Nat.zero_le _, fun _ => (by decide : (Lit.int .i64 0).wf = true), Or.inl rfl⟩
  · have hlm : len ≤ m := by rw [hmm]; split <;> omega
    have key : ∀ i, ∃ z : Int, (Lit.int .i64 z).wf = true ∧ (i < len * fs.size → w.cell? (a.add i) = some (.int .i64 z)) := by
      intro i
      by_cases hil : i < len * fs.size
      · have hq : i / fs.size < len := Nat.div_lt_of_lt_mul (by rw [Nat.mul_comm]; exact hil)
        have hr : i % fs.size < fs.size := Nat.mod_lt _ hpos
        have hir : i / fs.size * fs.size + i % fs.size = i := by have := Nat.div_add_mod i fs.size; rw [Nat.mul_comm] at this; exact this
        generalize i / fs.size = q at *
        generalize i % fs.size = j at *
        obtain ⟨cs', hc, ht'⟩ := hi q (by omega)
        rw [hC] at hc
        obtain ⟨ys, n', hn', hy, hlen, hyl, hf⟩ := DataW.trod_struct he ht'
        obtain ⟨_, hcl, hat⟩ := World.cells?_some hc
        have hj : fs[j]? = some fs[j] := Array.getElem?_eq_getElem hr
        obtain ⟨ho, hk⟩ := hone_of hone j _ hj
        have hcell := hat j hr
        have h1 := hf j _ hj
        rw [ho, hk] at h1
        have hone' : (cs'.drop j).take 1 = [cs'[j]'(by omega)] := by
          rw [List.drop_eq_getElem_cons (by omega)]
          rfl
        have hys : ys[j]? = some (ys[j]'(by omega)) := List.getElem?_eq_getElem (by omega)
        rw [hone', hys] at h1
        obtain ⟨z, e1, e2, e3⟩ := DataW.trod_int (hint j _ hj) h1
        simp only [List.cons.injEq, and_true] at e1
        have hv : cs'[j]? = some (cs'[j]'(by omega)) := List.getElem?_eq_getElem (by omega)
        refine ⟨z, e3, fun _ => ?_⟩
        rw [← hir, ← Go.Deep.add_add, hcell, hv, e1]
      · exact ⟨0, by decide, fun h => absurd h hil⟩
    refine ⟨_, fun i => (key i).choose, len, hcs, some a, cap, rfl, hl, hm, fun i => (key i).choose_spec.1, ?_⟩
    by_cases hz : len * fs.size = 0
    · rcases Nat.mul_eq_zero.1 hz with h0 | h0
      · exact Or.inl h0
      · omega
    · obtain ⟨b, off, spot⟩ := a
      have hspot : spot = none := by
        have := World.cell?_spot ((key 0).choose_spec.2 (by omega))
        simpa [Addr.add] using this
      subst hspot
      exact Or.inr ⟨b, off, rfl, fun i hi => by rw [← add_plain]; exact (key i).choose_spec.2 hi⟩

theorem open_int_cells {t e : TypeId} {w : World} {base fuel : Nat} {held : Bool} {spare : Nat → Bool} {cs : List Value} {x : DataW H × List MemPlace} (ht : P.underlying t = some (.slice e)) (he : P.underlying e = some (.int .i64)) (hc : P.cellsOf e = 1)
    (h : DataW.trod enc P w base spare held fuel t cs = some x) : ∃ v Z len, cs = [v] ∧ IntsAt w v 1 Z len := by
  rcases open_ints ht he hc h with ⟨h0, _⟩ | ⟨a, len, cap, zs, hcs, hb, hl, hm, hz, hx, hcell, hw⟩
  · exact ⟨.slice none 0 0, fun _ => 0, 0, h0, none, 0, rfl, Nat.le_refl _, Nat.zero_le _, fun _ => (by decide : (Lit.int .i64 0).wf = true), Or.inl rfl⟩
  · have hlz : len ≤ zs.length := by rw [hz]; split <;> omega
    refine ⟨_, fun i => zs.getD i 0, len, hcs, some a, cap, rfl, hl, hm, fun i => ?_, ?_⟩
    · by_cases hi : i < zs.length
      · have e1 : zs.getD i 0 = zs[i] := by simp [List.getD, hi]
        show (Lit.int .i64 (zs.getD i 0)).wf = true
        rw [e1]; exact hw _ (List.getElem_mem hi)
      · have e1 : zs.getD i 0 = 0 := by simp [List.getD, hi]
        show (Lit.int .i64 (zs.getD i 0)).wf = true
        rw [e1]; decide
    · by_cases h0 : len = 0
      · exact Or.inl h0
      · obtain ⟨b, off, spot⟩ := a
        have hspot : spot = none := by
          have := World.cell?_spot (hcell 0 (by omega))
          simpa [Addr.add] using this
        subst hspot
        exact Or.inr ⟨b, off, rfl, fun i hi => by rw [← add_plain]; exact hcell i (by omega)⟩
theorem IntsAt.wf {w : World} {v : Value} {k len : Nat} {Z : Nat → Int} (h : IntsAt w v k Z len) : ∀ i, (Lit.int .i64 (Z i)).wf = true := by
  obtain ⟨_, _, _, _, _, h, _⟩ := h; exact h
theorem IntsAt.carry {w w' : World} {v : Value} {k len : Nat} {Z : Nat → Int} (h : IntsAt w v k Z len) (hb : Below w.heap.size w w') : IntsAt w' v k Z len := by
  obtain ⟨a, cap, h1, h2, h3, h4, h5⟩ := h
  refine ⟨a, cap, h1, h2, h3, h4, ?_⟩
  rcases h5 with h5 | ⟨g, off, h5, h6⟩
  · exact Or.inl h5
  · exact Or.inr ⟨g, off, h5, fun i hi => Proofs.Ytknjdkgemkmoeaa.carry hb (h6 i hi)⟩
end
end Go.Proofs.Ytknjdkgemkmoeaa
