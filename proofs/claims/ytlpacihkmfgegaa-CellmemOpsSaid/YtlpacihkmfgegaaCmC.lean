/- Package cellmem: since, Cells, New. -/
import Derived.Test.YtlpacihkmfgegaaCmB
namespace Go.Proofs.Ytlpacihkmfgegaa
open Go.ChangeShapes Go.WideShapes Go.ChangeAt Go.RowKit
open Cm
set_option linter.unusedSimpArgs false
set_option linter.unusedVariables false

theorem own_shape {w : World} {base : Nat} {e : TypeId} {k : Nat} {v : Value} {n : Nat} {xs : List Value} (h : w.ownsRow base e k v n xs) : ∃ a n c, v = .slice a n c := by
  rcases h.2 with ⟨rfl, _⟩ | ⟨g, cap, cur, rfl, _⟩ <;> exact ⟨_, _, _, rfl⟩
theorem sub_mark {m : Int} {r k : Nat} (h5 : 0 ≤ m) (hk : k = m.toNat - r) (h3 : r ≤ m.toNat) : m - (r : Int) = (k : Int) := by omega
section
variable {w : World} {b : Nat} {O : Nat → Prop} {S : Me} {cv lv : Value}
set_option maxHeartbeats 2000000 in
/-- The log from a mark on. -/
theorem Cm.Par.since (h : Par w b O S cv lv) (hP : S.pos ≤ 10000) {m : Int} (hm : S.err m = 0) : Calls Try.prog 45 #[.pointer (some ⟨b, 0, none⟩), .int .i64 m] w fun e w' =>
    ∃ v, e = .returned v ∧ SRow w' 69 2 v (S.lg.drop (m.toNat - S.base)).length (ents (S.lg.drop (m.toNat - S.base))) ∧ (∀ g, v.ownBlock = some g → lv.ownBlock = some g) ∧ Below w.heap.size w w' := by
  obtain ⟨h1, _, h3, h4, h5⟩ := Me.undo_pos hm
  have c1 := h.at1
  have c2 := h.at2
  obtain ⟨a, cap, rfl, hc1, hc2, hc3, _⟩ := h.log.shape (by decide)
  have hl := h.log
  obtain ⟨k, hk⟩ : ∃ k, k = m.toNat - S.base := ⟨_, rfl⟩
  have hkn : k ≤ S.lg.length := by unfold Me.pos at h4; omega
  have hd := hl.drop hkn
  rw [ents_drop, ← List.length_drop] at hd
  rw [← hk]
  have hd' := Lib.hid hd
  have hsub : m - (S.base : Int) = (k : Int) := sub_mark h5 hk h3
  have hmb : 0 ≤ m ∧ m ≤ 10000 := ⟨h5, by omega⟩
  have hbb : S.base ≤ 10000 := by omega
  rw [List.length_drop] at hd' ⊢
  unfold maxLen at hc2
  clear hd hl h h1 h3 h4 h5 hP hm hk
  generalize S.base = r at *
  generalize S.lg.drop k = E at *
  generalize S.lg.length = n at *
  have i0 : (0 : Int) ≤ (k : Int) := by omega
  have i1 : (k : Int) ≤ (n : Int) := by omega
  have i2 : (n : Int) ≤ (cap : Int) := by omega
  have e2 : Try.prog.underlying 63 = some (.slice 69) := Try.underlying63
  go_enter Try.func45, Try.ntmps45
  go_wp2_with fail
  go_quiet (fail)
  by_cases hck : cap = k
  · have h0 := hd'.out.1
    rw [if_pos hck, show cap - k = 0 by omega] at h0
    go_wp2
    refine bodyPost_ret (v := .slice a (n - k) 0) (by simp [results, Try.results45, go_sem]) rfl ⟨_, rfl, h0.carry (below_drewN _ _), fun g hg => ?_, below_drewN _ _⟩
    cases a with
    | none => simp [Value.ownBlock] at hg
    | some x => simpa [Value.ownBlock] using hg
  · have h0 := hd'.out.1
    have h1 := hd'.out.2
    rw [if_neg hck] at h0 h1
    go_wp2
    exact bodyPost_ret (v := .slice (a.map (·.add (k * 2))) (n - k) (cap - k)) (by simp [results, Try.results45, go_sem]) rfl ⟨_, rfl, h0.carry (below_drewN _ _), h1, below_drewN _ _⟩
theorem SRow.il {w : World} {e : TypeId} {v : Value} {l : List Int} (h : SRow w e 1 v l.length (ints l)) : IL w v l := by
  rcases h.2 with ⟨rfl, h1⟩ | ⟨g, off, cap, cur, rfl, h3, h4, h5, h6, h7⟩
  · rw [List.length_eq_zero_iff.1 h1]; exact IL.nil w
  · refine ⟨_, cap, by rw [ints_length], by rw [ints_length]; exact h4, h5, .inr ⟨g, off, rfl, (Array.getElem?_eq_some_iff.1 h3).1, fun i u hu => ?_⟩⟩
    rw [← h7, List.getElem?_take] at hu
    split at hu
    · rw [List.getElem?_drop] at hu
      simp only [World.cell?, h3]
      simpa using hu
    · cases hu
/-- Cells: a copy. -/
theorem Cm.Par.all (h : Par w b O S cv lv) (hN : S.cs.length ≤ 10000) : Calls Try.prog 22 #[.pointer (some ⟨b, 0, none⟩)] w fun e w' =>
    ∃ v, e = .returned v ∧ w'.ownsRow w.heap.size 3 1 v S.cs.length (ints S.cs) ∧ Below w.heap.size w w' := by
  have c0 := h.at0
  have kc := Lib.hid (cloneI_any cv S.cs w h.cells.il (by omega))
  clear h
  go_enter Try.func22, Try.ntmps22
  go_wp2_with (first | (go_at_call 39; with_reducible refine kc.out.mono ?_; rintro e w1 ⟨v, rfl, hr, hb⟩))
  go_ret
  exact ⟨v, rfl, hr, hb⟩
end
/-- New: the object in new blocks. -/
theorem cmNew_any (v : Value) (l : List Int) (w : World) (h : IL w v l) (hn : l.length ≤ 10000) :
    Calls Try.prog 12 #[v] w fun e w' => ∃ b O, e = .returned (.pointer (some ⟨b, 0, none⟩)) ∧ Mo w' b O (Me.new l) ∧ (∀ i, O i → w.heap.size ≤ i) ∧ Below w.heap.size w w' := by
  have kc := Lib.hid (cloneI_any v l w h (by omega))
  clear h
  go_enter Try.func12, Try.ntmps12
  go_wp2_with (first | (go_at_call 39; with_reducible refine kc.out.mono ?_; rintro e w1 ⟨v', rfl, hr, hb⟩; obtain ⟨va, vn, vc, rfl⟩ := own_shape hr; have hr' := Lib.hid hr; have hb' := Lib.hid hb; clear hr hb))
  go_ret
  have hw := hb'.out.size
  refine ⟨w1.heap.size, fun i => i = w1.heap.size ∨ (Value.slice va vn vc).ownBlock = some i, rfl, ⟨.slice va vn vc, .slice none 0 0, ?_⟩, fun i hi => ?_, hb'.out.alloc hw _⟩
  · refine ⟨?_, ?_, SRow.nil _ _ _, fun k hk => ⟨.inr hk, ?_, by simp [Value.ownBlock]⟩, fun k hk => by simp [Value.ownBlock] at hk, .inl rfl, fun k hk => ?_, fun i e he => by simp [Me.new] at he⟩
    · rw [heap_alloc_at, if_pos rfl]; rfl
    · exact SRow.owned (World.ownsRow.alloc hr'.out _)
    · have := (hr'.out.lt k hk).2; omega
    · rcases hk with rfl | hk
      · simp
      · have := (hr'.out.lt k hk).2; simp; omega
  · rcases hi with rfl | hi
    · exact hw
    · exact (hr'.out.lt i hi).1
end Go.Proofs.Ytlpacihkmfgegaa
