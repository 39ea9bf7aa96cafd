/- The reference of package cellmem: Undo. -/
import Derived.Test.YtlpacihkmfgegaaCmQ
namespace Go.Proofs.Ytlpacihkmfgegaa
open Go.ChangeShapes Go.WideShapes Go.ChangeAt Go.RowKit
open Cm
set_option linter.unusedSimpArgs false
set_option linter.unusedVariables false

section
variable {w : World} {sv cv : Value} {xs : List Value} {R : Rf} {S : Me}
theorem VL.take {w : World} {a : Option Addr} {n cap : Nat} {xs : List Value} (h : VL w (.slice a n cap) xs) {k : Nat} (hk : k ≤ n) : VL w (.slice a k cap) (xs.take k) := by
  obtain ⟨a', c', e, h2, h3, h4⟩ := h
  simp only [Value.slice.injEq] at e
  obtain ⟨rfl, rfl, rfl⟩ := e
  have hl : (xs.take k).length = k := by rw [List.length_take]; omega
  refine ⟨a, cap, by rw [hl], by omega, h3, ?_⟩
  rcases h4 with rfl | ⟨g, off, h5, h6, h7⟩
  · exact .inl (by simp)
  · exact .inr ⟨g, off, h5, h6, fun i u hu => h7 i u (by rw [List.getElem?_take] at hu; split at hu; exact hu; cases hu)⟩
set_option maxHeartbeats 4000000 in
theorem refUndo_any (h : Rv w sv cv xs R) (hs : Says R S) (hP : S.pos ≤ 10000) (m : Int) :
    Calls Try.prog 16 #[refV sv cv R, .int .i64 m] w fun e w' => ∃ sv' cv' xs' R', e = .returned (.tuple #[refV sv' cv' R', .int .i64 (S.err m)]) ∧ Rv w' sv' cv' xs' R' ∧ Says R' (S.undo m) ∧ (∀ g, Rown sv' cv' xs' g → Rown sv cv xs g) ∧ Below w.heap.size w w' := by
  have hb1 := alloc_below w (.cells #[sv, cv, .int .i64 (R.base : Nat)] 28)
  have hp1 := heap_alloc_new w (.cells #[sv, cv, .int .i64 (R.base : Nat)] 28)
  have hq1 := heap_alloc_new (w.alloc (.cells #[sv, cv, .int .i64 (R.base : Nat)] 28)) (.cells #[.slice none 0 0, .slice none 0 0, .int .i64 0] 28)
  have hb2 := alloc_below (w.alloc (.cells #[sv, cv, .int .i64 (R.base : Nat)] 28)) (.cells #[.slice none 0 0, .slice none 0 0, .int .i64 0] 28)
  replace hp1 := h_over hb2 hp1
  have hb := below_step hb1 hb2
  rw [World.size_alloc] at hq1
  obtain ⟨V, hV⟩ : ∃ V, V = (w.alloc (.cells #[sv, cv, .int .i64 (R.base : Nat)] 28)).alloc (.cells #[.slice none 0 0, .slice none 0 0, .int .i64 0] 28) := ⟨_, rfl⟩
  rw [← hV] at hp1 hq1 hb
  have kc := Lib.hid (refCheck_any (h.carry hb) hs hP m)
  have hR := Lib.hid h
  have hS := Lib.hid hs
  have hpl : R.ce.length ≤ 10000 := by rw [hs.pos]; exact hP
  have hxl : xs.length = R.ce.length + 1 := by rw [h.len, hs.len]
  obtain ⟨sa, sc, hsv, hs1, hs2, hs3⟩ := h.st.shape
  obtain ⟨g, off, rfl, _, _⟩ := hs3 (by omega)
  rw [hxl] at hsv hs1
  obtain ⟨ca, cc, hcv, hc1, hc2, _⟩ := h.ce
  rw [ints_length, natI_length] at hcv hc1
  subst hsv
  subst hcv
  unfold refV at *
  unfold maxLen at hs2 hc2
  have hV' := Lib.hid hV
  have hp' := Lib.hid hp1
  have hq' := Lib.hid hq1
  have hb' := Lib.hid hb
  clear h hs hb1 hb2 hb hp1 hq1 hV hs3
  by_cases hz : S.err m = 0
  · obtain ⟨_, _, _, hmp, hm0⟩ := Me.undo_pos hz
    have hsay := Lib.hid (hS.out.undo hz)
    rw [hz] at kc ⊢
    obtain ⟨k, rfl⟩ : ∃ k : Nat, m = (k : Int) := ⟨m.toNat, by omega⟩
    rw [Int.toNat_natCast] at hsay hmp
    rw [← hS.out.pos] at hmp
    clear hz hm0 hP
    generalize hn : R.ce.length = n at *
    have hn' := Lib.hid hn
    clear hn
    have i1 : (0 : Int) ≤ (k : Int) + 1 := by omega
    have i2 : (k : Int) + 1 ≤ (sc : Int) := by omega
    have i3 : (0 : Int) ≤ (k : Int) := by omega
    have i4 : (k : Int) ≤ (cc : Int) := by omega
    have i5 : ¬ sc = 0 := by omega
    go_enter Try.func16, Try.ntmps16
    go_upto_region 1 with fail
    rw [show (w.alloc (.cells #[.slice (some ⟨g, off, none⟩) (n + 1) sc, .slice ca n cc, .int .i64 (R.base : Nat)] 28)).alloc (.cells #[.slice none 0 0, .slice none 0 0, .int .i64 0] 28) = V from hV'.out.symm]
    obtain ⟨p0, p1, p2, _, _, pf2, pl⟩ := obj3 hp'.out
    go_upto_region 2 with (first | (go_at_call 41; with_reducible refine kc.out.mono ?_; rintro e y1 ⟨rfl, hb1⟩; have hpy := h_over hb1 hp'.out; have hqy := h_over hb1 hq'.out; obtain ⟨c0, c1, c2, cf0, cf1, cf2, cl⟩ := obj3 hpy; obtain ⟨d0, d1, d2, df0, df1, df2, dl⟩ := obj3 hqy; have hpy' := Lib.hid hpy; have hqy' := Lib.hid hqy; have hb1' := Lib.hid hb1; clear hb1 hpy hqy p0 p1 p2 pf2 pl))
    go_wp2_with fail
    have hB := Lib.hid ((((((below_step hb'.out hb1'.out).setCell (p := ⟨w.heap.size, 0, none⟩) (Nat.le_refl _) (.slice (some ⟨g, off, none⟩) (k + 1) sc)).setCell (p := ⟨w.heap.size, 1, none⟩) (Nat.le_refl _) (.slice ca k cc)).setCell (p := ⟨w.heap.size + 1, 0, none⟩) (Nat.le_succ _) (.slice (some ⟨g, off, none⟩) (k + 1) sc)).setCell (p := ⟨w.heap.size + 1, 1, none⟩) (Nat.le_succ _) (.slice ca k cc)).setCell (p := ⟨w.heap.size + 1, 2, none⟩) (Nat.le_succ _) (.int .i64 (R.base : Nat)))
    have hs := (store3 (h_set (p := ⟨w.heap.size, 1, none⟩) (v := .slice ca k cc) (h_set (p := ⟨w.heap.size, 0, none⟩) (v := .slice (some ⟨g, off, none⟩) (k + 1) sc) hqy'.out (by simp only; omega)) (by simp only; omega)) (.slice (some ⟨g, off, none⟩) (k + 1) sc) (.slice ca k cc) (.int .i64 (R.base : Nat))).1
    generalize World.setCell (World.setCell (World.setCell _ ⟨w.heap.size + 1, 0, none⟩ _) ⟨w.heap.size + 1, 1, none⟩ _) ⟨w.heap.size + 1, 2, none⟩ _ = Wz at *
    obtain ⟨e0, e1, e2, _⟩ := obj3 hs
    have hRz := hR.out.carry hB.out
    refine bodyPost_ret (v := .tuple #[.agg #[.slice (some ⟨g, off, none⟩) (k + 1) sc, .slice ca k cc, .int .i64 (R.base : Nat)], .int .i64 0]) (by simp [results, Try.results16, go_sem, e0, e1, e2]) rfl ⟨.slice (some ⟨g, off, none⟩) (k + 1) sc, .slice ca k cc, xs.take (k + 1), ⟨R.st.take (k + 1), R.ce.take k, R.base⟩, rfl, ?_, hsay.out, fun g hg => hg.elim .inl (fun h => h.elim (fun h => .inr (.inl (show (Value.slice ca n cc).ownBlock = some g from by cases ca with | none => simp [Value.ownBlock] at h | some a => exact h))) (fun ⟨x, h1, h2⟩ => .inr (.inr ⟨x, List.mem_of_mem_take h1, h2⟩))), hB.out⟩
    refine ⟨VL.take hRz.st (by omega), by simp only [List.length_take]; rw [hRz.len], ?_, fun i x hx => hRz.nx i x (by rw [List.getElem?_take] at hx; split at hx; exact hx; cases hx), ?_, ?_⟩
    · intro i x l hx hl
      simp only [List.getElem?_take] at hx hl
      split at hx
      · rw [if_pos (by assumption)] at hl
        exact hRz.el i x l hx hl
      · cases hx
    · have := VL.take (show VL Wz (.slice ca n cc) (ints (natI R.ce)) from hRz.ce) (k := k) (by omega)
      show VL Wz _ (ints (natI (R.ce.take k)))
      rw [show ints (natI (R.ce.take k)) = (ints (natI R.ce)).take k from by simp [ints, natI, List.map_take]]
      exact this
    · intro n' c' e
      simp only [Value.slice.injEq] at e
      obtain ⟨rfl, rfl, rfl⟩ := e
      have e2 := hRz.nc _ _ rfl
      simp only [Value.slice.injEq, true_and] at e2
      obtain ⟨rfl, rfl⟩ := e2
      obtain rfl : k = 0 := by omega
      rfl
  · have hbad := Lib.hid (Me.undo_bad hz)
    have hne : (S.err m == 0) = false := by simpa using hz
    generalize S.err m = er at *
    clear hz
    go_enter Try.func16, Try.ntmps16
    go_upto_region 1 with fail
    rw [show (w.alloc (.cells #[.slice (some ⟨g, off, none⟩) (R.ce.length + 1) sc, .slice ca R.ce.length cc, .int .i64 (R.base : Nat)] 28)).alloc (.cells #[.slice none 0 0, .slice none 0 0, .int .i64 0] 28) = V from hV'.out.symm]
    obtain ⟨p0, p1, p2, _, _, pf2, pl⟩ := obj3 hp'.out
    go_upto_region 2 with (first | (go_at_call 41; with_reducible refine kc.out.mono ?_; rintro e y1 ⟨rfl, hb1⟩; have hpy := h_over hb1 hp'.out; have hqy := h_over hb1 hq'.out; obtain ⟨c0, c1, c2, cf0, cf1, cf2, cl⟩ := obj3 hpy; obtain ⟨d0, d1, d2, df0, df1, df2, dl⟩ := obj3 hqy; have hpy' := Lib.hid hpy; have hqy' := Lib.hid hqy; have hb1' := Lib.hid hb1; clear hb1 hpy hqy p0 p1 p2 pf2 pl))
    go_wp2_with fail
    have hB := Lib.hid ((((below_step hb'.out hb1'.out).setCell (p := ⟨w.heap.size + 1, 0, none⟩) (Nat.le_succ _) (.slice (some ⟨g, off, none⟩) (R.ce.length + 1) sc)).setCell (p := ⟨w.heap.size + 1, 1, none⟩) (Nat.le_succ _) (.slice ca R.ce.length cc)).setCell (p := ⟨w.heap.size + 1, 2, none⟩) (Nat.le_succ _) (.int .i64 (R.base : Nat)))
    have hs := (store3 hqy'.out (.slice (some ⟨g, off, none⟩) (R.ce.length + 1) sc) (.slice ca R.ce.length cc) (.int .i64 (R.base : Nat))).1
    generalize World.setCell (World.setCell (World.setCell _ ⟨w.heap.size + 1, 0, none⟩ _) ⟨w.heap.size + 1, 1, none⟩ _) ⟨w.heap.size + 1, 2, none⟩ _ = Wz at *
    obtain ⟨e0, e1, e2, _⟩ := obj3 hs
    refine bodyPost_ret (v := .tuple #[.agg #[.slice (some ⟨g, off, none⟩) (R.ce.length + 1) sc, .slice ca R.ce.length cc, .int .i64 (R.base : Nat)], .int .i64 er]) (by simp [results, Try.results16, go_sem, e0, e1, e2]) rfl ⟨_, _, xs, R, rfl, hR.out.carry hB.out, by rw [hbad.out]; exact hS.out, fun g hg => hg, hB.out⟩
end
end Go.Proofs.Ytlpacihkmfgegaa
