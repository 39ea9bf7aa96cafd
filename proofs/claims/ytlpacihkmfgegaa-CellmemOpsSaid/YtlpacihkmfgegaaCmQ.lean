/- The reference of package cellmem: Discard, Undo. -/
import Derived.Test.YtlpacihkmfgegaaCmP
namespace Go.Proofs.Ytlpacihkmfgegaa
open Go.ChangeShapes Go.WideShapes Go.ChangeAt Go.RowKit
open Cm
set_option linter.unusedSimpArgs false
set_option linter.unusedVariables false

theorem h_set {W : World} {k : Nat} {o : Obj} {p : Addr} {v : Value} (h : W.heap[k]? = some o) (hn : k ≠ p.block) : (W.setCell p v).heap[k]? = some o := (Below.heap_setCell _ _ _ _ hn).trans h
section
variable {w : World} {sv cv : Value} {xs : List Value} {R : Rf} {S : Me}
theorem Rv.forms (h : Rv w sv cv xs R) : ∃ sa sn sc ca cn cc, sv = .slice sa sn sc ∧ cv = .slice ca cn cc := by
  obtain ⟨a, c, h1, _⟩ := h.st
  obtain ⟨a', c', h2, _⟩ := h.ce
  exact ⟨_, _, _, _, _, _, h1, h2⟩
/-- Values in blocks other than k stay when block k turns. -/
theorem Rv.moves {w' : World} {O O' : Nat → Prop} (h : Rv w sv cv xs R) (hm : Moves O w O' w') (h1 : ∀ g, g < w.heap.size → O g → False) : Rv w' sv cv xs R := by
  have hb : Below w.heap.size w w' := ⟨hm.os, hm.tape, hm.output, hm.size, fun i hi => hm.block i hi (fun e => h1 i hi e)⟩
  exact h.carry hb
set_option maxHeartbeats 4000000 in
theorem refDiscard_any (h : Rv w sv cv xs R) (hs : Says R S) (hP : S.pos ≤ 10000) (m : Int) :
    Calls Try.prog 17 #[refV sv cv R, .int .i64 m] w fun e w' => ∃ R', e = .returned (.tuple #[refV sv cv R', .int .i64 (S.err m)]) ∧ Rv w' sv cv xs R' ∧ Says R' (S.discard m) ∧ Below w.heap.size w w' := by
  have hb1 := alloc_below w (.cells #[sv, cv, .int .i64 (R.base : Nat)] 28)
  have hp1 := heap_alloc_new w (.cells #[sv, cv, .int .i64 (R.base : Nat)] 28)
  have hq1 := heap_alloc_new (w.alloc (.cells #[sv, cv, .int .i64 (R.base : Nat)] 28)) (.cells #[.slice none 0 0, .slice none 0 0, .int .i64 0] 28)
  have hb2 := alloc_below (w.alloc (.cells #[sv, cv, .int .i64 (R.base : Nat)] 28)) (.cells #[.slice none 0 0, .slice none 0 0, .int .i64 0] 28)
  replace hp1 := h_over hb2 hp1
  have hb := below_step hb1 hb2
  rw [World.size_alloc] at hq1
  obtain ⟨V, hV⟩ : ∃ V, V = (w.alloc (.cells #[sv, cv, .int .i64 (R.base : Nat)] 28)).alloc (.cells #[.slice none 0 0, .slice none 0 0, .int .i64 0] 28) := ⟨_, rfl⟩
  rw [← hV] at hp1 hq1 hb
  have kc := Lib.hid (refCheck_any (h.carry hb) hs hP m)
  have hR := Lib.hid h
  have hS := Lib.hid hs
  obtain ⟨sa, sn, sc, ca, cn, cc, rfl, rfl⟩ := h.forms
  unfold refV at *
  have hV' := Lib.hid hV
  have hp' := Lib.hid hp1
  have hq' := Lib.hid hq1
  have hb' := Lib.hid hb
  clear h hs hP hb1 hb2 hb hp1 hq1 hV
  by_cases hz : S.err m = 0
  · obtain ⟨_, _, _, _, hm0⟩ := Me.undo_pos hz
    have hsay := Lib.hid (hS.out.discard hz)
    rw [hz] at kc ⊢
    obtain ⟨k, rfl⟩ : ∃ k : Nat, m = (k : Int) := ⟨m.toNat, by omega⟩
    rw [Int.toNat_natCast] at hsay
    clear hz hm0
    go_enter Try.func17, Try.ntmps17
    go_upto_region 1 with fail
    rw [show (w.alloc (.cells #[.slice sa sn sc, .slice ca cn cc, .int .i64 (R.base : Nat)] 28)).alloc (.cells #[.slice none 0 0, .slice none 0 0, .int .i64 0] 28) = V from hV'.out.symm]
    obtain ⟨p0, p1, p2, _, _, pf2, pl⟩ := obj3 hp'.out
    go_upto_region 2 with (first | (go_at_call 41; with_reducible refine kc.out.mono ?_; rintro e y1 ⟨rfl, hb1⟩; have hpy := h_over hb1 hp'.out; have hqy := h_over hb1 hq'.out; obtain ⟨c0, c1, c2, cf0, cf1, cf2, cl⟩ := obj3 hpy; obtain ⟨d0, d1, d2, df0, df1, df2, dl⟩ := obj3 hqy; have hpy' := Lib.hid hpy; have hqy' := Lib.hid hqy; have hb1' := Lib.hid hb1; clear hb1 hpy hqy p0 p1 p2 pf2 pl))
    go_wp2_with fail
    have hB := Lib.hid (((((below_step hb'.out hb1'.out).setCell (p := ⟨w.heap.size, 2, none⟩) (Nat.le_refl _) (.int .i64 (k : Int))).setCell (p := ⟨w.heap.size + 1, 0, none⟩) (Nat.le_succ _) (.slice sa sn sc)).setCell (p := ⟨w.heap.size + 1, 1, none⟩) (Nat.le_succ _) (.slice ca cn cc)).setCell (p := ⟨w.heap.size + 1, 2, none⟩) (Nat.le_succ _) (.int .i64 (k : Int)))
    have hs := (store3 (h_set (p := ⟨w.heap.size, 2, none⟩) (v := .int .i64 (k : Int)) hqy'.out (by simp only; omega)) (.slice sa sn sc) (.slice ca cn cc) (.int .i64 (k : Int))).1
    generalize World.setCell (World.setCell (World.setCell _ ⟨w.heap.size + 1, 0, none⟩ _) ⟨w.heap.size + 1, 1, none⟩ _) ⟨w.heap.size + 1, 2, none⟩ _ = Wz at *
    obtain ⟨e0, e1, e2, _⟩ := obj3 hs
    refine bodyPost_ret (v := .tuple #[.agg #[.slice sa sn sc, .slice ca cn cc, .int .i64 (k : Int)], .int .i64 0]) (by simp [results, Try.results17, go_sem, e0, e1, e2]) rfl ⟨⟨R.st, R.ce, k⟩, rfl, ?_, hsay.out, hB.out⟩
    exact ⟨(hR.out.carry hB.out).st, hR.out.len, fun i x l hx hl => (hR.out.carry hB.out).el i x l hx hl, hR.out.nx, (hR.out.carry hB.out).ce, hR.out.nc⟩
  · have hbad := Lib.hid (Me.discard_bad hz)
    have hne : (S.err m == 0) = false := by simpa using hz
    generalize S.err m = er at *
    clear hz
    go_enter Try.func17, Try.ntmps17
    go_upto_region 1 with fail
    rw [show (w.alloc (.cells #[.slice sa sn sc, .slice ca cn cc, .int .i64 (R.base : Nat)] 28)).alloc (.cells #[.slice none 0 0, .slice none 0 0, .int .i64 0] 28) = V from hV'.out.symm]
    obtain ⟨p0, p1, p2, _, _, pf2, pl⟩ := obj3 hp'.out
    go_upto_region 2 with (first | (go_at_call 41; with_reducible refine kc.out.mono ?_; rintro e y1 ⟨rfl, hb1⟩; have hpy := h_over hb1 hp'.out; have hqy := h_over hb1 hq'.out; obtain ⟨c0, c1, c2, cf0, cf1, cf2, cl⟩ := obj3 hpy; obtain ⟨d0, d1, d2, df0, df1, df2, dl⟩ := obj3 hqy; have hpy' := Lib.hid hpy; have hqy' := Lib.hid hqy; have hb1' := Lib.hid hb1; clear hb1 hpy hqy p0 p1 p2 pf2 pl))
    go_wp2_with fail
    have hB := Lib.hid ((((below_step hb'.out hb1'.out).setCell (p := ⟨w.heap.size + 1, 0, none⟩) (Nat.le_succ _) (.slice sa sn sc)).setCell (p := ⟨w.heap.size + 1, 1, none⟩) (Nat.le_succ _) (.slice ca cn cc)).setCell (p := ⟨w.heap.size + 1, 2, none⟩) (Nat.le_succ _) (.int .i64 (R.base : Nat)))
    have hs := (store3 hqy'.out (.slice sa sn sc) (.slice ca cn cc) (.int .i64 (R.base : Nat))).1
    generalize World.setCell (World.setCell (World.setCell _ ⟨w.heap.size + 1, 0, none⟩ _) ⟨w.heap.size + 1, 1, none⟩ _) ⟨w.heap.size + 1, 2, none⟩ _ = Wz at *
    obtain ⟨e0, e1, e2, _⟩ := obj3 hs
    refine bodyPost_ret (v := .tuple #[.agg #[.slice sa sn sc, .slice ca cn cc, .int .i64 (R.base : Nat)], .int .i64 er]) (by simp [results, Try.results17, go_sem, e0, e1, e2]) rfl ⟨R, rfl, hR.out.carry hB.out, by rw [hbad.out]; exact hS.out, hB.out⟩
end
end Go.Proofs.Ytlpacihkmfgegaa
