/-
  package cellmem, R4: for six cells made of any numbers, a change of the slice passed to New, or of the results of Cells and Changed, does not affect the memory, the reference makes at most 30 operations of any numbers, and the section's example holds; whatever the arguments are.
-/
import Derived.Test.YtlpacihkmfgegaaRows
import Derived.WalkKit
import Derived.ProofKit
import Derived.OpenShut
import Derived.Test.YtlpacihkmfgegaaOpen
import Derived.Test.YtlpacihkmfgegaaCmM
namespace Go.Proofs.Ytlpacihkmfgegaa.cellmemOwns
open Go.ChangeShapes Go.WideShapes Go.ChangeAt Go.RowKit
set_option linter.unusedVariables false
set_option linter.unusedSimpArgs false

open Cm
theorem store_moves (w : World) (k j : Nat) (v : Value) : Moves (fun i => i = k) w (fun i => i = k) (w.setCell ⟨k, j, none⟩ v) :=
  ⟨rfl, rfl, rfl, by simp [World.setCell], fun i _ hn => Below.heap_setCell _ _ _ _ hn, fun _ h => .inl h⟩
theorem own_moves {w w' : World} {O O' : Nat → Prop} {B : Nat} {e : TypeId} {k : Nat} {v : Value} {n : Nat} {xs : List Value} (h : w.ownsRow B e k v n xs) (hm : Moves O w O' w') (hn : ∀ g, v.ownBlock = some g → ¬ O g) : w'.ownsRow B e k v n xs := by
  refine ⟨h.1, ?_⟩
  rcases h.2 with h1 | ⟨g, cap, cur, rfl, h2, h3, h4⟩
  · exact .inl h1
  · exact .inr ⟨g, cap, cur, rfl, h2, (hm.block g (Array.getElem?_eq_some_iff.1 h3).1 (hn g rfl)).trans h3, h4⟩
theorem one_set (L : List Int) (h : L.length = 6) : ((Me.new L).set 2 5).cs = L.set 2 5 ∧ ((Me.new L).set 2 5).err 0 = 0 ∧ ((Me.new L).set 2 5).changed 0 = [2] ∧ Ok ((Me.new L).set 2 5) := by
  have hc : cin L.length 2 = true := by rw [h]; decide
  rw [Me.set_in hc]
  refine ⟨rfl, rfl, ?_, ⟨by show (L.set _ _).length ≤ 10000; rw [List.length_set]; omega, by show 0 + 1 ≤ 10000; omega⟩⟩
  refine (if_pos (by rfl)).trans ?_
  unfold Me.chg
  show ((List.range (L.set _ _).length).filter _) = _
  rw [List.length_set, h]
  rfl
theorem nat_two : decide (natI [2] = [2]) = true := by decide
theorem slot_eq {k g : Nat} {n c : Nat} (h : (Value.slice (some ⟨k, 0, none⟩) n c).ownBlock = some g) : g = k := by simpa [Value.ownBlock] using h.symm
theorem own : ownKnob Try.prog.godebug = none := by kernel_rfl
theorem laid : laidOutB Try.prog = true := by kernel_rfl

set_option maxRecDepth 100000 in
set_option maxHeartbeats 8000000 in
theorem walk (w : World) (s0 : Value) (Z0 : Nat → Int) (l0 : Nat) (H0 : IntsAt w s0 1 Z0 l0) (s1 : Value) (Z1 : Nat → Int) (l1 : Nat) (H1 : IntsAt w s1 1 Z1 l1) :
    Calls Try.prog 11 #[s0, s1] w fun e w' => e = .returned (.bool true) ∧ Below w.heap.size w w' := by
  have k1 := Lib.hid (six_any s0 Z0 l0 w H0)
  have k2 := Lib.hid (fun W (hb : Below w.heap.size w W) => six_any s0 Z0 l0 W (H0.carry' hb))
  have kops := Lib.hid (fun W (hb : Below w.heap.size w W) => ops_any s1 Z1 l1 W (H1.carry' hb))
  have h6 := six_len Z0 l0
  clear H0 H1
  generalize six Z0 l0 = L at *
  obtain ⟨m30, hm30⟩ : ∃ m, m = min l1 30 := ⟨_, rfl⟩
  have hm := (show m30 ≤ 30 by omega)
  rw [← hm30] at kops
  clear hm30
  have kl := Lib.hid (fun W => lives9_any W)
  obtain ⟨p1, p2, p3, p4⟩ := one_set L h6
  have ok0 := Lib.hid (show Ok (Me.new L) from ⟨by show L.length ≤ 10000; omega, by show 0 ≤ 10000; omega⟩)
  have hnew := Lib.hid (show (Me.new L).cs = L from rfl)
  have hS := Lib.hid (And.intro p1 (And.intro p2 (And.intro p3 p4)))
  clear p1 p2 p3 p4
  obtain ⟨S, hSe⟩ : ∃ S, (Me.new L).set 2 5 = S := ⟨_, rfl⟩
  have hSq := Lib.hid hSe
  rw [hSe] at hS
  clear hSe
  have h6' := Lib.hid h6
  clear h6
  obtain ⟨x0, hx0⟩ : ∃ x0, L[0]? = some x0 := ⟨_, List.getElem?_eq_getElem (by rw [h6'.out]; decide)⟩
  obtain ⟨x1, hx1⟩ : ∃ x1, L[1]? = some x1 := ⟨_, List.getElem?_eq_getElem (by rw [h6'.out]; decide)⟩
  obtain ⟨x2, hx2⟩ : ∃ x2, L[2]? = some x2 := ⟨_, List.getElem?_eq_getElem (by rw [h6'.out]; decide)⟩
  have hx := Lib.hid (And.intro (ints_at hx0) (And.intro (ints_at hx1) (ints_at hx2)))
  clear hx0 hx1 hx2
  go_enter Try.func11, Try.ntmps11
  go_upto_region 6 with (first
    | (go_at_call 13; with_reducible refine k1.out.mono ?_; rintro e y1 ⟨rfl, hr, hb⟩; have hr1 := Lib.hid hr; have hb1 := Lib.hid hb; clear hr hb)
    | (go_at_call 12; with_reducible refine (cmNew_any _ L y1 (own_il hr1.out) (by rw [h6'.out]; decide)).mono ?_; rintro e y2 ⟨b, O, rfl, hM, hO, hb⟩; have hM2 := Lib.hid hM; have hO2 := Lib.hid hO; have hr2 := Lib.hid (own_carry hr1.out hb); have hb2 := Lib.hid (below_step hb1.out hb); have hy12 := hb.size; clear hM hO hb)
    | (go_at_call 13; with_reducible refine (k2.out _ hb2.out).mono ?_; rintro e y3 ⟨rfl, hr, hb⟩; have hw3 := Lib.hid hr; have hM3 := Lib.hid (hM2.out.carry hb); have hr3 := Lib.hid (own_carry hr2.out hb); have hb3 := Lib.hid (below_step hb2.out hb); have hy23 := hb.size; clear hr hb))
  have s01 : w.heap.size < y1.heap.size := (hr1.out.lt _ rfl).2
  have s23 : y2.heap.size < y3.heap.size := (hw3.out.lt _ rfl).2
  have hwy := hb1.out.size
  have nO0 : ∀ i, O i → ¬ (i = w.heap.size) := fun i hi e => by have := hO2.out i hi; omega
  have nOw : ¬ O y2.heap.size := fun h => by have := hM2.out.lt _ h; omega
  have c0 := hr3.out.cellAt 0 (by omega)
  have f0 := hr3.out.frozenAt 0
  rw [hx.out.1] at c0
  have hM4a := Lib.hid (fun v => hM3.out.beside (store_moves y3 w.heap.size 0 v) nO0)
  have hw4a := Lib.hid (fun v => own_moves hw3.out (store_moves y3 w.heap.size 0 v) (fun g hg h => by have h1 := slot_eq hg; have h2 : g = w.heap.size := h; omega))
  have hb4a := Lib.hid (fun v => hb3.out.setCell (p := ⟨w.heap.size, 0, none⟩) (Nat.le_refl _) v)
  have sz4 : ∀ v, (y3.setCell ⟨w.heap.size, 0, none⟩ v).heap.size = y3.heap.size := fun v => by simp [World.setCell]
  go_upto_region 7 with fail
  generalize hV : World.setCell y3 ⟨w.heap.size, 0, none⟩ _ = y4
  have hM4 := Lib.hid (show Mo y4 b O (Me.new L) from by rw [← hV]; exact hM4a.out _)
  have hw4 := Lib.hid (show y4.ownsRow y2.heap.size 3 1 (.slice (some ⟨y2.heap.size, 0, none⟩) 6 6) 6 (ints L) from by rw [← hV]; exact hw4a.out _)
  have hb4 := Lib.hid (show Below w.heap.size w y4 from by rw [← hV]; exact hb4a.out _)
  have hy4 : y4.heap.size = y3.heap.size := by rw [← hV]; exact sz4 _
  clear hV hM4a hw4a hb4a sz4 c0 f0
  go_upto_region 10 with (first
    | (go_at_call 22; with_reducible refine (hM4.out.all ok0.out).mono ?_; rintro e y5 ⟨va, rfl, hr, hb⟩; rw [hnew.out, h6'.out] at hr; have hr5 := Lib.hid hr; have hM5 := Lib.hid (hM4.out.carry hb); have hw5 := Lib.hid (own_carry hw4.out hb); have hb5 := Lib.hid (below_step hb4.out hb); clear hr hb)
    | (go_at_call 21; with_reducible refine (sameI_any _ _ _ _ _ (own_il hr5.out) (own_il hw5.out)).mono ?_; rintro e y6 ⟨rfl, hb⟩; rw [same_self]; have hr6 := Lib.hid (own_carry hr5.out hb); have hM6 := Lib.hid (hM5.out.carry hb); have hw6 := Lib.hid (own_carry hw5.out hb); have hb6 := Lib.hid (below_step hb5.out hb); clear hb))
  obtain ⟨ga, capa, rfl, ga1, ga2⟩ := hr6.out.form (by decide)
  have nOa : ∀ i, O i → ¬ (i = ga) := fun i hi e => by have := hM4.out.lt i hi; omega
  have c0 := hr6.out.cellAt 1 (by omega)
  have f0 := hr6.out.frozenAt 1
  rw [hx.out.2.1] at c0
  have hM7a := Lib.hid (fun v => hM6.out.beside (store_moves y6 ga 1 v) nOa)
  have hw7a := Lib.hid (fun v => own_moves hw6.out (store_moves y6 ga 1 v) (fun g hg h => by have h1 := slot_eq hg; have h2 : g = ga := h; omega))
  have hb7a := Lib.hid (fun v => hb6.out.setCell (p := ⟨ga, 1, none⟩) (by simp only; omega) v)
  have sz7 : ∀ v, (y6.setCell ⟨ga, 1, none⟩ v).heap.size = y6.heap.size := fun v => by simp [World.setCell]
  go_upto_region 11 with fail
  generalize hV : World.setCell y6 ⟨ga, 1, none⟩ _ = y7
  have hM7 := Lib.hid (show Mo y7 b O (Me.new L) from by rw [← hV]; exact hM7a.out _)
  have hw7 := Lib.hid (show y7.ownsRow y2.heap.size 3 1 (.slice (some ⟨y2.heap.size, 0, none⟩) 6 6) 6 (ints L) from by rw [← hV]; exact hw7a.out _)
  have hb7 := Lib.hid (show Below w.heap.size w y7 from by rw [← hV]; exact hb7a.out _)
  have hF7 := Lib.hid (Fresh.mk hb7.out (fun i hi => Nat.le_trans hwy (hO2.out i hi)))
  have y2y7 : y2.heap.size < y7.heap.size := (hw7.out.lt _ rfl).2
  clear hV hM7a hw7a hb7a sz7 c0 f0
  go_upto_region 15 with (first
    | (go_at_call 31; with_reducible refine (hM7.out.set ok0.out 2 5).mono ?_; rintro e y8 ⟨rfl, O8, hM, hm⟩; rw [hSq.out] at hM; have hM8 := Lib.hid hM; have hw8 := Lib.hid (own_moves hw7.out hm (fun g hg => by rw [slot_eq hg]; exact nOw)); have hF8 := Lib.hid (hF7.out.moves hm); have nOw8 := Lib.hid (fun h : O8 y2.heap.size => (by rcases hm.own _ h with h1 | h1; exact absurd h1 nOw; omega : False)); clear hM hm)
    | (go_at_call 35; with_reducible refine (hM8.out.changed hS.out.2.2.2 0).mono ?_; rintro e y9 ⟨vb, rfl, hr, hb⟩; rw [hS.out.2.1]; rw [hS.out.2.2.1] at hr; obtain ⟨gb, capb, rfl, gb1, gb2⟩ := hr.form (by decide); have hr9 := Lib.hid hr; have hM9 := Lib.hid (hM8.out.carry hb); have hw9 := Lib.hid (own_carry hw8.out hb); have hF9 := Lib.hid (hF8.out.step hb); clear hr hb))
  have sz89 := hM8.out.lt
  have y89 : y8.heap.size ≤ gb := gb1
  have y2y9 : y2.heap.size < y9.heap.size := (hw9.out.lt _ rfl).2
  have y2y8 : y2.heap.size < y8.heap.size := (hw8.out.lt _ rfl).2
  have nOb : ∀ i, O8 i → ¬ (i = gb) := fun i hi e => by have := sz89 i hi; omega
  have c0 : y9.cell? ⟨gb, 0, none⟩ = some (.int .i64 2) := hr9.out.cellAt 0 (by decide)
  have f0 := hr9.out.frozenAt 0
  have hM10a := Lib.hid (fun v => hM9.out.beside (store_moves y9 gb 0 v) nOb)
  have hw10a := Lib.hid (fun v => own_moves hw9.out (store_moves y9 gb 0 v) (fun g hg h => by have h1 := slot_eq hg; have h2 : g = gb := h; omega))
  have hF10a := Lib.hid (fun v => Fresh.mk (hF9.out.below.setCell (p := ⟨gb, 0, none⟩) (show w.heap.size ≤ gb by have := hF8.out.below.size; omega) v) hF9.out.own)
  clear sz89
  go_upto_region 16 with fail
  generalize hV : World.setCell y9 ⟨gb, 0, none⟩ _ = y10
  have hM10 := Lib.hid (show Mo y10 b O8 S from by rw [← hV]; exact hM10a.out _)
  have hw10 := Lib.hid (show y10.ownsRow y2.heap.size 3 1 (.slice (some ⟨y2.heap.size, 0, none⟩) 6 6) 6 (ints L) from by rw [← hV]; exact hw10a.out _)
  have hF10 := Lib.hid (show Fresh w O8 y10 from by rw [← hV]; exact hF10a.out _)
  have y2y10 : y2.heap.size < y10.heap.size := (hw10.out.lt _ rfl).2
  clear hV hM10a hw10a hF10a c0 f0
  go_upto_region 17 with (first
    | (go_at_call 35; with_reducible refine (hM10.out.changed hS.out.2.2.2 0).mono ?_; rintro e y11 ⟨vc, rfl, hr, hb⟩; rw [hS.out.2.1]; rw [hS.out.2.2.1] at hr; have hI11 := Lib.hid (own_il hr); go_loud (have hnc := Lib.hid (fun h : vc.ownBlock = some y2.heap.size => (by have h1 := (hr.lt _ h).1; omega : False))); have hM11 := Lib.hid (hM10.out.carry hb); have hw11 := Lib.hid (own_carry hw10.out hb); have hF11 := Lib.hid (hF10.out.step hb); clear hr hb))
  have c0 := hw11.out.cellAt 2 (by decide)
  rw [hx.out.2.2] at c0
  have f0 := hw11.out.frozenAt 2
  obtain ⟨st1, st2⟩ := hw11.out.stored 2 (.int .i64 5)
  rw [Cm.ints_set] at st1
  have hw12 := Lib.hid st1
  have hM12 := Lib.hid (hM11.out.beside (store_moves y11 y2.heap.size 2 (.int .i64 5)) (fun i hi e => nOw8.out (by rw [← e]; exact hi)))
  have hI12 := Lib.hid (hI11.out.moves (store_moves y11 y2.heap.size 2 (.int .i64 5)) (fun g hg h => hnc.out (by rw [hg]; exact congrArg some h)))
  have hF12 := Lib.hid (Fresh.mk (hF11.out.below.setCell (p := ⟨y2.heap.size, 2, none⟩) (show w.heap.size ≤ y2.heap.size by omega) (.int .i64 5)) hF11.out.own)
  clear st1 st2
  go_upto_region 18 with fail
  generalize World.setCell y11 ⟨y2.heap.size, 2, none⟩ _ = y12 at *
  clear c0 f0
  go_wp2_with (first
    | (go_at_call 21; with_reducible refine (sameI_any _ _ _ _ _ (hI12.out.carry (alloc_below y12 _)) (one_new y12 2)).mono ?_; rintro e y13 ⟨rfl, hb⟩; rw [nat_two]; have hb13 := Lib.hid (below_step (alloc_below y12 (.cells #[.int .i64 2] 3)) hb); have hM13 := Lib.hid (hM12.out.carry hb13.out); have hw13 := Lib.hid (own_carry hw12.out hb13.out); have hF13 := Lib.hid (hF12.out.step hb13.out); clear hb)
    | (go_at_call 22; with_reducible refine (hM13.out.all hS.out.2.2.2).mono ?_; rintro e y14 ⟨vd, rfl, hr, hb⟩; rw [hS.out.1] at hr; have hI14 := Lib.hid (own_il hr); have hw14 := Lib.hid (own_carry hw13.out hb); have hF14 := Lib.hid (hF13.out.step hb); clear hr hb)
    | (go_at_call 21; with_reducible refine (sameI_any _ _ _ _ _ hI14.out (own_il hw14.out)).mono ?_; rintro e y15 ⟨rfl, hb⟩; rw [same_self]; have hF15 := Lib.hid (hF14.out.step hb); clear hb)
    | (go_at_call 15; with_reducible refine (kops.out _ hF15.out.below).mono ?_; rintro e y16 ⟨vo, rfl, hr, hb⟩; obtain ⟨oa, on, oc, rfl⟩ := own_shape hr; obtain ⟨a9, c9, e9, _⟩ := (SRow.owned hr).shape (by decide); simp only [Value.slice.injEq] at e9; obtain ⟨rfl, rfl, rfl⟩ := e9; have hF16 := Lib.hid (hF15.out.step hb); clear hr hb)
    | (go_at_call 28; with_reducible refine (kl.out _).mono ?_; rintro e y17 ⟨rfl, hb⟩; have hB17 := Lib.hid (below_step hF16.out.below hb); clear hb))
  go_ret
  exact ⟨rfl, hB17.out⟩

set_option maxRecDepth 100000 in
theorem lifted (os : Os) (started : os.Started) (H : Type) (enc : TypeId × Value → H) :
    ReturnsInHanded {} Try.checked os 11 .any (Rows.cellmemOwnsSpec.pre6 enc Try.prog Try.f11 Rows.cellmemOwnsRow.domain false) (Rows.cellmemOwnsSpec.post enc Try.prog Try.f11 false true false false) := by
  refine returnsInHanded_of_change (C := Try.checked) own started (by kernel_rfl) Try.func11
    (ChangeSpec.witness6 (enc := enc) (C := Try.checked) false ⟨#[], #[.slice none 0 0, .slice none 0 0], []⟩ 8 (by kernel_rfl) (by kernel_rfl) (by kernel_rfl) (by kernel_rfl)) ?_
  intro W base args ds gs before hval0 hW hcnd _
  have hval : ∀ (j : Nat) t v, Try.f11.params[j]? = some t → args[j]? = some v → Value.okWide Try.prog W .any base t v := hval0
  have hW' := hW
  obtain ⟨p, q, hA0, hV, rfl, hfz, hnd⟩ := hW
  have hA : DataW.TrodAll enc Try.prog W 0 (fun _ => true) true Try.f11.params.toList args.toList ds p := hA0
  rw [Try.params11] at hA hval
  have hAk := hA
  obtain ⟨v0, vs0, d0, ds0, p0, q0, hargs, rfl, hp0, h0, r0⟩ := trodAll_cons hA
  obtain ⟨v1, vs1, d1, ds1, p1, q1, rfl, rfl, hp1, h1, r1⟩ := trodAll_cons r0
  obtain ⟨rfl, rfl, -⟩ := trodAll_nil r1
  obtain rfl : args = #[v0, v1] := by cases args; simp_all
  obtain ⟨rfl, rfl⟩ := trodVars_none hV
  obtain ⟨x0, q0, c0, rfl⟩ := okWide_slice Try.underlying22 (hval 0 22 v0 rfl rfl)
  obtain ⟨fu0, fh0⟩ := h0
  obtain ⟨s0, Z0, l0, e0, H0⟩ := open_int_cells Try.underlying22 Try.underlying3 (by kernel_rfl) fh0
  simp only [Value.cells, List.cons.injEq, and_true] at e0
  obtain rfl := e0.symm
  obtain ⟨x1, q1, c1, rfl⟩ := okWide_slice Try.underlying22 (hval 1 22 v1 rfl rfl)
  obtain ⟨fu1, fh1⟩ := h1
  obtain ⟨s1, Z1, l1, e1, H1⟩ := open_int_cells Try.underlying22 Try.underlying3 (by kernel_rfl) fh1
  simp only [Value.cells, List.cons.injEq, and_true] at e1
  obtain rfl := e1.symm
  clear hA0 hval0
  simp only [List.append_nil] at hW'
  refine (walk W _ Z0 l0 H0 _ Z1 l1 H1).mono fun e W' ⟨he, hb⟩ => ?_
  subst he
  exact ⟨_, rfl, kept_post (pa := p) hW' (fun _ _ _ => (trodAll_cons_mk (shut_bool Try.underlying4 _) trodAll_mk0)) (fun sp hsp => trodAll_stays laid hb (by rw [Try.params11]; decide +kernel) hAk (fun x hx => hW'.lt x hx) hsp) (fun _ => rfl) hb (ok_one (by kernel_rfl) rfl (okWide_bool_mk Try.underlying4 _))⟩

theorem over : Rows.cellmemOwnsRow.holds Try.pinned (OpenSpec.ofChange Rows.cellmemOwnsSpec) :=
  OpenClaim.holds_of_wide 11 Try.f11 rfl rfl rfl rfl rfl rfl rfl ⟨rfl, rfl, rfl, rfl, rfl⟩ rfl rfl rfl rfl rfl (by kernel_rfl) Try.func11 (by kernel_rfl)
    (of_decide_eq_true (by kernel_rfl)) (by unfold Func.isWrapper; first | (rw [if_pos (by decide +kernel)]; kernel_rfl) | (rw [if_neg (by decide +kernel)]; exact ⟨rfl, rfl⟩))
    (fun os started H enc _ => lifted os started H enc)

theorem proved : Rows.CellmemOwnsSaid :=
  over
#print axioms proved
end Go.Proofs.Ytlpacihkmfgegaa.cellmemOwns
