/-
  package cellmem, P9.1 to P9.5: for every history of up to 30 operations on six cells, all made of any numbers, the memory answers each operation as the reference, which keeps a copy of all cells for each log position, and holds the same cells, log position and number of entries, and the section's example holds; whatever the arguments are.
-/
import Derived.Test.YtlpacihkmfgegaaRows
import Derived.WalkKit
import Derived.ProofKit
import Derived.OpenShut
import Derived.Test.YtlpacihkmfgegaaOpen
import Derived.Test.YtlpacihkmfgegaaCmU
namespace Go.Proofs.Ytlpacihkmfgegaa.cellmemOps
open Go.ChangeShapes Go.WideShapes Go.ChangeAt Go.RowKit
set_option linter.unusedVariables false
set_option linter.unusedSimpArgs false

open Cm
theorem sameT_any (v u : Value) (l : List Int) (w : World) (h : IL w v l) (h' : IL w u l) :
    Calls Try.prog 21 #[v, u] w fun e w' => e = .returned (.bool true) ∧ Below w.heap.size w w' := by
  refine (sameI_any v u l l w h h').mono ?_
  rintro e w' ⟨rfl, hb⟩
  exact ⟨by rw [decide_eq_true (rfl : l = l)], hb⟩
theorem mv_widen {Q Q' P P' : Nat → Prop} {a b : World} (h : Moves Q a Q' b) (h1 : ∀ i, Q i → P i) (h2 : ∀ i, P' i → Q' i ∨ P i) : Moves P a P' b :=
  ⟨h.os, h.tape, h.output, h.size, fun i hi hn => h.block i hi (fun e => hn (h1 i e)), fun i hi => by
    rcases h2 i hi with h3 | h3
    · rcases h.own i h3 with h4 | h4
      · exact .inl (h1 i h4)
      · exact .inr h4
    · exact .inl h3⟩
/-- What stands when the reference's memory has been stored. -/
theorem op_store {wr y1 : World} {B : Nat} {x y z : Value} {t : TypeId} {sv cv : Value} {xs : List Value} {R : Rf} (hx : y1.heap[B]? = some (.cells #[x, y, z] t)) (hb : Below wr.heap.size wr y1) (hR : Rv y1 sv cv xs R) (hA : ∀ k, Rown sv cv xs k → k ≠ B) (u : Value) :
    (((y1.setCell ⟨B, 0, none⟩ sv).setCell ⟨B, 1, none⟩ cv).setCell ⟨B, 2, none⟩ u).heap[B]? = some (.cells #[sv, cv, u] t) ∧ Rv (((y1.setCell ⟨B, 0, none⟩ sv).setCell ⟨B, 1, none⟩ cv).setCell ⟨B, 2, none⟩ u) sv cv xs R ∧
      Moves (fun i => i = B) wr (fun i => i = B) (((y1.setCell ⟨B, 0, none⟩ sv).setCell ⟨B, 1, none⟩ cv).setCell ⟨B, 2, none⟩ u) ∧ y1.heap.size = (((y1.setCell ⟨B, 0, none⟩ sv).setCell ⟨B, 1, none⟩ cv).setCell ⟨B, 2, none⟩ u).heap.size := by
  obtain ⟨h1, h2, h3⟩ := store3 hx sv cv u
  exact ⟨h1, hR.apart h3 (fun k hk e => hA k hk e), (Moves.below _ hb).trans h3, h2.symm⟩
theorem own : ownKnob Try.prog.godebug = none := by kernel_rfl
theorem laid : laidOutB Try.prog = true := by kernel_rfl

set_option maxRecDepth 100000 in
set_option maxHeartbeats 8000000 in
theorem walk (w : World) (s0 : Value) (Z0 : Nat → Int) (l0 : Nat) (H0 : IntsAt w s0 1 Z0 l0) (s1 : Value) (Z1 : Nat → Int) (l1 : Nat) (H1 : IntsAt w s1 1 Z1 l1) :
    Calls Try.prog 3 #[s0, s1] w fun e w' => e = .returned (.bool true) ∧ Below w.heap.size w w' := by
  have k6 := Lib.hid (fun W (hb : Below w.heap.size w W) => six_any s0 Z0 l0 W (H0.carry hb))
  have kops := Lib.hid (fun W (hb : Below w.heap.size w W) => ops_any s1 Z1 l1 W (H1.carry hb))
  have kl := Lib.hid (fun W => lives9_any W)
  obtain ⟨m, hm⟩ : ∃ m, m = min l1 30 := ⟨_, rfl⟩
  have hm30 : m ≤ 30 := by omega
  rw [← hm] at kops
  clear hm H0 H1
  go_enter Try.func3, Try.ntmps3
  go_upto_region 4 with (first
    | (go_at_call 13; with_reducible refine (k6.out _ (Below.refl _ _)).mono ?_; rintro e u1 ⟨rfl, hr, hb⟩; have hr1 := Lib.hid (own_il hr); have hb1 := Lib.hid hb; clear hr hb)
    | (go_at_call 12; with_reducible refine (cmNew_any _ (six Z0 l0) u1 hr1.out (by rw [six_len]; decide)).mono ?_; rintro e u2 ⟨b, O, rfl, hM, hO, hb⟩; have hM2 := Lib.hid hM; have hF2 := Lib.hid (Fresh.mk (below_step hb1.out hb) (fun i hi => Nat.le_trans hb1.out.size (hO i hi))); clear hM hO hb))
  go_upto_region 5 with (first
    | (go_at_call 13; with_reducible refine (k6.out _ hF2.out.below).mono ?_; rintro e u3 ⟨rfl, hr, hb⟩; have hI3 := Lib.hid (own_il hr); have hz3 := Lib.hid (noz_owned hr); have hM3 := Lib.hid (hM2.out.carry hb); have hF3 := Lib.hid (hF2.out.step hb); clear hr hb)
    | (go_at_call 14; with_reducible refine (refNew_any _ (six Z0 l0) u3 hI3.out hz3.out (by rw [six_len]; decide)).mono ?_; rintro e u4 ⟨sv0, xs0, rfl, hR, hro, hb⟩; obtain ⟨sa, sn, sc, _, _, _, rfl, _⟩ := hR.forms; unfold refV; have hR4 := Lib.hid hR; have hro4 := Lib.hid hro; have hM4 := Lib.hid (hM3.out.carry hb); have hF4 := Lib.hid (hF3.out.step hb); have hlt4 := Lib.hid (show ∀ i, O i → i < u3.heap.size from hM3.out.lt); clear hR hro hb))
  have hbA := alloc_below u4 (.cells #[.slice sa sn sc, .slice none 0 0, .int .i64 ((Rf.new (six Z0 l0)).base : Nat)] 28)
  have hx5 := Lib.hid (heap_alloc_new u4 (.cells #[.slice sa sn sc, .slice none 0 0, .int .i64 ((Rf.new (six Z0 l0)).base : Nat)] 28))
  have hsz5 : (u4.alloc (.cells #[.slice sa sn sc, .slice none 0 0, .int .i64 ((Rf.new (six Z0 l0)).base : Nat)] 28)).heap.size = u4.heap.size + 1 := World.size_alloc _ _
  have hM5 := Lib.hid (hM4.out.carry hbA)
  have hF5 := Lib.hid (hF4.out.step hbA)
  have hR5 := Lib.hid (hR4.out.carry hbA)
  generalize u4.alloc (.cells #[.slice sa sn sc, .slice none 0 0, .int .i64 ((Rf.new (six Z0 l0)).base : Nat)] 28) = u5 at *
  have hs34 : u3.heap.size ≤ u4.heap.size := by
    have hxs : 0 < xs0.length := by rw [hR4.out.len]; exact Nat.succ_pos _
    obtain ⟨a, cap, e, _, _, h⟩ := hR4.out.st.shape
    obtain ⟨g, off, rfl, _, _⟩ := h hxs
    simp only [Value.slice.injEq] at e
    obtain ⟨rfl, _, _⟩ := e
    have := hro4.out g (.inl rfl)
    omega
  obtain ⟨B, hB⟩ : ∃ B, B = u4.heap.size := ⟨_, rfl⟩
  rw [← hB] at hx5 hro4 hs34 hsz5 ⊢
  have hOB := Lib.hid (show ∀ i, O i → i < B ∧ i ≠ B from fun i hi => by have := hlt4.out i hi; omega)
  have hRO := Lib.hid (show ∀ g, Rown (.slice sa sn sc) (.slice none 0 0) xs0 g → ¬ O g ∧ g ≠ B ∧ g < B from fun g hg => ⟨fun h => by have h1 := hlt4.out g h; have h2 := (hro4.out g hg).1; omega, by have h2 := (hro4.out g hg).2; omega, (hro4.out g hg).2⟩)
  have hBw : w.heap.size ≤ B := by have := hF4.out.below.size; omega
  clear hB hbA hR4 hro4 hM4 hF4 hlt4 hs34 hI3 hz3 hM3 hF3 hM2 hF2 hr1 hb1 k6
  go_wp2_with (first
    | (go_at_call 15; with_reducible refine (kops.out _ hF5.out.below).mono ?_; rintro e u6 ⟨vo, rfl, hr, hb⟩; obtain ⟨oa, on, oc, rfl⟩ := own_shape hr; obtain ⟨a9, c9, e9, h91, h92, _⟩ := (SRow.owned hr).shape (by decide); simp only [Value.slice.injEq] at e9; obtain ⟨rfl, rfl, rfl⟩ := e9; have hlt := Lib.hid (fun g hg => (hr.lt g hg)); have hol := Lib.hid (OL.owned hr); have hM6 := Lib.hid (hM5.out.carry hb); have hF6 := Lib.hid (hF5.out.step hb); have hR6 := Lib.hid (hR5.out.carry hb); have hx6 := Lib.hid (h_over hb hx5.out); have hsz6 := hb.size; clear hr hb))
  have hne := Lib.hid (fun g (hg : (Value.slice oa on oc).ownBlock = some g) => (fun hO => by have h2 := (hlt.out g hg).1; rcases hO with hO | hO; have h1 := hM5.out.lt g hO; omega; omega : ¬ (O g ∨ g = B)))
  clear hM5 hF5 hR5 hx5 kops
  go_loopw [8] (fun i wr => ∃ (t : Nat) (O' : Nat → Prop) (sv cv : Value) (xs : List Value) (R : Rf), t ≤ on ∧ i = .int .i64 (t : Nat) ∧ Mo wr b O' (hist Z0 l0 Z1 t) ∧ wr.heap[B]? = some (.cells #[sv, cv, .int .i64 (R.base : Nat)] 28) ∧ (∀ i, O' i → i ≠ B) ∧ Rv wr sv cv xs R ∧ Says R (hist Z0 l0 Z1 t) ∧ (∀ g, Rown sv cv xs g → ¬ O' g ∧ g ≠ B ∧ g < wr.heap.size) ∧ Moves (fun i => O i ∨ i = B) u6 (fun i => O' i ∨ i = B) wr) (fun i _ => on - (intOf i).toNat)
  case atStart => exact ⟨0, O, .slice sa sn sc, .slice none 0 0, xs0, Rf.new (six Z0 l0), Nat.zero_le _, rfl, hM6.out, hx6.out, fun i hi => (hOB.out i hi).2, hR6.out, Says.start _, fun g hg => ⟨(hRO.out g hg).1, (hRO.out g hg).2.1, by have := (hRO.out g hg).2.2; omega⟩, Moves.refl _ _⟩
  case round =>
    obtain ⟨t, O', sv, cv, xs, R, ht, rfl, hM, hx, hOB', hR, hS, hRO', hm⟩ := hrel
    have hM' := Lib.hid hM
    have hx' := Lib.hid hx
    have hOB'' := Lib.hid hOB'
    have hR' := Lib.hid hR
    have hS' := Lib.hid hS
    have hRO'' := Lib.hid hRO'
    have hm' := Lib.hid hm
    have hBs := (Array.getElem?_eq_some_iff.1 hx).1
    clear hM hx hOB' hR hS hRO' hm
    by_cases htn : t < on
    · obtain ⟨a8, c8, e8, _, _, h8⟩ := hol.out.moves hm'.out hne.out
      rw [opsN_len] at e8 h8
      simp only [Value.slice.injEq, true_and] at e8
      obtain ⟨rfl, rfl⟩ := e8
      obtain ⟨g, off, rfl, hgl, hc⟩ := h8 (by omega)
      obtain ⟨c0, c1, c2⟩ := hc t _ (opsN_at Z1 htn)
      have hgB : g ≠ B := fun e => hne.out g rfl (.inr e)
      have hok := hist_ok Z0 l0 Z1 t
      have ok := Lib.hid (show Ok (hist Z0 l0 Z1 t) from ⟨by omega, by omega⟩)
      have hst := Lib.hid (hist_succ Z0 l0 Z1 t)
      have hok2 := hist_ok Z0 l0 Z1 (t + 1)
      rw [hst.out] at hok2
      have ok2 := Lib.hid (show Ok ((hist Z0 l0 Z1 t).app (Cm.opAt Z1 t)) from ⟨by omega, by omega⟩)
      clear hc h8 hok hok2
      generalize Cm.opAt Z1 t = o at *
      obtain ⟨d, n, v⟩ := o
      simp only at c0 c1 c2
      obtain ⟨S, hSd⟩ : ∃ S, S = hist Z0 l0 Z1 t := ⟨_, rfl⟩
      rw [← hSd] at hM' hS' ok ok2 hst
      clear hSd
      obtain ⟨sa1, sn1, sc1, ca1, cn1, cc1, rfl, rfl⟩ := hR'.out.forms
      obtain ⟨p0, p1, p2, pf0, pf1, pf2, pl⟩ := obj3 hx'.out
      go_upto_block 2 with fail
      go_cut [9, 10] (fun vw vf W => ∃ (sv cv : Value) (xs : List Value) (R : Rf), vf = .int .i64 (S.eno ⟨d, n, v⟩) ∧ IL W vw (natI (S.lst ⟨d, n, v⟩)) ∧ (∀ k, vw.ownBlock = some k → wr.heap.size ≤ k) ∧ W.heap[B]? = some (.cells #[sv, cv, .int .i64 (R.base : Nat)] 28) ∧ Rv W sv cv xs R ∧ Says R (S.app ⟨d, n, v⟩) ∧ (∀ k, Rown sv cv xs k → ¬ O' k ∧ k ≠ B ∧ k < W.heap.size) ∧ Moves (fun i => i = B) wr (fun i => i = B) W)
      case first =>
        have bD : Below wr.heap.size wr wr.drew := (Below.refl _ wr).drew
        by_cases e1 : d = 1
        · subst e1
          have hop := Lib.hid (op1 S n v)
          have kU := Lib.hid (fun W (hB : Below wr.heap.size wr W) => show Calls Try.prog 16 #[refV (.slice sa1 sn1 sc1) (.slice ca1 cn1 cc1) R, .int .i64 n] W fun e w' => ∃ sv' cv' xs' R', e = .returned (.tuple #[refV sv' cv' R', .int .i64 (S.err n)]) ∧ Rv w' sv' cv' xs' R' ∧ Says R' (S.app ⟨1, n, v⟩) ∧ (∀ k, Rown sv' cv' xs' k → ¬ O' k ∧ k ≠ B ∧ k < w'.heap.size) ∧ Below wr.heap.size wr w' from by
            rw [hop.out.1]
            refine (refUndo_any (hR'.out.carry hB) hS'.out ok.out.pos n).mono ?_
            rintro e w' ⟨sv', cv', xs', R', rfl, h2, h3, h4, h5⟩
            exact ⟨_, _, _, _, rfl, h2, h3, fun k hk => ⟨(hRO''.out k (h4 k hk)).1, (hRO''.out k (h4 k hk)).2.1, by have h6 := (hRO''.out k (h4 k hk)).2.2; have h7 := hB.size; have h8 := h5.size; omega⟩, below_step hB h5⟩)
          unfold refV at kU
          go_upto_region 14 with fail
          go_region_with (go_at_call 16; with_reducible refine (kU.out _ (by first | exact bD | exact Below.refl _ _)).mono ?_; rintro e y1 ⟨sv2, cv2, xs2, R2, rfl, hR2, hS2, hA2, hb⟩; obtain ⟨sa2, sn2, sc2, ca2, cn2, cc2, rfl, rfl⟩ := hR2.forms; have hR2' := Lib.hid hR2; have hS2' := Lib.hid hS2; have hA2' := Lib.hid hA2; have hb2 := Lib.hid hb; obtain ⟨q0, q1, q2, qf0, qf1, qf2, ql⟩ := obj3 (h_over hb hx'.out); clear hR2 hS2 hA2 hb; dsimp only)
          all_goals
            obtain ⟨f1, f2, f3, f4⟩ := op_store (h_over hb2.out hx'.out) hb2.out hR2'.out (fun k hk => (hA2'.out k hk).2.1) (.int .i64 (R2.base : Nat))
            go_wp2_with fail
            go_meet
            exact ⟨_, _, xs2, R2, by rw [hop.out.2.2], by rw [hop.out.2.1]; exact IL.nil _, fun k hk => by simp [Value.ownBlock] at hk, f1, f2, hS2'.out, fun k hk => ⟨(hA2'.out k hk).1, (hA2'.out k hk).2.1, by have := (hA2'.out k hk).2.2; omega⟩, f3⟩
        · by_cases e2 : d = 2
          · subst e2
            clear e1
            have hop := Lib.hid (op2 S n v)
            have kU := Lib.hid (fun W (hB : Below wr.heap.size wr W) => show Calls Try.prog 17 #[refV (.slice sa1 sn1 sc1) (.slice ca1 cn1 cc1) R, .int .i64 n] W fun e w' => ∃ sv' cv' xs' R', e = .returned (.tuple #[refV sv' cv' R', .int .i64 (S.err n)]) ∧ Rv w' sv' cv' xs' R' ∧ Says R' (S.app ⟨2, n, v⟩) ∧ (∀ k, Rown sv' cv' xs' k → ¬ O' k ∧ k ≠ B ∧ k < w'.heap.size) ∧ Below wr.heap.size wr w' from by
              rw [hop.out.1]
              refine (refDiscard_any (hR'.out.carry hB) hS'.out ok.out.pos n).mono ?_
              rintro e w' ⟨R', rfl, h2, h3, h5⟩
              exact ⟨_, _, _, _, rfl, h2, h3, fun k hk => ⟨(hRO''.out k hk).1, (hRO''.out k hk).2.1, by have h6 := (hRO''.out k hk).2.2; have h7 := hB.size; have h8 := h5.size; omega⟩, below_step hB h5⟩)
            unfold refV at kU
            go_upto_region 16 with fail
            go_region_with (go_at_call 17; with_reducible refine (kU.out _ (by first | exact bD | exact Below.refl _ _)).mono ?_; rintro e y1 ⟨sv2, cv2, xs2, R2, rfl, hR2, hS2, hA2, hb⟩; obtain ⟨sa2, sn2, sc2, ca2, cn2, cc2, rfl, rfl⟩ := hR2.forms; have hR2' := Lib.hid hR2; have hS2' := Lib.hid hS2; have hA2' := Lib.hid hA2; have hb2 := Lib.hid hb; obtain ⟨q0, q1, q2, qf0, qf1, qf2, ql⟩ := obj3 (h_over hb hx'.out); clear hR2 hS2 hA2 hb; dsimp only)
            all_goals
              obtain ⟨f1, f2, f3, f4⟩ := op_store (h_over hb2.out hx'.out) hb2.out hR2'.out (fun k hk => (hA2'.out k hk).2.1) (.int .i64 (R2.base : Nat))
              go_wp2_with fail
              go_meet
              exact ⟨_, _, xs2, R2, by rw [hop.out.2.2], by rw [hop.out.2.1]; exact IL.nil _, fun k hk => by simp [Value.ownBlock] at hk, f1, f2, hS2'.out, fun k hk => ⟨(hA2'.out k hk).1, (hA2'.out k hk).2.1, by have := (hA2'.out k hk).2.2; omega⟩, f3⟩
          · by_cases e3 : d = 3
            · subst e3
              clear e1 e2
              have hop := Lib.hid (op3 S n v)
              have kU := Lib.hid (fun W (hB : Below wr.heap.size wr W) => show Calls Try.prog 18 #[refV (.slice sa1 sn1 sc1) (.slice ca1 cn1 cc1) R, .int .i64 n] W fun e w' => ∃ vl, e = .returned (.tuple #[vl, .int .i64 (S.err n)]) ∧ IL w' vl (natI (S.lst ⟨3, n, v⟩)) ∧ (∀ k, vl.ownBlock = some k → wr.heap.size ≤ k) ∧ Below wr.heap.size wr w' from by
                rw [hop.out.2.1]
                refine (refChanged_any (hR'.out.carry hB) hS'.out ok.out.pos ok.out.len n).mono ?_
                rintro e w' ⟨vl, rfl, h2, h3, h5⟩
                exact ⟨_, rfl, h2, fun k hk => Nat.le_trans hB.size (h3 k hk), below_step hB h5⟩)
              unfold refV at kU
              go_upto_region 18 with fail
              go_region_with (go_at_call 18; with_reducible refine (kU.out _ (by first | exact bD | exact Below.refl _ _)).mono ?_; rintro e y1 ⟨vl, rfl, hI2, hO2, hb⟩; have hI2' := Lib.hid hI2; have hO2' := Lib.hid hO2; have hb2 := Lib.hid hb; clear hI2 hO2 hb; dsimp only)
              all_goals
                go_wp2_with fail
                go_meet
                exact ⟨_, _, xs, R, by rw [hop.out.2.2], hI2'.out, hO2'.out, h_over hb2.out hx'.out, hR'.out.carry hb2.out, by rw [hop.out.1]; exact hS'.out, fun k hk => ⟨(hRO''.out k hk).1, (hRO''.out k hk).2.1, by have h6 := (hRO''.out k hk).2.2; have h7 := hb2.out.size; omega⟩, Moves.below _ hb2.out⟩
            · have hop := Lib.hid (op0 S n v e1 e2 e3)
              have b1 : (d == 1) = false := by simpa using e1
              have b2 : (d == 2) = false := by simpa using e2
              have b3 : (d == 3) = false := by simpa using e3
              clear e1 e2 e3
              have kU := Lib.hid (fun W (hB : Below wr.heap.size wr W) => show Calls Try.prog 19 #[refV (.slice sa1 sn1 sc1) (.slice ca1 cn1 cc1) R, .int .i64 n, .int .i64 v] W fun e w' => ∃ sv' cv' xs' R', e = .returned (refV sv' cv' R') ∧ Rv w' sv' cv' xs' R' ∧ Says R' (S.app ⟨d, n, v⟩) ∧ (∀ k, Rown sv' cv' xs' k → ¬ O' k ∧ k ≠ B ∧ k < w'.heap.size) ∧ Below wr.heap.size wr w' from by
                rw [hop.out.1]
                refine (refSet_any (hR'.out.carry hB) hS'.out ok.out.pos ok.out.len n v).mono ?_
                rintro e w' ⟨sv', cv', xs', R', rfl, h2, h3, h4, h5⟩
                exact ⟨_, _, _, _, rfl, h2, h3, fun k hk => by
                  have h7 := hB.size
                  have h8 := h5.size
                  rcases h4 k hk with h9 | h9
                  · have h6 := hRO''.out k h9
                    exact ⟨h6.1, h6.2.1, by omega⟩
                  · exact ⟨fun e => by have := hM'.out.lt k e; omega, by omega, h9.2⟩, below_step hB h5⟩)
              unfold refV at kU
              go_upto_region 12 with fail
              go_region_with (go_at_call 19; with_reducible refine (kU.out _ (by first | exact bD | exact Below.refl _ _)).mono ?_; rintro e y1 ⟨sv2, cv2, xs2, R2, rfl, hR2, hS2, hA2, hb⟩; obtain ⟨sa2, sn2, sc2, ca2, cn2, cc2, rfl, rfl⟩ := hR2.forms; have hR2' := Lib.hid hR2; have hS2' := Lib.hid hS2; have hA2' := Lib.hid hA2; have hb2 := Lib.hid hb; obtain ⟨q0, q1, q2, qf0, qf1, qf2, ql⟩ := obj3 (h_over hb hx'.out); clear hR2 hS2 hA2 hb; dsimp only)
              all_goals
                obtain ⟨f1, f2, f3, f4⟩ := op_store (h_over hb2.out hx'.out) hb2.out hR2'.out (fun k hk => (hA2'.out k hk).2.1) (.int .i64 (R2.base : Nat))
                go_wp2_with fail
                go_meet
                exact ⟨_, _, xs2, R2, by rw [hop.out.2.2], by rw [hop.out.2.1]; exact IL.nil _, fun k hk => by simp [Value.ownBlock] at hk, f1, f2, hS2'.out, fun k hk => ⟨(hA2'.out k hk).1, (hA2'.out k hk).2.1, by have := (hA2'.out k hk).2.2; omega⟩, f3⟩
      case rest =>
        obtain ⟨sv2, cv2, xs2, R2, rfl, hwI, hwO, hbx, hR2, hS2, hA2, hmB⟩ := hcut
        have hgl' : g < wr.heap.size := hgl
        replace c0 := (World.cell?_of_block (hmB.block g hgl' hgB)).trans c0
        replace c1 := (World.cell?_of_block (hmB.block g hgl' hgB)).trans c1
        replace c2 := (World.cell?_of_block (hmB.block g hgl' hgB)).trans c2
        have hMc := hM'.out.beside hmB (fun i hi => hOB''.out i hi)
        have ka := Lib.hid (apply_any hMc ok.out ⟨d, n, v⟩)
        simp only at ka
        have hwI' := Lib.hid hwI
        have hwO' := Lib.hid hwO
        have hbx' := Lib.hid hbx
        have hR2' := Lib.hid hR2
        have hS2' := Lib.hid hS2
        have hA2' := Lib.hid hA2
        have hmB' := Lib.hid hmB
        have hBc := (Array.getElem?_eq_some_iff.1 hbx).1
        clear hwI hwO hbx hR2 hS2 hA2 hmB hMc p0 p1 p2 pf0 pf1 pf2 pl hR' hS' hx' hRO''
        generalize S.eno ⟨d, n, v⟩ = en at *
        generalize S.lst ⟨d, n, v⟩ = ls at *
        generalize S.app ⟨d, n, v⟩ = T at *
        go_upto_region 20 with (first
          | (go_at_call 20; with_reducible refine ka.out.mono ?_; rintro e y5 ⟨vl, rfl, ⟨hI5, hO5⟩, O5, hM5, hm5⟩; have hI5' := Lib.hid hI5; have hM5' := Lib.hid hM5; have hm5' := Lib.hid hm5; clear hI5 hO5 hM5 hm5))
        have hw5 := Lib.hid (hwI'.out.moves hm5'.out (fun k hk hO => by have h1 := hwO'.out k hk; have h2 := hM'.out.lt k hO; omega))
        have hR5 := Lib.hid (hR2'.out.apart hm5'.out (fun k hk => (hA2'.out k hk).1))
        have hx5 := Lib.hid ((hm5'.out.block B hBc (fun e => hOB''.out B e rfl)).trans hbx'.out)
        have hOB5 := Lib.hid (show ∀ i, O5 i → i ≠ B from fun i hi => by
          rcases hm5'.out.own i hi with h1 | h1
          · exact hOB''.out i h1
          · omega)
        have hA5 := Lib.hid (show ∀ k, Rown sv2 cv2 xs2 k → ¬ O5 k ∧ k ≠ B ∧ k < y5.heap.size from fun k hk => by
          obtain ⟨h1, h2, h3⟩ := hA2'.out k hk
          have h4 := hm5'.out.size
          refine ⟨fun e => ?_, h2, by omega⟩
          rcases hm5'.out.own k e with h5 | h5
          · exact h1 h5
          · omega)
        have hmm := Lib.hid ((hm'.out.trans (mv_widen (P := fun i => O' i ∨ i = B) (P' := fun i => O' i ∨ i = B) hmB'.out (fun i hi => .inr hi) (fun i hi => .inr hi))).trans (mv_widen (P := fun i => O' i ∨ i = B) (P' := fun i => O5 i ∨ i = B) hm5'.out (fun i hi => .inl hi) (fun i hi => hi.elim .inl (fun e => .inr (.inr e)))))
        obtain ⟨x5, hx5v, hx5I, _⟩ := hR5.out.now hS2'.out
        have hxI := Lib.hid hx5I
        have kN := Lib.hid (fun W (hB : Below y5.heap.size y5 W) => refNow_any (hR5.out.carry hB) hS2'.out ok2.out.pos hx5v)
        have kRM := Lib.hid (fun W (hB : Below y5.heap.size y5 W) => refMark_any (hR5.out.carry hB) (by rw [hS2'.out.pos]; exact ok2.out.pos))
        have kC := Lib.hid (fun W (hB : Below y5.heap.size y5 W) => (hM5'.out.carry hB).all ok2.out)
        have kMk := Lib.hid (fun W (hB : Below y5.heap.size y5 W) => (hM5'.out.carry hB).mark ok2.out)
        have kL := Lib.hid (fun W (hB : Below y5.heap.size y5 W) => (hM5'.out.carry hB).logged)
        have kS := Lib.hid (fun W (hB : Below y5.heap.size y5 W) => sameT_any vl u9 (natI ls) W (hI5'.out.carry hB) (hw5.out.carry hB))
        rw [hS2'.out.pos] at kRM
        have hpb : T.pos = R2.base + T.lg.length := by rw [hS2'.out.base]; rfl
        have hp30 : T.pos ≤ 10000 := ok2.out.pos
        obtain ⟨sa2, sn2, sc2, ca2, cn2, cc2, rfl, rfl⟩ := hR5.out.forms
        unfold refV at kN kRM
        clear hx5v hx5I ka
        generalize hps : T.pos = ps at *
        generalize hlg : T.lg.length = lg at *
        generalize hrb : R2.base = rb at *
        have hps' := Lib.hid hps
        have hlg' := Lib.hid hlg
        have hrb' := Lib.hid hrb
        clear hps hlg hrb
        have hsub : ((ps : Nat) : Int) - (rb : Int) = (lg : Int) := by omega
        have hlg3 : lg ≤ 10000 := by omega
        have hwr : IntKind.i64.wrap (lg : Int) = (lg : Int) := by simp [IntKind.wrap, IntKind.bits, IntKind.signed]; omega
        clear hpb
        obtain ⟨p0, p1, p2, pf0, pf1, pf2, pl⟩ := obj3 hx5.out
        have bD : Below y5.heap.size y5 y5.drew := (Below.refl _ y5).drew
        have mk := Lib.hid (fun w' (h : Below y5.heap.size y5 w') => (⟨carry h p0, carry h p1, carry h p2, h⟩ : w'.cell? ⟨B, 0, none⟩ = some (.slice sa2 sn2 sc2) ∧ w'.cell? ⟨B, 1, none⟩ = some (.slice ca2 cn2 cc2) ∧ w'.cell? ⟨B, 2, none⟩ = some (.int .i64 (rb : Nat)) ∧ Below y5.heap.size y5 w'))
        go_region_held3 (fun w' => w'.cell? ⟨B, 0, none⟩ = some (.slice sa2 sn2 sc2) ∧ w'.cell? ⟨B, 1, none⟩ = some (.slice ca2 cn2 cc2) ∧ w'.cell? ⟨B, 2, none⟩ = some (.int .i64 (rb : Nat)) ∧ Below y5.heap.size y5 w')
          (first | (with_reducible exact mk.out _ bD) | (with_reducible exact mk.out _ B6) | (with_reducible exact mk.out _ B7) | (with_reducible exact mk.out _ B8) | (with_reducible exact mk.out _ B9) | (with_reducible exact mk.out _ B10) | (with_reducible exact mk.out _ B11) | (with_reducible exact mk.out _ B12) | (with_reducible exact mk.out _ B6.drew) | (with_reducible exact mk.out _ B7.drew) | (with_reducible exact mk.out _ B8.drew) | (with_reducible exact mk.out _ B9.drew) | (with_reducible exact mk.out _ B10.drew) | (with_reducible exact mk.out _ B11.drew))
          (first
            | (go_at_call 25; with_reducible refine (kRM.out _ (by first | exact hL11.out | exact hL11.out.drew)).mono ?_; rintro e y12 ⟨rfl, hb12⟩; have B12 : Below y5.heap.size y5 y12 := below_step (by first | exact hL11.out | exact hL11.out.drew) hb12; clear hb12; dsimp only)
            | (go_at_call 26; with_reducible refine (kL.out _ (by first | exact B11 | exact B11.drew)).mono ?_; rintro e y13 ⟨rfl, rfl⟩; have hL11 := Lib.hid B11; dsimp only)
            | (go_at_call 25; with_reducible refine (kRM.out _ (by first | exact B10 | exact B10.drew)).mono ?_; rintro e y11 ⟨rfl, hb11⟩; have B11 : Below y5.heap.size y5 y11 := below_step (by first | exact B10 | exact B10.drew) hb11; clear hb11; dsimp only)
            | (go_at_call 24; with_reducible refine (kMk.out _ (by first | exact B9 | exact B9.drew)).mono ?_; rintro e y10 ⟨rfl, hb10⟩; have B10 : Below y5.heap.size y5 y10 := below_step (by first | exact B9 | exact B9.drew) hb10; clear hb10; dsimp only)
            | (go_at_call 21; with_reducible refine (sameT_any vc x5 T.cs _ (by first | exact hI8.out | exact hI8.out.carry ((Below.refl _ _).drew)) (by first | exact hxI.out.carry B8 | exact hxI.out.carry B8.drew)).mono ?_; rintro e y9 ⟨rfl, hb9⟩; have B9 : Below y5.heap.size y5 y9 := below_step (by first | exact B8 | exact B8.drew) hb9; clear hb9; dsimp only)
            | (go_at_call 23; with_reducible refine (kN.out _ (by first | exact B7 | exact B7.drew)).mono ?_; rintro e y8 ⟨rfl, hb8⟩; have B8 : Below y5.heap.size y5 y8 := below_step (by first | exact B7 | exact B7.drew) hb8; have hI8 := Lib.hid (hI7.out.carry (by first | exact hb8 | exact below_step ((Below.refl _ _).drew) hb8)); clear hb8; dsimp only)
            | (go_at_call 22; with_reducible refine (kC.out _ (by first | exact B6 | exact B6.drew)).mono ?_; rintro e y7 ⟨vc, rfl, hr7, hb7⟩; have B7 : Below y5.heap.size y5 y7 := below_step (by first | exact B6 | exact B6.drew) hb7; have hI7 := Lib.hid (own_il hr7); clear hr7 hb7; dsimp only)
            | (go_at_call 21; with_reducible refine (kS.out _ (by first | exact bD | exact Below.refl _ _)).mono ?_; rintro e y6 ⟨rfl, hb6⟩; have B6 : Below y5.heap.size y5 y6 := below_step (by first | exact bD | exact Below.refl _ _) hb6; clear hb6; dsimp only))
        have hM12 := Lib.hid (hM5'.out.carry B12)
        have hx12 := Lib.hid (h_over B12 hx5.out)
        have hR12 := Lib.hid (hR5.out.carry B12)
        have hA12 := Lib.hid (show ∀ k, Rown (.slice sa2 sn2 sc2) (.slice ca2 cn2 cc2) xs2 k → ¬ O5 k ∧ k ≠ B ∧ k < y12.heap.size from fun k hk => ⟨(hA5.out k hk).1, (hA5.out k hk).2.1, by have h1 := (hA5.out k hk).2.2; have h2 := B12.size; omega⟩)
        have hmm12 := Lib.hid (hmm.out.step B12)
        clear bD B6 B7 B8 B9 B10 B11 B12 mk p0 p1 p2 pf0 pf1 pf2 pl c0 c1 c2
        go_wp2_with fail
        refine ⟨⟨t + 1, O5, _, _, xs2, R2, by omega, by go_num, by rw [hst.out]; exact hM12.out, by rw [hrb'.out]; exact hx12.out, hOB5.out, hR12.out, by rw [hst.out]; exact hS2'.out, hA12.out, hmm12.out⟩, ?_⟩
        simp [intOf]; omega
    · obtain rfl : t = on := by omega
      have hl := Lib.hid (hist_ok Z0 l0 Z1 t).1
      have kln := Lib.hid (hM'.out.len)
      rw [hl.out] at kln
      go_wp2_with (first
        | (go_at_call 27; with_reducible refine kln.out.mono ?_; rintro e u7 ⟨rfl, rfl⟩)
        | (go_at_call 28; with_reducible refine (kl.out _).mono ?_; rintro e u8 ⟨rfl, hb⟩; have hb8 := Lib.hid hb; clear hb))
      go_ret
      refine ⟨rfl, below_step (hm'.out.toBelow hF6.out.below (fun i hi => ?_)) hb8.out⟩
      rcases hi with hi | rfl
      · exact hF6.out.own i hi
      · exact hBw

set_option maxRecDepth 100000 in
theorem lifted (os : Os) (started : os.Started) (H : Type) (enc : TypeId × Value → H) :
    ReturnsInHanded {} Try.checked os 3 .any (Rows.cellmemOpsSpec.pre6 enc Try.prog Try.f3 Rows.cellmemOpsRow.domain false) (Rows.cellmemOpsSpec.post enc Try.prog Try.f3 false true false false) := by
  refine returnsInHanded_of_change (C := Try.checked) own started (by kernel_rfl) Try.func3
    (ChangeSpec.witness6 (enc := enc) (C := Try.checked) false ⟨#[], #[.slice none 0 0, .slice none 0 0], []⟩ 8 (by kernel_rfl) (by kernel_rfl) (by kernel_rfl) (by kernel_rfl)) ?_
  intro W base args ds gs before hval0 hW hcnd _
  have hval : ∀ (j : Nat) t v, Try.f3.params[j]? = some t → args[j]? = some v → Value.okWide Try.prog W .any base t v := hval0
  have hW' := hW
  obtain ⟨p, q, hA0, hV, rfl, hfz, hnd⟩ := hW
  have hA : DataW.TrodAll enc Try.prog W 0 (fun _ => true) true Try.f3.params.toList args.toList ds p := hA0
  rw [Try.params3] at hA hval
  have hAk := hA
  obtain ⟨v0, vs0, d0, ds0, p0, q0, hargs, rfl, hp0, h0, r0⟩ := trodAll_cons hA
  obtain ⟨v1, vs1, d1, ds1, p1, q1, rfl, rfl, hp1, h1, r1⟩ := trodAll_cons r0
  obtain ⟨rfl, rfl, -⟩ := trodAll_nil r1
  obtain rfl : args = #[v0, v1] := by cases args; simp_all
  obtain ⟨rfl, rfl⟩ := trodVars_none hV
  obtain ⟨x0, q0, c0, rfl⟩ := okWide_slice Try.underlying22 (hval 0 22 v0 rfl rfl)
  obtain ⟨fu0, fh0⟩ := h0
  obtain ⟨s0, Z0, l0, e0, H0⟩ := open_int_cells Try.underlying22 Try.underlying3 (by kernel_rfl) fh0
  simp only [Value.cells, List.cons.injEq, and_true] at e0
  obtain rfl := e0.symm
  obtain ⟨x1, q1, c1, rfl⟩ := okWide_slice Try.underlying22 (hval 1 22 v1 rfl rfl)
  obtain ⟨fu1, fh1⟩ := h1
  obtain ⟨s1, Z1, l1, e1, H1⟩ := open_int_cells Try.underlying22 Try.underlying3 (by kernel_rfl) fh1
  simp only [Value.cells, List.cons.injEq, and_true] at e1
  obtain rfl := e1.symm
  clear hA0 hval0
  simp only [List.append_nil] at hW'
  refine (walk W _ Z0 l0 H0 _ Z1 l1 H1).mono fun e W' ⟨he, hb⟩ => ?_
  subst he
  exact ⟨_, rfl, kept_post (pa := p) hW' (fun _ _ _ => (trodAll_cons_mk (shut_bool Try.underlying4 _) trodAll_mk0)) (fun sp hsp => trodAll_stays laid hb (by rw [Try.params3]; decide +kernel) hAk (fun x hx => hW'.lt x hx) hsp) (fun _ => rfl) hb (ok_one (by kernel_rfl) rfl (okWide_bool_mk Try.underlying4 _))⟩

theorem over : Rows.cellmemOpsRow.holds Try.pinned (OpenSpec.ofChange Rows.cellmemOpsSpec) :=
  OpenClaim.holds_of_wide 3 Try.f3 rfl rfl rfl rfl rfl rfl rfl ⟨rfl, rfl, rfl, rfl, rfl⟩ rfl rfl rfl rfl rfl (by kernel_rfl) Try.func3 (by kernel_rfl)
    (of_decide_eq_true (by kernel_rfl)) (by unfold Func.isWrapper; first | (rw [if_pos (by decide +kernel)]; kernel_rfl) | (rw [if_neg (by decide +kernel)]; exact ⟨rfl, rfl⟩))
    (fun os started H enc _ => lifted os started H enc)

theorem proved : Rows.CellmemOpsSaid :=
  over
#print axioms proved
end Go.Proofs.Ytlpacihkmfgegaa.cellmemOps
