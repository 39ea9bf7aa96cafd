/- The reference of package cellmem: Changed. -/
import Derived.Test.YtlpacihkmfgegaaCmT
namespace Go.Proofs.Ytlpacihkmfgegaa
open Go.ChangeShapes Go.WideShapes Go.ChangeAt Go.RowKit
open Cm
set_option linter.unusedSimpArgs false
set_option linter.unusedVariables false

/-- The cells below t that the list names. -/
def gat (ce : List Nat) (t : Nat) : List Nat := (List.range t).filter fun i => decide (i ∈ ce)
theorem gat_yes {ce : List Nat} {t : Nat} (h : t ∈ ce) : gat ce (t + 1) = gat ce t ++ [t] := by
  unfold gat; rw [List.range_succ, List.filter_append, List.filter_cons]; simp [h]
theorem gat_no {ce : List Nat} {t : Nat} (h : ¬ t ∈ ce) : gat ce (t + 1) = gat ce t := by
  unfold gat; rw [List.range_succ, List.filter_append, List.filter_cons]; simp [h]
theorem gat_len (ce : List Nat) (t : Nat) : (gat ce t).length ≤ t := by
  unfold gat; exact Nat.le_trans (List.length_filter_le _ _) (by simp)
section
variable {w : World} {sv cv : Value} {xs : List Value} {R : Rf} {S : Me}
set_option maxHeartbeats 4000000 in
theorem refChanged_any (h : Rv w sv cv xs R) (hs : Says R S) (hP : S.pos ≤ 10000) (hN : S.cs.length ≤ 10000) (m : Int) :
    Calls Try.prog 18 #[refV sv cv R, .int .i64 m] w fun e w' => ∃ v, e = .returned (.tuple #[v, .int .i64 (S.err m)]) ∧ IL w' v (natI (S.changed m)) ∧ (∀ g, v.ownBlock = some g → w.heap.size ≤ g) ∧ Below w.heap.size w w' := by
  have hb := alloc_below w (.cells #[sv, cv, .int .i64 (R.base : Nat)] 28)
  have hp1 := heap_alloc_new w (.cells #[sv, cv, .int .i64 (R.base : Nat)] 28)
  obtain ⟨V, hV⟩ : ∃ V, V = w.alloc (.cells #[sv, cv, .int .i64 (R.base : Nat)] 28) := ⟨_, rfl⟩
  rw [← hV] at hp1 hb
  have kc := Lib.hid (refCheck_any (h.carry hb) hs hP m)
  obtain ⟨x, hx, hxI, hxz⟩ := h.now hs
  have hcl : R.ce.length ≤ 10000 := by rw [hs.pos]; exact hP
  have kn := Lib.hid (fun W (hB : Below w.heap.size w W) => refNow_any (h.carry hB) hs hP hx)
  have hR := Lib.hid h
  have hS := Lib.hid hs
  obtain ⟨sa, sn, sc, ca0, cn0, cc0, hsf, hcf⟩ := h.forms
  obtain ⟨ca, cc, hcv, hc1, hc2, hc3⟩ := h.ce
  have hnc := h.nc
  rw [ints_length, natI_length] at hcv hc1
  obtain ⟨xa, xc, hxv⟩ := il_shape hxI
  subst hxv
  clear hcf
  subst hsf
  subst hcv
  unfold refV at *
  unfold maxLen at hc2
  have hV' := Lib.hid hV
  have hp' := Lib.hid hp1
  have hb' := Lib.hid hb
  have hx' := Lib.hid hx
  have hxI' := Lib.hid hxI
  clear h hs hb hp1 hV hx hxI hxz
  by_cases hz : S.err m = 0
  · obtain ⟨_, _, _, hmp, hm0⟩ := Me.undo_pos hz
    have hch := Lib.hid (hS.out.changed hz)
    rw [hz] at kc ⊢
    obtain ⟨k, rfl⟩ : ∃ k : Nat, m = (k : Int) := ⟨m.toNat, by omega⟩
    rw [Int.toNat_natCast] at hmp hch
    rw [← hS.out.pos] at hmp
    clear hz hm0
    have hIL := Lib.hid (show ∀ W, Below w.heap.size w W → IL W (.slice (if cc = k then ca else ca.map (·.add k)) (R.ce.length - k) (cc - k)) (natI (R.ce.drop k)) from fun W hB => by
      have h1 : IL W (.slice ca R.ce.length cc) (natI R.ce) := (hR.out.carry hB).ce
      have hl : (ints (natI (R.ce.drop k))).length = R.ce.length - k := by rw [ints_length, natI_length, List.length_drop]
      refine ⟨_, cc - k, by rw [hl], by rw [hl]; omega, by unfold maxLen; omega, ?_⟩
      rcases Nat.lt_or_ge k R.ce.length with h2 | h2
      · obtain ⟨a', c', e1, _, _, h6⟩ := h1
        simp only [Value.slice.injEq] at e1
        obtain ⟨rfl, _, rfl⟩ := e1
        rcases h6 with h6 | ⟨gg, oo, rfl, h8, h9⟩
        · have := congrArg List.length h6
          rw [ints_length, natI_length, List.length_nil] at this
          omega
        · refine .inr ⟨gg, oo + k, ?_, h8, fun i u hu => ?_⟩
          · rw [if_neg (by omega)]
            have ha : (⟨gg, oo, none⟩ : Addr).add k = ⟨gg, oo + k, none⟩ := by unfold Addr.add; split <;> simp_all
            rw [Option.map_some, ha]
          · rw [Nat.add_assoc]
            refine h9 (k + i) u ?_
            rw [show ints (natI (R.ce.drop k)) = (ints (natI R.ce)).drop k from by simp [ints, natI, List.map_drop], List.getElem?_drop] at hu
            exact hu
      · exact .inl (List.length_eq_zero_iff.1 (by rw [hl]; omega)))
    have hch2 := Lib.hid (show S.changed (k : Int) = gat (R.ce.drop k) S.cs.length from hch.out)
    clear hch
    have hRl := Lib.hid (show (natI (R.ce.drop k)).length = R.ce.length - k from by rw [natI_length, List.length_drop])
    clear hc3 hnc hP
    generalize R.ce.drop k = D at *
    generalize R.ce.length = pc at *
    generalize hn : S.cs.length = n at *
    have hn' := Lib.hid hn
    clear hn
    have i1 : (0 : Int) ≤ (k : Int) := by omega
    have i2 : (k : Int) ≤ (pc : Int) := by omega
    have i3 : (k : Int) ≤ (cc : Int) := by omega
    obtain ⟨i0, hi0, hz0, hz1, hz2⟩ := info_parts info_int
    have hi0' := Lib.hid hi0; clear hi0
    have hz0' := Lib.hid hz0; clear hz0
    have hz1' := Lib.hid hz1; clear hz1
    have hz2' := Lib.hid hz2; clear hz2
    go_enter Try.func18, Try.ntmps18
    go_upto_region 1 with fail
    rw [show w.alloc (.cells #[.slice sa sn sc, .slice ca pc cc, .int .i64 (R.base : Nat)] 28) = V from hV'.out.symm]
    obtain ⟨p0, p1, p2, pf0, pf1, pf2, pl⟩ := obj3 hp'.out
    go_wp2_with (first | (go_at_call 41; with_reducible refine kc.out.mono ?_; rintro e y1 ⟨rfl, hb1⟩; have hp1 := Lib.hid (h_over hb1 hp'.out); have hb1' := Lib.hid (below_step hb'.out hb1); clear hb1 p0 p1 p2 pf0 pf1 pf2 pl))
    go_loopw [7, 8, 31] (fun o i _ wr => ∃ t : Nat, t ≤ n ∧ i = .int .i64 (t : Nat) ∧ wr.ownsRow y1.heap.size 3 1 o (gat D t).length (ints (natI (gat D t))) ∧ Below y1.heap.size y1 wr) (fun _ i _ _ => n - (intOf i).toNat)
    case atStart => exact ⟨0, Nat.zero_le _, rfl, World.ownsRow_nil _ _ _ _, Below.refl _ _⟩
    case round =>
      obtain ⟨t, ht, rfl, hown, hB⟩ := hrel
      have hown' := Lib.hid hown
      have hB' := Lib.hid hB
      have hgl := gat_len D t
      obtain ⟨c0, c1, c2, cf0, cf1, cf2, cl⟩ := obj3 (h_over hB hp1.out)
      clear hown hB
      by_cases hlt : t < n
      · by_cases hin : t ∈ D
        · have hin' := Lib.hid (show decide ((t : Int) ∈ natI D) = true from decide_eq_true (mem_natI.2 ⟨by omega, by simpa using hin⟩))
          have hst := Lib.hid (gat_yes hin)
          clear hin
          go_wp2_with (first
            | (go_at_call 23; with_reducible refine (kn.out _ (below_step hb1'.out hB'.out)).mono ?_; rintro e y2 ⟨rfl, hb2⟩; obtain ⟨p0, p1, p2, pf0, pf1, pf2, pl⟩ := obj3 (h_over hb2 (h_over hB'.out hp1.out)); have hB2 := Lib.hid (below_step hB'.out hb2); have hsz2 := hB2.out.size; have hown2 := Lib.hid (own_carry hown'.out hb2); have hlo := Lib.hid hown2.out.lt; clear hb2 c0 c1 c2 cf0 cf1 cf2 cl)
            | (go_at_call 36; with_reducible refine (hasI_any _ (natI D) ((t : Nat) : Int) _ (hIL.out _ (below_step hb1'.out hB2.out))).mono ?_; rintro e y3 ⟨rfl, rfl⟩; rw [hin'.out])
            | (at_builtin; (refine wpList_append_own _ rfl _ _ 22 rfl y1.heap.size 3 i0 _ 1 8 Try.underlying22 hi0'.out hz0'.out hz1'.out hz2'.out rfl (by decide) u7 (gat D t).length (ints (natI (gat D t))) rfl (World.ownsRow.alloc hown2.out _) ⟨y2.heap.size, 0, none⟩ 1 1 [.int .i64 (t : Nat)] rfl rfl (cell_one_new _ _ _) (ints_oneCell .i64 [(t : Int)]) (by unfold maxLen; omega) (by omega) (by simp; omega) ?_; intro v3 y3 hown3 hg3 _; have B3 := Lib.hid ((hB2.out.alloc hsz2 _).grown hg3 (by simp; omega) (fun k hk => (hlo.out k hk).1)); have hown3' := Lib.hid hown3; clear hown3 hg3)))
          refine ⟨⟨t + 1, by omega, by go_num, by rw [hst.out, natI_snoc, List.length_append]; exact hown3'.out, B3.out⟩, ?_⟩
          simp [intOf]; omega
        · have hin' := Lib.hid (show decide ((t : Int) ∈ natI D) = false from decide_eq_false (fun h => hin (by simpa using (mem_natI.1 h).2)))
          have hst := Lib.hid (gat_no hin)
          clear hin
          go_wp2_with (first
            | (go_at_call 23; with_reducible refine (kn.out _ (below_step hb1'.out hB'.out)).mono ?_; rintro e y2 ⟨rfl, hb2⟩; obtain ⟨p0, p1, p2, pf0, pf1, pf2, pl⟩ := obj3 (h_over hb2 (h_over hB'.out hp1.out)); have hB2 := Lib.hid (below_step hB'.out hb2); have hsz2 := hB2.out.size; have hown2 := Lib.hid (own_carry hown'.out hb2); have hlo := Lib.hid hown2.out.lt; clear hb2 c0 c1 c2 cf0 cf1 cf2 cl)
            | (go_at_call 36; with_reducible refine (hasI_any _ (natI D) ((t : Nat) : Int) _ (hIL.out _ (below_step hb1'.out hB2.out))).mono ?_; rintro e y3 ⟨rfl, rfl⟩; rw [hin'.out]))
          refine ⟨⟨t + 1, by omega, by go_num, by rw [hst.out]; exact hown2.out, hB2.out⟩, ?_⟩
          simp [intOf]; omega
      · obtain rfl : t = n := by omega
        go_wp2_with (first
          | (go_at_call 23; with_reducible refine (kn.out _ (below_step hb1'.out hB'.out)).mono ?_; rintro e y2 ⟨rfl, hb2⟩; obtain ⟨p0, p1, p2, pf0, pf1, pf2, pl⟩ := obj3 (h_over hb2 (h_over hB'.out hp1.out)); have hB2 := Lib.hid (below_step hB'.out hb2); have hsz2 := hB2.out.size; have hown2 := Lib.hid (own_carry hown'.out hb2); have hlo := Lib.hid hown2.out.lt; clear hb2 c0 c1 c2 cf0 cf1 cf2 cl))
        go_ret2
        exact ⟨_, rfl, by rw [hch2.out]; exact IL.owned hown2.out, fun g hg => by (have h1 := (hown2.out.lt g hg).1; have h2 := hb1'.out.size; omega), below_step hb1'.out hB2.out⟩
  · have hy := Lib.hid (show S.changed m = [] from by unfold Me.changed; rw [if_neg hz])
    have hne : (S.err m == 0) = false := by simpa using hz
    generalize S.err m = er at *
    clear hz
    rw [hy.out]
    go_enter Try.func18, Try.ntmps18
    go_upto_region 1 with fail
    rw [show w.alloc (.cells #[.slice sa sn sc, .slice ca R.ce.length cc, .int .i64 (R.base : Nat)] 28) = V from hV'.out.symm]
    obtain ⟨p0, p1, p2, pf0, pf1, pf2, pl⟩ := obj3 hp'.out
    go_wp2_with (first | (go_at_call 41; with_reducible refine kc.out.mono ?_; rintro e y1 ⟨rfl, hb1⟩; have hb1' := Lib.hid (below_step hb'.out hb1); clear hb1 p0 p1 p2 pf0 pf1 pf2 pl))
    go_ret2
    exact ⟨_, rfl, IL.nil _, fun g hg => by simp [Value.ownBlock] at hg, hb1'.out⟩
end
end Go.Proofs.Ytlpacihkmfgegaa
