/- Package cellmem: Changed. -/
import Derived.Test.YtlpacihkmfgegaaCmG
namespace Go.Proofs.Ytlpacihkmfgegaa
open Go.ChangeShapes Go.WideShapes Go.ChangeAt Go.RowKit
open Cm
set_option linter.unusedSimpArgs false
set_option linter.unusedVariables false

theorem own_base {w : World} {B B' : Nat} {e : TypeId} {k : Nat} {v : Value} {n : Nat} {xs : List Value} (h : w.ownsRow B e k v n xs) (hb : B' ≤ B) : w.ownsRow B' e k v n xs := by
  refine ⟨h.1, ?_⟩
  rcases h.2 with h1 | ⟨g, cap, cur, h1, h2, h3⟩
  · exact .inl h1
  · exact .inr ⟨g, cap, cur, h1, Nat.le_trans hb h2, h3⟩
theorem own_carry {w w' : World} {B : Nat} {e : TypeId} {k : Nat} {v : Value} {n : Nat} {xs : List Value} (h : w.ownsRow B e k v n xs) (hb : Below w.heap.size w w') : w'.ownsRow B e k v n xs :=
  h.kept (row := none) ⟨hb.os, hb.tape, hb.output, hb.size, fun k hk _ => hb.block k hk⟩ (by cases v.ownBlock <;> simp)
/-- The number in place j of a row of entries. -/
def keyAt (L : List (Nat × Int)) (j : Nat) : Nat := (L[j]?.map Prod.fst).getD 0
theorem keyAt_eq {L : List (Nat × Int)} {j : Nat} {p : Nat × Int} (h : L[j]? = some p) : keyAt L j = p.1 := by unfold keyAt; rw [h]; rfl
/-- What the sorted row says. -/
structure Sorted (E L : List (Nat × Int)) : Prop where
  len : L.length = E.length
  mono : ∀ i j, i ≤ j → j < L.length → keyAt L i ≤ keyAt L j
  none : ∀ (j : Nat) (p : Nat × Int), L[j]? = some p → p = (keyAt L j, 0)
  mem : ∀ x, x ∈ E.map Prod.fst ↔ ∃ j, j < L.length ∧ keyAt L j = x
theorem sorted_of {E L : List (Nat × Int)} (hp : L.Perm (E.map noVal)) (hs : L.Pairwise fun x y => ¬ cmpE y x < 0) : Sorted E L := by
  have hl : L.length = E.length := by rw [hp.length_eq, List.length_map]
  refine ⟨hl, fun i j hij hj => ?_, fun j p h => ?_, fun x => ?_⟩
  · rcases Nat.eq_or_lt_of_le hij with rfl | hlt
    · exact Nat.le_refl _
    · have h1 := List.pairwise_iff_getElem.1 hs i j (by omega) hj hlt
      rw [cmpE_lt] at h1
      rw [keyAt_eq (List.getElem?_eq_getElem (by omega : i < L.length)), keyAt_eq (List.getElem?_eq_getElem hj)]
      omega
  · have h1 := hp.mem_iff.1 (List.mem_of_getElem? h)
    obtain ⟨q, _, rfl⟩ := List.mem_map.1 h1
    rw [keyAt_eq h]
    rfl
  · constructor
    · intro hx
      obtain ⟨q, hq, rfl⟩ := List.mem_map.1 hx
      have h1 := hp.mem_iff.2 (List.mem_map.2 ⟨q, hq, rfl⟩)
      obtain ⟨j, hj, he⟩ := List.getElem_of_mem h1
      exact ⟨j, hj, by rw [keyAt_eq (List.getElem?_eq_getElem hj), he]; rfl⟩
    · rintro ⟨j, hj, rfl⟩
      have h1 := hp.mem_iff.1 (List.getElem_mem hj)
      obtain ⟨q, hq, he⟩ := List.mem_map.1 h1
      rw [keyAt_eq (List.getElem?_eq_getElem hj), ← he]
      exact List.mem_map.2 ⟨q, hq, rfl⟩
theorem natI_snoc (l : List Nat) (x : Nat) : ints (natI (l ++ [x])) = ints (natI l) ++ [.int .i64 (x : Nat)] := by unfold ints natI; rw [List.map_append, List.map_append]; rfl
theorem dd_yes {K : Nat → Nat} {i : Nat} (h : i = 0 ∨ K i ≠ K (i - 1)) : dd K (i + 1) = dd K i ++ [K i] := by rw [dd, if_pos h]
theorem dd_no {K : Nat → Nat} {i : Nat} (h : ¬ (i = 0 ∨ K i ≠ K (i - 1))) : dd K (i + 1) = dd K i := by rw [dd, if_neg h]

set_option maxHeartbeats 8000000 in
theorem cmChanged_par {w : World} {b : Nat} {O : Nat → Prop} {S : Me} {cv lv : Value} (h : Par w b O S cv lv) (hP : S.pos ≤ 10000) (m : Int) :
    Calls Try.prog 35 #[.pointer (some ⟨b, 0, none⟩), .int .i64 m] w fun e w' => ∃ v, e = .returned (.tuple #[v, .int .i64 (S.err m)]) ∧ w'.ownsRow w.heap.size 3 1 v (S.changed m).length (ints (natI (S.changed m))) ∧ Below w.heap.size w w' := by
  have kc := Lib.hid (h.check hP m)
  have h' := Lib.hid h
  clear h
  by_cases hz : S.err m = 0
  · obtain ⟨h1, _, h3, h4, h5⟩ := Me.undo_pos hz
    obtain ⟨va, vc, hs1, hs2, ks⟩ := h'.out.sinceV hP hz
    have hch := Lib.hid (show S.changed m = (List.range S.cs.length).filter fun i => decide (i ∈ (S.lg.drop (m.toNat - S.base)).map Prod.fst) from by unfold Me.changed Me.chg; rw [if_pos hz])
    rw [hz] at kc ⊢
    have hok := Lib.hid (show ∀ (j : Nat) (e : Nat × Int), (S.lg.drop (m.toNat - S.base))[j]? = some e → e.1 < S.cs.length from fun j e he => by rw [List.getElem?_drop] at he; exact h'.out.ok _ e he)
    have hEl : (S.lg.drop (m.toNat - S.base)).length ≤ 10000 := by rw [List.length_drop]; unfold Me.pos at hP; omega
    have hs1' := Lib.hid hs1
    have ks' := Lib.hid ks
    clear hs1 hs2 ks hz h1 h3 h4 h5 hP h'
    generalize S.lg.drop (m.toNat - S.base) = E at *
    have kcl := Lib.hid (fun W (hb : Below w.heap.size w W) => cloneE_any _ E.length (ents E) W (hs1'.out.carry hb) (ents_one E) (by omega))
    generalize hn : E.length = n at *
    have hn' := Lib.hid hn
    clear hn
    generalize S.cs.length = N at *
    generalize S.changed m = R at *
    go_enter Try.func35, Try.ntmps35
    go_wp2_with (first
      | (go_at_call 43; with_reducible refine kc.out.mono ?_; rintro e w1 ⟨rfl, hb1⟩; have hb1' := Lib.hid hb1; clear hb1)
      | (go_at_call 45; with_reducible refine (ks'.out _ hb1'.out).mono ?_; rintro e w2 ⟨rfl, hb2⟩; have hb2' := Lib.hid (below_step hb1'.out hb2); clear hb2)
      | (go_at_call 44; with_reducible refine (kcl.out _ hb2'.out).mono ?_; rintro e w3 ⟨v', rfl, hr, hb3⟩; obtain ⟨a', n', c', rfl⟩ := own_shape hr; obtain ⟨a9, c9, e9, _⟩ := (SRow.owned hr).shape (by decide); simp only [Value.slice.injEq] at e9; obtain ⟨rfl, rfl, rfl⟩ := e9; have hr' := Lib.hid (own_base hr hb2'.out.size); have hb3' := Lib.hid (below_step hb2'.out hb3); clear hr hb3))
    go_loopw [8, 23] (fun _ i wr => ∃ t : Nat, t ≤ n' ∧ i = .int .i64 (t : Nat) ∧ wr.ownsRow w.heap.size 69 2 (.slice a' n' c') n' (ents (zed E t)) ∧ Below w.heap.size w wr) (fun _ i _ => n' - (intOf i).toNat)
    case atStart => exact ⟨0, Nat.zero_le _, rfl, by rw [zed_zero]; exact hr'.out, hb3'.out⟩
    case round =>
      obtain ⟨t, ht, rfl, hown, hB⟩ := hrel
      have hown' := Lib.hid hown
      have hB' := Lib.hid hB
      clear hown hB
      by_cases hlt : t < n'
      · obtain ⟨g, cap, hv, hg1, hg2⟩ := hown'.out.form (by omega)
        simp only [Value.slice.injEq, true_and] at hv
        obtain ⟨rfl, rfl⟩ := hv
        obtain ⟨p, hp⟩ : ∃ p, E[t]? = some p := ⟨_, List.getElem?_eq_getElem (by rw [hn'.out]; exact hlt)⟩
        have hz := (zed_at (by rw [hn'.out]; exact hlt)).trans hp
        have c1 := hown'.out.cellAt (t * 2 + 1) (by omega)
        rw [(ents_at hz).2] at c1
        have f1 := hown'.out.frozenAt (t * 2 + 1)
        obtain ⟨k1, k2⟩ := hown'.out.stored (t * 2 + 1) (.int .i64 0)
        rw [ents_set hz, ← zed_succ hp] at k1
        have k1' := Lib.hid k1
        have k2' := Lib.hid (hB'.out.setCell (p := ⟨g, t * 2 + 1, none⟩) hg1 (.int .i64 0))
        clear k1 k2 hz hp
        go_wp2_with fail
        refine ⟨⟨t + 1, by omega, by go_num, k1'.out, k2'.out⟩, ?_⟩
        simp [intOf]; omega
      · obtain rfl : t = n' := by omega
        have hln := Lib.hid (show (zed E t).length = t from by rw [zed_length, hn'.out])
        have ksort := Lib.hid (sortE_any (base := w.heap.size) (.slice a' t c') (zed E t) wr (by rw [hln.out]; exact hown'.out) (by rw [hln.out]; omega))
        have hze := Lib.hid (show zed E t = E.map noVal from by have h1 := zed_all E; rw [hn'.out] at h1; exact h1)
        go_wp2_with (first
          | (go_at_call 46; with_reducible refine ksort.out.mono ?_; rintro e w4 ⟨rfl, L, hL1, hL2, hL3, hL4⟩; have hS := Lib.hid (sorted_of (by rw [← hze.out]; exact hL1) hL2); have hLn := Lib.hid (show L.length = t from by rw [hS.out.len, hn'.out]); rw [hLn.out] at hL3; have hL3' := Lib.hid hL3; have hB4 := Lib.hid ((hB'.out.trans hL4)); clear hL1 hL2 hL3 hL4))
        clear ksort
        obtain ⟨K, hK⟩ : ∃ K, K = keyAt L := ⟨_, rfl⟩
        obtain ⟨i0, hi0, hz0, hz1, hz2⟩ := info_parts info_int
        have hi0' := Lib.hid hi0; clear hi0
        have hz0' := Lib.hid hz0; clear hz0
        have hz1' := Lib.hid hz1; clear hz1
        have hz2' := Lib.hid hz2; clear hz2
        have hK' := Lib.hid hK
        clear hK
        go_loopw [9, 10, 35] (fun cl _ i wq => ∃ s : Nat, s ≤ t ∧ i = .int .i64 (s : Nat) ∧ wq.ownsRow w4.heap.size 3 1 cl (dd K s).length (ints (natI (dd K s))) ∧ Below w4.heap.size w4 wq) (fun _ _ i _ => t - (intOf i).toNat)
        case atStart => exact ⟨0, Nat.zero_le _, rfl, World.ownsRow_nil _ _ _ _, Below.refl _ _⟩
        case round =>
          obtain ⟨s, hs, rfl, hown, hB⟩ := hrel
          obtain ⟨W0, hW0⟩ : ∃ V, V = wr := ⟨wr, rfl⟩
          have hown2 := Lib.hid hown
          have hB2 := Lib.hid hB
          clear hown hB
          by_cases hst : s < t
          · obtain ⟨g, cap, hv, hg1, hg2⟩ := hL3'.out.form (by omega)
            simp only [Value.slice.injEq, true_and] at hv
            obtain ⟨rfl, rfl⟩ := hv
            have hat := Lib.hid (show ∀ j, j < t → w4.cell? ⟨g, j * 2, none⟩ = some (.int .i64 ((K j : Nat) : Int)) ∧ w4.cell? ⟨g, j * 2 + 1, none⟩ = some (.int .i64 0) from fun j hj => by
              obtain ⟨p, hp⟩ : ∃ p, L[j]? = some p := ⟨_, List.getElem?_eq_getElem (show j < L.length by rw [hLn.out]; exact hj)⟩
              have hn := hS.out.none j _ hp
              have e1 := hL3'.out.cellAt (j * 2) (by omega)
              have e2 := hL3'.out.cellAt (j * 2 + 1) (by omega)
              rw [(ents_at hp).1, hn] at e1
              rw [(ents_at hp).2, hn] at e2
              rw [hK'.out]
              exact ⟨e1, e2⟩)
            have c0 := carry hB2.out (hat.out s hst).1
            have c1 := carry hB2.out (hat.out s hst).2
            by_cases e0 : s = 0
            · have b0 : (((s : Nat) : Int) == 0) = true := by simp [e0]
              have hdd := Lib.hid (dd_yes (K := K) (i := s) (.inl e0))
              have e0' := Lib.hid e0
              clear e0
              have hdl := dd_len K s
              go_upto_region 16 with (first | go_quiet (fail))
              (generalize hV : World.drewN wr _ = V)
              have hBV := Lib.hid (show Below w4.heap.size w4 V from by rw [← hV]; exact below_step hB2.out (below_drewN _ _))
              have hoV := Lib.hid (show V.ownsRow w4.heap.size 3 1 u9 (dd K s).length (ints (natI (dd K s))) from by rw [← hV]; exact own_carry hown2.out (below_drewN _ _))
              clear hV c0 c1
              have c0 := carry hBV.out (hat.out s hst).1
              have hVs := hBV.out.size
              have hlo := Lib.hid (hoV.out.lt)
              go_wp2_with (first
                | (at_builtin; refine wpList_append_own _ rfl _ _ 22 rfl w4.heap.size 3 i0 _ 1 8 Try.underlying22 hi0'.out hz0'.out hz1'.out hz2'.out rfl (by decide) _ _ _ rfl (World.ownsRow.alloc hoV.out _) ⟨V.heap.size, 0, none⟩ 1 1 [.int .i64 ((K s : Nat) : Int)] rfl rfl (cell_one_new _ _ _) (ints_oneCell .i64 [((K s : Nat) : Int)]) (by unfold maxLen; omega) (by omega) (by simp; omega) ?_; intro v5 w5 hown5 hgrow5 _; have hown5' := Lib.hid hown5; have hB5 := Lib.hid ((hBV.out.alloc hVs _).grown hgrow5 (by simp; omega) (fun j hj => (hlo.out j hj).1)); clear hown5 hgrow5))
              refine ⟨⟨s + 1, by omega, by go_num, ?_, hB5.out⟩, ?_⟩
              · rw [hdd.out, natI_snoc, List.length_append]; exact hown5'.out
              · simp [intOf]; omega
            · have b0 : (((s : Nat) : Int) == 0) = false := by simpa using e0
              obtain ⟨q, hq⟩ : ∃ q, s = q + 1 := ⟨s - 1, by omega⟩
              have hsub : ((s : Nat) : Int) - 1 = (q : Int) := by omega
              have hqt : q < t := by omega
              have c2 := carry hB2.out (hat.out q hqt).1
              have c3 := carry hB2.out (hat.out q hqt).2
              have hqs := Lib.hid hq
              have i1 : (0 : Int) ≤ (q : Int) := by omega
              have i2 : (q : Int) < (t : Int) := by omega
              by_cases e1 : K s = K q
              · have hdd := Lib.hid (dd_no (K := K) (i := s) (by rw [hq, Nat.add_sub_cancel, ← hq]; exact fun h => h.elim e0 (fun h => h e1)))
                rw [← e1] at c2
                clear hq e0 e1
                go_wp2_with (first | go_quiet (fail))
                refine ⟨⟨s + 1, by omega, by go_num, by rw [hdd.out]; exact own_carry hown2.out (below_drewN _ _), below_step hB2.out (below_drewN _ _)⟩, ?_⟩
                simp [intOf]; omega
              · have hdd := Lib.hid (dd_yes (K := K) (i := s) (by rw [hq, Nat.add_sub_cancel, ← hq]; exact .inr e1))
                have f1 : (((K s : Nat) : Int) == ((K q : Nat) : Int)) = false := by simp only [beq_eq_false_iff_ne, ne_eq]; omega
                have f2 : decide (((K s : Nat) : Int) = ((K q : Nat) : Int)) = false := decide_eq_false (by omega)
                have f3 : ((K s : Nat) : Int) ≠ ((K q : Nat) : Int) := by omega
                clear hq e0 e1
                have hdl := dd_len K s
                go_upto_region 16 with (first | go_quiet (fail))
                (generalize hV : World.drewN wr _ = V)
                have hBV := Lib.hid (show Below w4.heap.size w4 V from by rw [← hV]; exact below_step hB2.out (below_drewN _ _))
                have hoV := Lib.hid (show V.ownsRow w4.heap.size 3 1 u9 (dd K s).length (ints (natI (dd K s))) from by rw [← hV]; exact own_carry hown2.out (below_drewN _ _))
                clear hV c0 c1
                have c0 := carry hBV.out (hat.out s hst).1
                have hVs := hBV.out.size
                have hlo := Lib.hid (hoV.out.lt)
                go_wp2_with (first
                  | (at_builtin; refine wpList_append_own _ rfl _ _ 22 rfl w4.heap.size 3 i0 _ 1 8 Try.underlying22 hi0'.out hz0'.out hz1'.out hz2'.out rfl (by decide) _ _ _ rfl (World.ownsRow.alloc hoV.out _) ⟨V.heap.size, 0, none⟩ 1 1 [.int .i64 ((K s : Nat) : Int)] rfl rfl (cell_one_new _ _ _) (ints_oneCell .i64 [((K s : Nat) : Int)]) (by unfold maxLen; omega) (by omega) (by simp; omega) ?_; intro v5 w5 hown5 hgrow5 _; have hown5' := Lib.hid hown5; have hB5 := Lib.hid ((hBV.out.alloc hVs _).grown hgrow5 (by simp; omega) (fun j hj => (hlo.out j hj).1)); clear hown5 hgrow5))
                refine ⟨⟨s + 1, by omega, by go_num, ?_, hB5.out⟩, ?_⟩
                · rw [hdd.out, natI_snoc, List.length_append]; exact hown5'.out
                · simp [intOf]; omega
          · obtain rfl : s = t := by omega
            have hR := Lib.hid (show R = dd K s from by
              rw [hch.out, hK'.out]
              refine (dd_all (fun i j hij hj => hS.out.mono i j hij (by rw [hLn.out]; exact hj)) (fun j hj => ?_) (fun x => ?_)).symm
              · obtain ⟨i, hi⟩ := (hS.out.mem (keyAt L j)).2 ⟨j, by rw [hLn.out]; exact hj, rfl⟩ |> List.mem_map.1
                obtain ⟨q, hq, he⟩ := List.getElem_of_mem hi.1
                have h9 := hok.out q i (by rw [← he]; exact List.getElem?_eq_getElem hq)
                rw [← hi.2]; exact h9
              · have h9 := hS.out.mem x
                rw [hLn.out] at h9
                exact h9)
            go_wp2_with fail
            go_ret2
            exact ⟨_, rfl, by rw [hR.out]; exact own_base hown2.out hB4.out.size, hB4.out.trans (hB2.out.mono hB4.out.size)⟩
  · have hy := Lib.hid (show S.changed m = [] from by unfold Me.changed; rw [if_neg hz])
    have hne : (S.err m == 0) = false := by simpa using hz
    generalize S.err m = er at *
    clear hz
    rw [hy.out]
    go_enter Try.func35, Try.ntmps35
    go_wp2_with (first
      | (go_at_call 43; with_reducible refine kc.out.mono ?_; rintro e w1 ⟨rfl, hb1⟩; have hb1' := Lib.hid hb1; clear hb1))
    go_ret2
    exact ⟨_, rfl, World.ownsRow_nil _ _ _ _, hb1'.out⟩
end Go.Proofs.Ytlpacihkmfgegaa
