/-
  package cellmem, P9.3, P9.6: for every sequence of up to 12 calls of Set on six cells, made of any numbers, with a mark before each of them, undoing to the marks from the newest to the oldest restores each recorded state in turn, and the section's example holds; whatever the arguments are.
-/
import Derived.Test.YtlpacihkmfgegaaRows
import Derived.WalkKit
import Derived.ProofKit
import Derived.OpenShut
import Derived.Test.YtlpacihkmfgegaaOpen
import Derived.Test.YtlpacihkmfgegaaOpenC
import Derived.Test.YtlpacihkmfgegaaCmN
namespace Go.Proofs.Ytlpacihkmfgegaa.cellmemNested
open Go.ChangeShapes Go.WideShapes Go.ChangeAt Go.RowKit
set_option linter.unusedVariables false
set_option linter.unusedSimpArgs false

open Cm
theorem slice_one (a : Option Addr) (n c : Nat) : ∀ u ∈ [Value.slice a n c], u.oneCell' = true := fun u hu => by
  obtain rfl := List.mem_singleton.1 hu
  rfl
theorem own : ownKnob Try.prog.godebug = none := by kernel_rfl
theorem laid : laidOutB Try.prog = true := by kernel_rfl

set_option maxRecDepth 100000 in
set_option maxHeartbeats 8000000 in
theorem walk (w : World) (s0 : Value) (Z0 : Nat → Int) (l0 : Nat) (H0 : IntsAt w s0 1 Z0 l0) (s1 : Value) (Z1 : Nat → Int) (l1 : Nat) (H1 : IntsAt w s1 2 Z1 l1) :
    Calls Try.prog 7 #[s0, s1] w fun e w' => e = .returned (.bool true) ∧ Below w.heap.size w w' := by
  have k1 := Lib.hid (six_any s0 Z0 l0 w H0)
  have H1' := Lib.hid H1
  obtain ⟨a2, cap2, rfl, hcap2, hmx2⟩ := H1.form
  unfold maxLen at hmx2
  have h6 := six_len Z0 l0
  clear H0 H1
  generalize six Z0 l0 = L at *
  have kl := Lib.hid (fun W => lives9_any W)
  have hn6 : (Me.new L).cs.length = 6 := h6
  have hn0 : (Me.new L).pos = 0 := rfl
  obtain ⟨S, hSe⟩ : ∃ S, S = Me.new L := ⟨_, rfl⟩
  rw [← hSe] at hn6 hn0
  have hSe' := Lib.hid hSe
  have hl6 := Lib.hid hn6
  have hp0 := Lib.hid hn0
  have h6' := Lib.hid h6
  clear hSe hn6 hn0 h6
  obtain ⟨i0, hi0, hz0, hz1, hz2⟩ := info_parts info_int
  have hi0' := Lib.hid hi0; clear hi0
  have hz0' := Lib.hid hz0; clear hz0
  have hz1' := Lib.hid hz1; clear hz1
  have hz2' := Lib.hid hz2; clear hz2
  obtain ⟨j0, ji0, jz0, jz1, jz2⟩ := info_parts info_row
  have ji0' := Lib.hid ji0; clear ji0
  have jz0' := Lib.hid jz0; clear jz0
  have jz1' := Lib.hid jz1; clear jz1
  have jz2' := Lib.hid jz2; clear jz2
  go_enter Try.func7, Try.ntmps7
  go_wp2_with (first
    | (go_at_call 13; with_reducible refine k1.out.mono ?_; rintro e y1 ⟨rfl, hr, hb⟩; have hr1 := Lib.hid (own_il hr); have hb1 := Lib.hid hb; clear hr hb)
    | (go_at_call 12; with_reducible refine (cmNew_any _ L y1 hr1.out (by rw [h6'.out]; decide)).mono ?_; rintro e y2 ⟨b, O, rfl, hM, hO, hb⟩; rw [← hSe'.out] at hM; have hM2 := Lib.hid hM; have hF2 := Lib.hid (Fresh.mk (below_step hb1.out hb) (fun i hi => Nat.le_trans hb1.out.size (hO i hi))); clear hM hO hb))
  clear hr1 hb1 k1
  go_loopw [6, 7, 8] (fun sv mv i wr => ∃ (t : Nat) (O' : Nat → Prop) (xs : List Value), t ≤ 12 ∧ t ≤ l1 ∧ i = .int .i64 (t : Nat) ∧ Mo wr b O' (S.sets (moreN Z1 t)) ∧ Nst w O' wr sv mv xs (fun i => (S.sets (moreN Z1 i)).cs) (marksL S Z1 t) t) (fun _ _ i _ => 12 - (intOf i).toNat)
  case atStart => exact ⟨0, O, [], Nat.zero_le _, Nat.zero_le _, rfl, hM2.out, ⟨hF2.out, World.ownsRow_nil _ _ _ _, fun i x h => by simp at h, fun i x h => by simp at h, fun g hg => by simp [Value.ownBlock] at hg, World.ownsRow_nil _ _ _ _, fun g hg => by simp [Value.ownBlock] at hg⟩⟩
  case round =>
    obtain ⟨t, O', xs, ht, htl, rfl, hM, hN⟩ := hrel
    have hM' := Lib.hid hM
    have hN' := Lib.hid hN
    clear hM hN
    have okt := Lib.hid (sets_ok Z1 t hl6.out (by rw [hp0.out]; omega))
    by_cases h1 : t < l1
    · by_cases h2 : t < 12
      · have d0 : decide (((t : Nat) : Int) < (l1 : Int)) = true := decide_eq_true (by omega)
        obtain ⟨g, off, cap', e, _, hc0, hc1, hz1, hz2⟩ := pair_at H1'.out h1
        simp only [Value.slice.injEq, true_and] at e
        obtain ⟨rfl, rfl⟩ := e
        have hcc := Lib.hid (And.intro hc0 hc1)
        clear hc0 hc1
        have ka := Lib.hid (fun W => around_any (Z1 (t * 2)) 6 W hz1 hz2 (by omega))
        have hst := Lib.hid (sets_next S Z1 t)
        clear hz1 hz2
        have hx1 := hN'.out.fresh.below.size
        obtain ⟨cs, hcs⟩ : ∃ cs : Nat → List Int, cs = fun i => (S.sets (moreN Z1 i)).cs := ⟨_, rfl⟩
        rw [← hcs] at hN'
        have hcst := Lib.hid (show (S.sets (moreN Z1 t)).cs = cs t from by rw [hcs])
        have hcs' := Lib.hid hcs
        clear hcs
        obtain ⟨ml, hml⟩ : ∃ ml, ml = marksL S Z1 t := ⟨_, rfl⟩
        rw [← hml] at hN'
        have hmlen := Lib.hid (show ml.length = t from by rw [hml]; exact marksL_len _ _ _)
        have hml' := Lib.hid hml
        clear hml
        generalize Z1 (t * 2) = zc at *
        generalize Z1 (t * 2 + 1) = zv at *
        generalize arnd zc 6 = za at *
        go_upto_region 10 with (first
          | (go_at_call 22; with_reducible refine (hM'.out.all okt.out).mono ?_; rintro e y3 ⟨vc, rfl, hr, hb⟩; obtain ⟨ca, cn, cc, rfl⟩ := own_shape hr; have hb3 := Lib.hid hb; have hI3 := Lib.hid (own_il hr); have hvb := Lib.hid (hr.lt); clear hr hb)
          | (at_builtin; refine wpList_append_own_at _ rfl _ _ 26 rfl w.heap.size 22 j0 _ 1 24 Try.underlying26 ji0'.out jz0'.out jz1'.out jz2'.out rfl (by decide) _ _ _ rfl (World.ownsRow.alloc (own_carry hN'.out.row hb3.out) _) ⟨y3.heap.size, 0, none⟩ 1 1 [.slice ca cn cc] rfl rfl (cell_one_new _ _ _) (slice_one _ _ _) (by unfold maxLen; omega) (by omega) (by have := hb3.out.size; simp; omega) ?_; intro v4 y4 hrow4 hgrow _ hloc; obtain ⟨hN4, hm4⟩ := hN'.out.pushS hM'.out.lt hb3.out (by rw [← hcst.out]; exact hI3.out) hvb.out hrow4 hgrow hloc; have hM4 := Lib.hid (hM'.out.beside hm4 (fun i hi e => (hN'.out.so i e).1 hi)); have hN4' := Lib.hid hN4; clear hN4 hm4 hrow4 hgrow hloc))
        go_upto_region 11 with (first
          | (go_at_call 24; with_reducible refine (hM4.out.mark okt.out).mono ?_; rintro e y5 ⟨rfl, hb⟩; have hb5 := Lib.hid hb; clear hb)
          | (at_builtin; refine wpList_append_own_at _ rfl _ _ 22 rfl w.heap.size 3 i0 _ 1 8 Try.underlying22 hi0'.out hz0'.out hz1'.out hz2'.out rfl (by decide) _ _ _ rfl (World.ownsRow.alloc (own_carry hN4'.out.marks hb5.out) _) ⟨y5.heap.size, 0, none⟩ 1 1 [.int .i64 (((S.sets (moreN Z1 t)).pos : Nat) : Int)] rfl rfl (cell_one_new _ _ _) (ints_oneCell .i64 [(((S.sets (moreN Z1 t)).pos : Nat) : Int)]) (by rw [hmlen.out]; unfold maxLen; omega) (by rw [hmlen.out]; omega) (by have h1 := hb5.out.size; have h2 := hN4'.out.fresh.below.size; simp; omega) ?_; intro v6 y6 hrow6 hgrow _ hloc; obtain ⟨hN6, hm6⟩ := hN4'.out.pushM hM4.out.lt hb5.out hrow6 hgrow hloc; have hM6 := Lib.hid (hM4.out.beside hm6 (fun i hi e => hN4'.out.mo i e hi)); have hN6' := Lib.hid hN6; clear hN6 hm6 hrow6 hgrow hloc))
        have c0 := carry hN6'.out.fresh.below hcc.out.1
        have c1 := carry hN6'.out.fresh.below hcc.out.2
        refine wp_region_tail 12 (by kernel_rfl) (by kernel_rfl) ?_
        intro W hK
        have g_c0 := fun x => carry ((hK.below x)) c0
        have g_c1 := fun x => carry ((hK.below x)) c1
        simp only [List.take_succ_cons, List.take_zero, List.drop_succ_cons, List.drop_zero]
        repeat (go_big_quiet_step ((go_at_call 33; with_reducible exact met_same (ka.out _))))
        refine wpQuiet_nil ?_
        intro wq hw'
        have hbq := kept_in hK hw'
        clear g_c0 g_c1
        clear hw' hK W
        replace c0 := carry (hbq) c0
        replace c1 := carry (hbq) c1
        go_wp2_with (first | (go_at_call 31; with_reducible refine ((hM6.out.carry hbq).set okt.out za zv).mono ?_; rintro e y7 ⟨rfl, O7, hM, hm⟩; have hM7 := Lib.hid hM; have hN7 := Lib.hid ((hN6'.out.carry hbq).moves hm); clear hM hm))
        refine ⟨⟨t + 1, O7, _, by omega, by omega, by go_num, by rw [hst.out]; exact hM7.out, by rw [marksL_succ, ← hml'.out, ← hcs'.out]; exact hN7.out⟩, ?_⟩
        simp [intOf]; omega
      · have d0 : decide (((t : Nat) : Int) < (l1 : Int)) = true := decide_eq_true (by omega)
        obtain ⟨sa, sn, sc, rfl⟩ := own_shape hN'.out.row
        obtain ⟨a9, c9, e9, sh1, sh2, _, sh3⟩ := (SRow.owned hN'.out.row).shape (by decide)
        simp only [Value.slice.injEq] at e9
        obtain ⟨rfl, rfl, rfl⟩ := e9
        obtain ⟨ma, mn, mc, rfl⟩ := own_shape hN'.out.marks
        obtain ⟨a8, c8, e8, mh1, mh2, _, mh3⟩ := (SRow.owned hN'.out.marks).shape (by decide)
        simp only [Value.slice.injEq, marksL_len] at e8
        obtain ⟨rfl, rfl, rfl⟩ := e8
        rw [marksL_len] at mh1
        have hxl : xs.length = mn := by have := hN'.out.row.1; omega
        clear sh3 mh3
        have hm12 : mn ≤ 12 := by omega
        unfold maxLen at sh2 mh2
        go_wp2_with fail
        clear d0
        go_loopw [9] (fun i wq => ∃ (s : Nat) (O2 : Nat → Prop), s ≤ mn ∧ i = .int .i64 ((s : Int) - 1) ∧ Mo wq b O2 (S.sets (moreN Z1 s)) ∧ Nst w O2 wq (.slice sa mn sc) (.slice ma mn mc) xs (fun i => (S.sets (moreN Z1 i)).cs) (marksL S Z1 mn) mn) (fun i _ => (intOf i + 1).toNat)
        case atStart => exact ⟨mn, O', Nat.le_refl _, by go_num, hM'.out, hN'.out⟩
        case round =>
          obtain ⟨s, O2, hs, hi, hM, hN⟩ := hrel
          obtain ⟨W0, hW0⟩ : ∃ V, V = wr := ⟨wr, rfl⟩
          subst hW0
          have hM0 := Lib.hid hM
          have hN0 := Lib.hid hN
          clear hM hN
          by_cases hlt : 0 < s
          · obtain ⟨q, rfl⟩ : ∃ q, s = q + 1 := ⟨s - 1, by omega⟩
            rw [show (((q + 1 : Nat) : Int) - 1) = (q : Int) from by omega] at hi
            subst hi
            have hqm : q < mn := by omega
            have okq1 := Lib.hid (sets_ok Z1 (q + 1) hl6.out (by rw [hp0.out]; omega))
            have okq := Lib.hid (sets_ok Z1 q hl6.out (by rw [hp0.out]; omega))
            have hback := Lib.hid (sets_back S Z1 q)
            obtain ⟨xq, hxq⟩ : ∃ xq, xs[q]? = some xq := ⟨_, List.getElem?_eq_getElem (by rw [hxl]; exact hqm)⟩
            have hel := hN0.out.el q xq hxq
            have hen := Lib.hid (fun g hg => (hN0.out.ne q xq hxq g hg).1)
            obtain ⟨gs, cps, es, hgs1, hgs2⟩ := hN0.out.row.form (by omega)
            simp only [Value.slice.injEq, true_and] at es
            obtain ⟨rfl, rfl⟩ := es
            obtain ⟨gm, cpm, em, hgm1, hgm2⟩ := hN0.out.marks.form (by rw [marksL_len]; omega)
            simp only [Value.slice.injEq, true_and, marksL_len] at em
            obtain ⟨rfl, rfl⟩ := em
            have c0 : W0.cell? ⟨gs, q, none⟩ = some xq := by have h9 := hN0.out.row.cellAt q (by omega); rw [hxq] at h9; exact h9
            have hmr := hN0.out.marks
            rw [marksL_len] at hmr
            have c1 : W0.cell? ⟨gm, q, none⟩ = some (.int .i64 (((S.sets (moreN Z1 q)).pos : Nat) : Int)) := by have h9 := hmr.cellAt q (by omega); rw [ints_at (marksL_at S Z1 hqm)] at h9; exact h9
            have nOs := (hN0.out.so gs rfl).1
            have nOm := hN0.out.mo gm rfl
            obtain ⟨xa, xc, hxe⟩ : ∃ xa xc, xq = .slice xa ((S.sets (moreN Z1 q)).cs).length xc := by
              obtain ⟨a, cap, h, _⟩ := hel
              rw [ints_length] at h
              exact ⟨a, cap, h⟩
            have hX := Lib.hid hel
            have mk := Lib.hid (fun (w' : World) (Q : Nat → Prop) (h : Moves O2 W0 Q w') => (⟨(World.cell?_of_block (h.block gs hgs2 nOs)).trans c0, (World.cell?_of_block (h.block gm hgm2 nOm)).trans c1⟩ : w'.cell? ⟨gs, q, none⟩ = some xq ∧ w'.cell? ⟨gm, q, none⟩ = some (.int .i64 (((S.sets (moreN Z1 q)).pos : Nat) : Int))))
            clear hel hmr hxq nOs nOm
            subst hxe
            generalize hln : (S.sets (moreN Z1 q)).cs.length = ln at *
            have mD : Moves O2 W0 O2 W0.drew := Moves.below O2 ((Below.refl _ W0).drew)
            have kD := Lib.hid (hM0.out.carry ((Below.refl _ W0).drew))
            have i1 : (0 : Int) ≤ (q : Int) := by omega
            have i2 : (q : Int) < (mn : Int) := by omega
            go_upto_region 15 with fail
            go_region_held3 (fun w' => w'.cell? ⟨gs, q, none⟩ = some (.slice xa ln xc) ∧ w'.cell? ⟨gm, q, none⟩ = some (.int .i64 (((S.sets (moreN Z1 q)).pos : Nat) : Int)))
              (first | (with_reducible exact mk.out _ _ mD) | (with_reducible exact mk.out _ _ m5) | (with_reducible exact mk.out _ _ m6) | (with_reducible exact mk.out _ _ m7) | (with_reducible exact mk.out _ _ (m5.step ((Below.refl _ _).drew))) | (with_reducible exact mk.out _ _ (m6.step ((Below.refl _ _).drew))))
              (first
                | (go_at_call 21; with_reducible refine (sameI_any _ _ _ _ _ (by first | exact kI6.out | exact kI6.out.carry ((Below.refl _ _).drew)) (by first | exact hX.out.moves m6 hen.out | exact hX.out.moves (m6.step ((Below.refl _ _).drew)) hen.out)).mono ?_; rintro e y7 ⟨rfl, hb⟩; rw [same_self]; have m7 : Moves O2 W0 O5 y7 := m6.step (by first | exact hb | exact below_step ((Below.refl _ _).drew) hb); have kM7 := Lib.hid (kM6.out.carry (by first | exact hb | exact below_step ((Below.refl _ _).drew) hb)); clear hb; dsimp only)
                | (go_at_call 22; with_reducible refine (Cm.Mo.all (by first | exact kM5.out | exact kM5.out.carry ((Below.refl _ _).drew)) okq.out).mono ?_; rintro e y6 ⟨vd, rfl, hr, hb⟩; have kI6 := Lib.hid (own_il hr); have m6 : Moves O2 W0 O5 y6 := m5.step (by first | exact hb | exact below_step ((Below.refl _ _).drew) hb); have kM6 := Lib.hid (kM5.out.carry (by first | exact hb | exact below_step ((Below.refl _ _).drew) hb)); clear hr hb; dsimp only)
                | (go_at_call 34; with_reducible refine (Cm.Mo.undo (by first | exact kD.out | exact hM0.out) okq1.out (((S.sets (moreN Z1 q)).pos : Nat) : Int)).mono ?_; rintro e y5 ⟨rfl, O5, hM, hm⟩; rw [hback.out.1]; rw [hback.out.2] at hM; have m5 : Moves O2 W0 O5 y5 := (by first | exact mD.trans hm | exact hm); have kM5 := Lib.hid hM; clear hM hm; dsimp only))
            rename_i hHeld
            have hM7 := Lib.hid kM7.out
            have hN7 := Lib.hid (hN0.out.moves m7)
            clear hHeld mk mD m5 m6 m7 c0 c1 kM5 kM6 kM7 kI6 kD hM0 hN0 hX hen
            go_wp2_with fail
            refine ⟨⟨q, O5, by omega, by go_num, hM7.out, hN7.out⟩, ?_⟩
            first | (simp [intOf]; done) | (simp [intOf]; omega)
          · obtain rfl : s = 0 := by omega
            subst hi
            have n1 : ¬ ((0 : Int) ≤ ((0 : Nat) : Int) - 1) := by omega
            have hz := Lib.hid (show (S.sets (moreN Z1 0)).lg.length = 0 from by rw [hSe'.out]; rfl)
            go_wp2_with (first
              | (go_at_call 26; with_reducible refine (hM0.out.logged).mono ?_; rintro e y5 ⟨rfl, rfl⟩; rw [hz.out])
              | (go_at_call 28; with_reducible refine (kl.out _).mono ?_; rintro e y6 ⟨rfl, hb⟩; have hB6 := Lib.hid (below_step hN0.out.fresh.below hb); clear hb))
            go_ret
            exact ⟨rfl, hB6.out⟩
    · have d0 : decide (((t : Nat) : Int) < (l1 : Int)) = false := decide_eq_false (by omega)
      obtain ⟨sa, sn, sc, rfl⟩ := own_shape hN'.out.row
      obtain ⟨a9, c9, e9, sh1, sh2, _, sh3⟩ := (SRow.owned hN'.out.row).shape (by decide)
      simp only [Value.slice.injEq] at e9
      obtain ⟨rfl, rfl, rfl⟩ := e9
      obtain ⟨ma, mn, mc, rfl⟩ := own_shape hN'.out.marks
      obtain ⟨a8, c8, e8, mh1, mh2, _, mh3⟩ := (SRow.owned hN'.out.marks).shape (by decide)
      simp only [Value.slice.injEq, marksL_len] at e8
      obtain ⟨rfl, rfl, rfl⟩ := e8
      rw [marksL_len] at mh1
      have hxl : xs.length = mn := by have := hN'.out.row.1; omega
      clear sh3 mh3
      have hm12 : mn ≤ 12 := by omega
      unfold maxLen at sh2 mh2
      go_wp2_with fail
      clear d0
      go_loopw [9] (fun i wq => ∃ (s : Nat) (O2 : Nat → Prop), s ≤ mn ∧ i = .int .i64 ((s : Int) - 1) ∧ Mo wq b O2 (S.sets (moreN Z1 s)) ∧ Nst w O2 wq (.slice sa mn sc) (.slice ma mn mc) xs (fun i => (S.sets (moreN Z1 i)).cs) (marksL S Z1 mn) mn) (fun i _ => (intOf i + 1).toNat)
      case atStart => exact ⟨mn, O', Nat.le_refl _, by go_num, hM'.out, hN'.out⟩
      case round =>
        obtain ⟨s, O2, hs, hi, hM, hN⟩ := hrel
        obtain ⟨W0, hW0⟩ : ∃ V, V = wr := ⟨wr, rfl⟩
        subst hW0
        have hM0 := Lib.hid hM
        have hN0 := Lib.hid hN
        clear hM hN
        by_cases hlt : 0 < s
        · obtain ⟨q, rfl⟩ : ∃ q, s = q + 1 := ⟨s - 1, by omega⟩
          rw [show (((q + 1 : Nat) : Int) - 1) = (q : Int) from by omega] at hi
          subst hi
          have hqm : q < mn := by omega
          have okq1 := Lib.hid (sets_ok Z1 (q + 1) hl6.out (by rw [hp0.out]; omega))
          have okq := Lib.hid (sets_ok Z1 q hl6.out (by rw [hp0.out]; omega))
          have hback := Lib.hid (sets_back S Z1 q)
          obtain ⟨xq, hxq⟩ : ∃ xq, xs[q]? = some xq := ⟨_, List.getElem?_eq_getElem (by rw [hxl]; exact hqm)⟩
          have hel := hN0.out.el q xq hxq
          have hen := Lib.hid (fun g hg => (hN0.out.ne q xq hxq g hg).1)
          obtain ⟨gs, cps, es, hgs1, hgs2⟩ := hN0.out.row.form (by omega)
          simp only [Value.slice.injEq, true_and] at es
          obtain ⟨rfl, rfl⟩ := es
          obtain ⟨gm, cpm, em, hgm1, hgm2⟩ := hN0.out.marks.form (by rw [marksL_len]; omega)
          simp only [Value.slice.injEq, true_and, marksL_len] at em
          obtain ⟨rfl, rfl⟩ := em
          have c0 : W0.cell? ⟨gs, q, none⟩ = some xq := by have h9 := hN0.out.row.cellAt q (by omega); rw [hxq] at h9; exact h9
          have hmr := hN0.out.marks
          rw [marksL_len] at hmr
          have c1 : W0.cell? ⟨gm, q, none⟩ = some (.int .i64 (((S.sets (moreN Z1 q)).pos : Nat) : Int)) := by have h9 := hmr.cellAt q (by omega); rw [ints_at (marksL_at S Z1 hqm)] at h9; exact h9
          have nOs := (hN0.out.so gs rfl).1
          have nOm := hN0.out.mo gm rfl
          obtain ⟨xa, xc, hxe⟩ : ∃ xa xc, xq = .slice xa ((S.sets (moreN Z1 q)).cs).length xc := by
            obtain ⟨a, cap, h, _⟩ := hel
            rw [ints_length] at h
            exact ⟨a, cap, h⟩
          have hX := Lib.hid hel
          have mk := Lib.hid (fun (w' : World) (Q : Nat → Prop) (h : Moves O2 W0 Q w') => (⟨(World.cell?_of_block (h.block gs hgs2 nOs)).trans c0, (World.cell?_of_block (h.block gm hgm2 nOm)).trans c1⟩ : w'.cell? ⟨gs, q, none⟩ = some xq ∧ w'.cell? ⟨gm, q, none⟩ = some (.int .i64 (((S.sets (moreN Z1 q)).pos : Nat) : Int))))
          clear hel hmr hxq nOs nOm
          subst hxe
          generalize hln : (S.sets (moreN Z1 q)).cs.length = ln at *
          have mD : Moves O2 W0 O2 W0.drew := Moves.below O2 ((Below.refl _ W0).drew)
          have kD := Lib.hid (hM0.out.carry ((Below.refl _ W0).drew))
          have i1 : (0 : Int) ≤ (q : Int) := by omega
          have i2 : (q : Int) < (mn : Int) := by omega
          go_upto_region 15 with fail
          go_region_held3 (fun w' => w'.cell? ⟨gs, q, none⟩ = some (.slice xa ln xc) ∧ w'.cell? ⟨gm, q, none⟩ = some (.int .i64 (((S.sets (moreN Z1 q)).pos : Nat) : Int)))
            (first | (with_reducible exact mk.out _ _ mD) | (with_reducible exact mk.out _ _ m5) | (with_reducible exact mk.out _ _ m6) | (with_reducible exact mk.out _ _ m7) | (with_reducible exact mk.out _ _ (m5.step ((Below.refl _ _).drew))) | (with_reducible exact mk.out _ _ (m6.step ((Below.refl _ _).drew))))
            (first
              | (go_at_call 21; with_reducible refine (sameI_any _ _ _ _ _ (by first | exact kI6.out | exact kI6.out.carry ((Below.refl _ _).drew)) (by first | exact hX.out.moves m6 hen.out | exact hX.out.moves (m6.step ((Below.refl _ _).drew)) hen.out)).mono ?_; rintro e y7 ⟨rfl, hb⟩; rw [same_self]; have m7 : Moves O2 W0 O5 y7 := m6.step (by first | exact hb | exact below_step ((Below.refl _ _).drew) hb); have kM7 := Lib.hid (kM6.out.carry (by first | exact hb | exact below_step ((Below.refl _ _).drew) hb)); clear hb; dsimp only)
              | (go_at_call 22; with_reducible refine (Cm.Mo.all (by first | exact kM5.out | exact kM5.out.carry ((Below.refl _ _).drew)) okq.out).mono ?_; rintro e y6 ⟨vd, rfl, hr, hb⟩; have kI6 := Lib.hid (own_il hr); have m6 : Moves O2 W0 O5 y6 := m5.step (by first | exact hb | exact below_step ((Below.refl _ _).drew) hb); have kM6 := Lib.hid (kM5.out.carry (by first | exact hb | exact below_step ((Below.refl _ _).drew) hb)); clear hr hb; dsimp only)
              | (go_at_call 34; with_reducible refine (Cm.Mo.undo (by first | exact kD.out | exact hM0.out) okq1.out (((S.sets (moreN Z1 q)).pos : Nat) : Int)).mono ?_; rintro e y5 ⟨rfl, O5, hM, hm⟩; rw [hback.out.1]; rw [hback.out.2] at hM; have m5 : Moves O2 W0 O5 y5 := (by first | exact mD.trans hm | exact hm); have kM5 := Lib.hid hM; clear hM hm; dsimp only))
          rename_i hHeld
          have hM7 := Lib.hid kM7.out
          have hN7 := Lib.hid (hN0.out.moves m7)
          clear hHeld mk mD m5 m6 m7 c0 c1 kM5 kM6 kM7 kI6 kD hM0 hN0 hX hen
          go_wp2_with fail
          refine ⟨⟨q, O5, by omega, by go_num, hM7.out, hN7.out⟩, ?_⟩
          first | (simp [intOf]; done) | (simp [intOf]; omega)
        · obtain rfl : s = 0 := by omega
          subst hi
          have n1 : ¬ ((0 : Int) ≤ ((0 : Nat) : Int) - 1) := by omega
          have hz := Lib.hid (show (S.sets (moreN Z1 0)).lg.length = 0 from by rw [hSe'.out]; rfl)
          go_wp2_with (first
            | (go_at_call 26; with_reducible refine (hM0.out.logged).mono ?_; rintro e y5 ⟨rfl, rfl⟩; rw [hz.out])
            | (go_at_call 28; with_reducible refine (kl.out _).mono ?_; rintro e y6 ⟨rfl, hb⟩; have hB6 := Lib.hid (below_step hN0.out.fresh.below hb); clear hb))
          go_ret
          exact ⟨rfl, hB6.out⟩

set_option maxRecDepth 100000 in
theorem lifted (os : Os) (started : os.Started) (H : Type) (enc : TypeId × Value → H) :
    ReturnsInHanded {} Try.checked os 7 .any (Rows.cellmemNestedSpec.pre6 enc Try.prog Try.f7 Rows.cellmemNestedRow.domain false) (Rows.cellmemNestedSpec.post enc Try.prog Try.f7 false true false false) := by
  refine returnsInHanded_of_change (C := Try.checked) own started (by kernel_rfl) Try.func7
    (ChangeSpec.witness6 (enc := enc) (C := Try.checked) false ⟨#[], #[.slice none 0 0, .slice none 0 0], []⟩ 8 (by kernel_rfl) (by kernel_rfl) (by kernel_rfl) (by kernel_rfl)) ?_
  intro W base args ds gs before hval0 hW hcnd _
  have hval : ∀ (j : Nat) t v, Try.f7.params[j]? = some t → args[j]? = some v → Value.okWide Try.prog W .any base t v := hval0
  have hW' := hW
  obtain ⟨p, q, hA0, hV, rfl, hfz, hnd⟩ := hW
  have hA : DataW.TrodAll enc Try.prog W 0 (fun _ => true) true Try.f7.params.toList args.toList ds p := hA0
  rw [Try.params7] at hA hval
  have hAk := hA
  obtain ⟨v0, vs0, d0, ds0, p0, q0, hargs, rfl, hp0, h0, r0⟩ := trodAll_cons hA
  obtain ⟨v1, vs1, d1, ds1, p1, q1, rfl, rfl, hp1, h1, r1⟩ := trodAll_cons r0
  obtain ⟨rfl, rfl, -⟩ := trodAll_nil r1
  obtain rfl : args = #[v0, v1] := by cases args; simp_all
  obtain ⟨rfl, rfl⟩ := trodVars_none hV
  obtain ⟨x0, q0, c0, rfl⟩ := okWide_slice Try.underlying22 (hval 0 22 v0 rfl rfl)
  obtain ⟨fu0, fh0⟩ := h0
  obtain ⟨s0, Z0, l0, e0, H0⟩ := open_int_cells Try.underlying22 Try.underlying3 (by kernel_rfl) fh0
  simp only [Value.cells, List.cons.injEq, and_true] at e0
  obtain rfl := e0.symm
  obtain ⟨x1, q1, c1, rfl⟩ := okWide_slice Try.underlying51 (hval 1 51 v1 rfl rfl)
  obtain ⟨fu1, fh1⟩ := h1
  obtain ⟨s1, Z1, l1, e1, H1⟩ := open_slice_arrs Try.underlying51 Try.underlying54 Try.underlying3 (by decide) (by kernel_rfl) (by kernel_rfl) fh1
  simp only [Value.cells, List.cons.injEq, and_true] at e1
  obtain rfl := e1.symm
  clear hA0 hval0
  simp only [List.append_nil] at hW'
  refine (walk W _ Z0 l0 H0 _ Z1 l1 H1).mono fun e W' ⟨he, hb⟩ => ?_
  subst he
  exact ⟨_, rfl, kept_post (pa := p) hW' (fun _ _ _ => (trodAll_cons_mk (shut_bool Try.underlying4 _) trodAll_mk0)) (fun sp hsp => trodAll_stays laid hb (by rw [Try.params7]; decide +kernel) hAk (fun x hx => hW'.lt x hx) hsp) (fun _ => rfl) hb (ok_one (by kernel_rfl) rfl (okWide_bool_mk Try.underlying4 _))⟩

theorem over : Rows.cellmemNestedRow.holds Try.pinned (OpenSpec.ofChange Rows.cellmemNestedSpec) :=
  OpenClaim.holds_of_wide 7 Try.f7 rfl rfl rfl rfl rfl rfl rfl ⟨rfl, rfl, rfl, rfl, rfl⟩ rfl rfl rfl rfl rfl (by kernel_rfl) Try.func7 (by kernel_rfl)
    (of_decide_eq_true (by kernel_rfl)) (by unfold Func.isWrapper; first | (rw [if_pos (by decide +kernel)]; kernel_rfl) | (rw [if_neg (by decide +kernel)]; exact ⟨rfl, rfl⟩))
    (fun os started H enc _ => lifted os started H enc)

theorem proved : Rows.CellmemNestedSaid :=
  over
#print axioms proved
end Go.Proofs.Ytlpacihkmfgegaa.cellmemNested
