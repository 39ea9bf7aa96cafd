/-
  package cellmem, P9.6: for every history of up to 30 operations on six cells and any two continuations of up to 12 calls of Set each, all made of any numbers, undoing the first continuation and performing the second one leads to the same cells, log position and changed cells as performing the second one alone, and the section's example holds; whatever the arguments are.
-/
import Derived.Test.YtlpacihkmfgegaaRows
import Derived.WalkKit
import Derived.ProofKit
import Derived.OpenShut
import Derived.Test.YtlpacihkmfgegaaOpen
import Derived.Test.YtlpacihkmfgegaaOpenC
import Derived.Test.YtlpacihkmfgegaaCmM
namespace Go.Proofs.Ytlpacihkmfgegaa.cellmemBranch
open Go.ChangeShapes Go.WideShapes Go.ChangeAt Go.RowKit
set_option linter.unusedVariables false
set_option linter.unusedSimpArgs false

open Cm
/-- Two memories side by side, both new since w0. -/
structure Two (w0 : World) (bx bY : Nat) (Ox Oy : Nat → Prop) (w : World) (S T : Me) : Prop where
  x : Mo w bx Ox S
  y : Mo w bY Oy T
  dis : ∀ i, Ox i → ¬ Oy i
  fx : Fresh w0 Ox w
  fy : Fresh w0 Oy w
theorem Two.setX {w0 w w' : World} {bx bY : Nat} {Ox Oy Q : Nat → Prop} {S T S' : Me} (h : Two w0 bx bY Ox Oy w S T) (hM : Mo w' bx Q S') (hm : Moves Ox w Q w') : Two w0 bx bY Q Oy w' S' T :=
  ⟨hM, h.y.beside hm (fun i hi e => h.dis i e hi), fun i hi e => by
    rcases hm.own i hi with h1 | h1
    · exact h.dis i h1 e
    · have := h.y.lt i e; omega, h.fx.moves hm, ⟨(h.fx.moves hm).below, h.fy.own⟩⟩
theorem Two.setY {w0 w w' : World} {bx bY : Nat} {Ox Oy Q : Nat → Prop} {S T T' : Me} (h : Two w0 bx bY Ox Oy w S T) (hM : Mo w' bY Q T') (hm : Moves Oy w Q w') : Two w0 bx bY Ox Q w' S T' :=
  ⟨h.x.beside hm h.dis, hM, fun i hi e => by
    rcases hm.own i e with h1 | h1
    · exact h.dis i hi h1
    · have := h.x.lt i hi; omega, ⟨(h.fy.moves hm).below, h.fx.own⟩, h.fy.moves hm⟩
theorem Two.carry {w0 w w' : World} {bx bY : Nat} {Ox Oy : Nat → Prop} {S T : Me} (h : Two w0 bx bY Ox Oy w S T) (hb : Below w.heap.size w w') : Two w0 bx bY Ox Oy w' S T := ⟨h.x.carry hb, h.y.carry hb, h.dis, h.fx.step hb, h.fy.step hb⟩
theorem own : ownKnob Try.prog.godebug = none := by kernel_rfl
theorem laid : laidOutB Try.prog = true := by kernel_rfl

set_option maxRecDepth 100000 in
set_option maxHeartbeats 8000000 in
theorem walk (w : World) (s0 : Value) (Z0 : Nat → Int) (l0 : Nat) (H0 : IntsAt w s0 1 Z0 l0) (s1 : Value) (Z1 : Nat → Int) (l1 : Nat) (H1 : IntsAt w s1 1 Z1 l1) (s2 : Value) (Z2 : Nat → Int) (l2 : Nat) (H2 : IntsAt w s2 2 Z2 l2) (s3 : Value) (Z3 : Nat → Int) (l3 : Nat) (H3 : IntsAt w s3 2 Z3 l3) :
    Calls Try.prog 6 #[s0, s1, s2, s3] w fun e w' => e = .returned (.bool true) ∧ Below w.heap.size w w' := by
  have kb := Lib.hid (fun W (hb : Below w.heap.size w W) => built_any s0 s1 Z0 Z1 l0 l1 W (H0.carry' hb) (H1.carry' hb))
  have H2' := Lib.hid H2
  have H3' := Lib.hid H3
  obtain ⟨a2, cap2, rfl, hcap2, hmx2⟩ := H2.form
  obtain ⟨a3, cap3, rfl, hcap3, hmx3⟩ := H3.form
  unfold maxLen at hmx2 hmx3
  have hh := hist_ok Z0 l0 Z1 (min l1 30)
  have hl6 : (hist Z0 l0 Z1 (min l1 30)).cs.length = 6 := hh.1
  have hp30 : (hist Z0 l0 Z1 (min l1 30)).pos ≤ 30 := by have := hh.2; omega
  clear H0 H1 H2 H3 hh
  generalize hist Z0 l0 Z1 (min l1 30) = S at *
  have kl := Lib.hid (fun W => lives9_any W)
  have ok := Lib.hid (show Ok S from ⟨by omega, by omega⟩)
  obtain ⟨ps, hps⟩ : ∃ ps, ps = S.pos := ⟨_, rfl⟩
  have hps' := Lib.hid hps.symm
  have hp30' := Lib.hid hp30
  have hl6' := Lib.hid hl6
  rw [← hps] at hp30
  clear hps hl6
  go_enter Try.func6, Try.ntmps6
  go_wp2_with (first
    | (go_at_call 32; with_reducible refine (kb.out w (Below.refl _ _)).mono ?_; rintro e y1 ⟨bx, Ox, rfl, hM, hF⟩; have hM1 := Lib.hid hM; have hF1 := Lib.hid hF; clear hM hF)
    | (go_at_call 32; with_reducible refine (kb.out y1 hF1.out.below).mono ?_; rintro e y2 ⟨bz, Oz, rfl, hM, hF⟩; have hT2 := Lib.hid (Two.mk (w0 := w) (hM1.out.carry hF.below) hM (fun i hi e => by have h1 := hM1.out.lt i hi; have h2 := hF.own i e; omega) (hF1.out.step hF.below) ⟨below_step hF1.out.below hF.below, fun i hi => Nat.le_trans hF1.out.below.size (hF.own i hi)⟩); clear hM hF)
    | (go_at_call 24; with_reducible refine (hT2.out.x.mark ok.out).mono ?_; rintro e y3 ⟨rfl, hb⟩; rw [hps'.out]; have hT3 := Lib.hid (hT2.out.carry hb); clear hb))
  clear hM1 hF1 hT2 kb
  go_loopw [12] (fun i wr => ∃ (t : Nat) (O' : Nat → Prop), t ≤ 12 ∧ t ≤ l2 ∧ i = .int .i64 (t : Nat) ∧ Two w bx bz O' Oz wr (S.sets (moreN Z2 t)) S) (fun i _ => 12 - (intOf i).toNat)
  case atStart => exact ⟨0, Ox, Nat.zero_le _, Nat.zero_le _, rfl, hT3.out⟩
  case round =>
    obtain ⟨t, O', ht, htl, rfl, hT⟩ := hrel
    have hT' := Lib.hid hT
    clear hT
    have okt := Lib.hid (sets_ok Z2 t hl6'.out (by have := hp30'.out; omega))
    by_cases h1 : t < l2
    · by_cases h2 : t < 12
      · have d0 : decide (((t : Nat) : Int) < (l2 : Int)) = true := decide_eq_true (by omega)
        obtain ⟨g, off, cap', e, _, hc0, hc1, hz1, hz2⟩ := pair_at (H2'.out.carry' hT'.out.fx.below) h1
        simp only [Value.slice.injEq, true_and] at e
        obtain ⟨rfl, rfl⟩ := e
        have c0 := hc0
        have c1 := hc1
        clear hc0 hc1
        have ka := Lib.hid (fun W => around_any (Z2 (t * 2)) 6 W hz1 hz2 (by omega))
        have hst := Lib.hid (sets_next S Z2 t)
        clear hz1 hz2
        generalize Z2 (t * 2) = zc at *
        generalize Z2 (t * 2 + 1) = zv at *
        generalize arnd zc 6 = za at *
        go_upto_region 9 with fail
        refine wp_region_tail 12 (by kernel_rfl) (by kernel_rfl) ?_
        intro W hK
        have g_c0 := fun x => carry ((hK.below x)) c0
        have g_c1 := fun x => carry ((hK.below x)) c1
        simp only [List.take_succ_cons, List.take_zero, List.drop_succ_cons, List.drop_zero]
        repeat (go_big_quiet_step ((go_at_call 33; with_reducible exact met_same (ka.out _))))
        refine wpQuiet_nil ?_
        intro wq hw'
        have hbq := kept_in hK hw'
        clear g_c0 g_c1
        clear hw' hK W
        replace c0 := carry (hbq) c0
        replace c1 := carry (hbq) c1
        go_wp2_with (first | (go_at_call 31; with_reducible refine ((hT'.out.carry hbq).x.set okt.out za zv).mono ?_; rintro e y5 ⟨rfl, O5, hM5, hm5⟩; have hT5 := Lib.hid ((hT'.out.carry hbq).setX hM5 hm5); clear hM5 hm5))
        refine ⟨⟨t + 1, O5, by omega, by omega, by go_num, by rw [hst.out]; exact hT5.out⟩, ?_⟩
        simp [intOf]; omega
      · have d0 : decide (((t : Nat) : Int) < (l2 : Int)) = true := decide_eq_true (by omega)
        have hund := Lib.hid (sets_undo S (moreN Z2 t))
        rw [hps'.out] at hund
        go_wp2_with (first
          | (go_at_call 34; with_reducible refine (hT'.out.x.undo okt.out (ps : Int)).mono ?_; rintro e y5 ⟨rfl, O5, hM5, hm5⟩; rw [hund.out.1]; rw [hund.out.2] at hM5; have hT5 := Lib.hid (hT'.out.setX hM5 hm5); clear hM5 hm5))
        clear d0 okt hund hT'
        go_loopw [13] (fun i wr => ∃ (t : Nat) (Oa Ob : Nat → Prop), t ≤ 12 ∧ t ≤ l3 ∧ i = .int .i64 (t : Nat) ∧ Two w bx bz Oa Ob wr (S.sets (moreN Z3 t)) (S.sets (moreN Z3 t))) (fun i _ => 12 - (intOf i).toNat)
        case atStart => exact ⟨0, O5, Oz, Nat.zero_le _, Nat.zero_le _, rfl, hT5.out⟩
        case round =>
          obtain ⟨t', Oa, Ob, ht', htl', rfl, hT⟩ := hrel
          have hT' := Lib.hid hT
          clear hT hT5
          have okt := Lib.hid (sets_ok Z3 t' hl6'.out (by have := hp30'.out; omega))
          by_cases h3 : t' < l3
          · by_cases h4 : t' < 12
            · have d0 : decide (((t' : Nat) : Int) < (l3 : Int)) = true := decide_eq_true (by omega)
              obtain ⟨g, off, cap', e, _, hc0, hc1, hz1, hz2⟩ := pair_at (H3'.out.carry' hT'.out.fx.below) h3
              simp only [Value.slice.injEq, true_and] at e
              obtain ⟨rfl, rfl⟩ := e
              have hcc := Lib.hid (pair_at H3'.out h3)
              have c0 := hc0
              have c1 := hc1
              clear hc0 hc1
              have ka := Lib.hid (fun W => around_any (Z3 (t' * 2)) 6 W hz1 hz2 (by omega))
              have hst := Lib.hid (sets_next S Z3 t')
              clear hz1 hz2
              generalize Z3 (t' * 2) = zc at *
              generalize Z3 (t' * 2 + 1) = zv at *
              generalize arnd zc 6 = za at *
              go_upto_region 15 with fail
              refine wp_region_tail 12 (by kernel_rfl) (by kernel_rfl) ?_
              intro W hK
              have g_c0 := fun x => carry ((hK.below x)) c0
              have g_c1 := fun x => carry ((hK.below x)) c1
              simp only [List.take_succ_cons, List.take_zero, List.drop_succ_cons, List.drop_zero]
              repeat (go_big_quiet_step ((go_at_call 33; with_reducible exact met_same (ka.out _))))
              refine wpQuiet_nil ?_
              intro wq hw'
              have hbq := kept_in hK hw'
              clear g_c0 g_c1
              clear hw' hK W
              replace c0 := carry (hbq) c0
              replace c1 := carry (hbq) c1
              go_upto_region 16 with (first | (go_at_call 31; with_reducible refine ((hT'.out.carry hbq).x.set okt.out za zv).mono ?_; rintro e y6 ⟨rfl, O6, hM6, hm6⟩; have hT6 := Lib.hid ((hT'.out.carry hbq).setX hM6 hm6); clear hM6 hm6))
              clear c0 c1 hbq
              obtain ⟨g', off', cap', e', _, hc0, hc1, _⟩ := hcc.out
              simp only [Value.slice.injEq, Option.some.injEq, Addr.mk.injEq, true_and, and_true] at e'
              obtain ⟨⟨rfl, rfl⟩, rfl⟩ := e'
              have c0 := carry hT6.out.fx.below hc0
              have c1 := carry hT6.out.fx.below hc1
              clear hc0 hc1 hT'
              refine wp_region_tail 12 (by kernel_rfl) (by kernel_rfl) ?_
              intro W hK
              have g_c0 := fun x => carry ((hK.below x)) c0
              have g_c1 := fun x => carry ((hK.below x)) c1
              simp only [List.take_succ_cons, List.take_zero, List.drop_succ_cons, List.drop_zero]
              repeat (go_big_quiet_step ((go_at_call 33; with_reducible exact met_same (ka.out _))))
              refine wpQuiet_nil ?_
              intro wq hw'
              have hbq := kept_in hK hw'
              clear g_c0 g_c1
              clear hw' hK W
              replace c0 := carry (hbq) c0
              replace c1 := carry (hbq) c1
              go_wp2_with (first | (go_at_call 31; with_reducible refine ((hT6.out.carry hbq).y.set okt.out za zv).mono ?_; rintro e y7 ⟨rfl, O7, hM7, hm7⟩; have hT7 := Lib.hid ((hT6.out.carry hbq).setY hM7 hm7); clear hM7 hm7))
              refine ⟨⟨t' + 1, O6, O7, by omega, by omega, by go_num, by rw [hst.out]; exact hT7.out⟩, ?_⟩
              simp [intOf]; omega
            · have d0 : decide (((t' : Nat) : Int) < (l3 : Int)) = true := decide_eq_true (by omega)
              have hund := Lib.hid (sets_undo S (moreN Z3 t')).1
              rw [hps'.out] at hund
              generalize S.sets (moreN Z3 t') = T at *
              go_wp2_with (first
                | (go_at_call 35; with_reducible refine (hT'.out.x.changed okt.out (ps : Int)).mono ?_; rintro e z1 ⟨vp, rfl, hr, hb⟩; rw [hund.out]; have hI1 := Lib.hid (own_il hr); have hT1 := Lib.hid (hT'.out.carry hb); clear hr hb)
                | (go_at_call 35; with_reducible refine (hT1.out.y.changed okt.out (ps : Int)).mono ?_; rintro e z2 ⟨vq, rfl, hr, hb⟩; rw [hund.out]; have hI2 := Lib.hid (own_il hr); have hJ2 := Lib.hid (hI1.out.carry hb); have hT2 := Lib.hid (hT1.out.carry hb); clear hr hb)
                | (go_at_call 21; with_reducible refine (sameI_any _ _ _ _ _ hJ2.out hI2.out).mono ?_; rintro e z3 ⟨rfl, hb⟩; rw [same_self]; have hT3 := Lib.hid (hT2.out.carry hb); clear hb)
                | (go_at_call 22; with_reducible refine (hT3.out.x.all okt.out).mono ?_; rintro e z4 ⟨vc, rfl, hr, hb⟩; have hI4 := Lib.hid (own_il hr); have hT4 := Lib.hid (hT3.out.carry hb); clear hr hb)
                | (go_at_call 22; with_reducible refine (hT4.out.y.all okt.out).mono ?_; rintro e z5 ⟨vd, rfl, hr, hb⟩; have hI5 := Lib.hid (own_il hr); have hJ5 := Lib.hid (hI4.out.carry hb); have hT5 := Lib.hid (hT4.out.carry hb); clear hr hb)
                | (go_at_call 21; with_reducible refine (sameI_any _ _ _ _ _ hJ5.out hI5.out).mono ?_; rintro e z6 ⟨rfl, hb⟩; rw [same_self]; have hT6 := Lib.hid (hT5.out.carry hb); clear hb)
                | (go_at_call 24; with_reducible refine (hT6.out.x.mark okt.out).mono ?_; rintro e z7 ⟨rfl, hb⟩; have hT7 := Lib.hid (hT6.out.carry hb); clear hb)
                | (go_at_call 24; with_reducible refine (hT7.out.y.mark okt.out).mono ?_; rintro e z8 ⟨rfl, hb⟩; have hT8 := Lib.hid (hT7.out.carry hb); clear hb)
                | (go_at_call 28; with_reducible refine (kl.out _).mono ?_; rintro e z9 ⟨rfl, hb⟩; have hB9 := Lib.hid (below_step hT8.out.fx.below hb); clear hb))
              go_ret
              exact ⟨rfl, hB9.out⟩
          · have d0 : decide (((t' : Nat) : Int) < (l3 : Int)) = false := decide_eq_false (by omega)
            have hund := Lib.hid (sets_undo S (moreN Z3 t')).1
            rw [hps'.out] at hund
            generalize S.sets (moreN Z3 t') = T at *
            go_wp2_with (first
              | (go_at_call 35; with_reducible refine (hT'.out.x.changed okt.out (ps : Int)).mono ?_; rintro e z1 ⟨vp, rfl, hr, hb⟩; rw [hund.out]; have hI1 := Lib.hid (own_il hr); have hT1 := Lib.hid (hT'.out.carry hb); clear hr hb)
              | (go_at_call 35; with_reducible refine (hT1.out.y.changed okt.out (ps : Int)).mono ?_; rintro e z2 ⟨vq, rfl, hr, hb⟩; rw [hund.out]; have hI2 := Lib.hid (own_il hr); have hJ2 := Lib.hid (hI1.out.carry hb); have hT2 := Lib.hid (hT1.out.carry hb); clear hr hb)
              | (go_at_call 21; with_reducible refine (sameI_any _ _ _ _ _ hJ2.out hI2.out).mono ?_; rintro e z3 ⟨rfl, hb⟩; rw [same_self]; have hT3 := Lib.hid (hT2.out.carry hb); clear hb)
              | (go_at_call 22; with_reducible refine (hT3.out.x.all okt.out).mono ?_; rintro e z4 ⟨vc, rfl, hr, hb⟩; have hI4 := Lib.hid (own_il hr); have hT4 := Lib.hid (hT3.out.carry hb); clear hr hb)
              | (go_at_call 22; with_reducible refine (hT4.out.y.all okt.out).mono ?_; rintro e z5 ⟨vd, rfl, hr, hb⟩; have hI5 := Lib.hid (own_il hr); have hJ5 := Lib.hid (hI4.out.carry hb); have hT5 := Lib.hid (hT4.out.carry hb); clear hr hb)
              | (go_at_call 21; with_reducible refine (sameI_any _ _ _ _ _ hJ5.out hI5.out).mono ?_; rintro e z6 ⟨rfl, hb⟩; rw [same_self]; have hT6 := Lib.hid (hT5.out.carry hb); clear hb)
              | (go_at_call 24; with_reducible refine (hT6.out.x.mark okt.out).mono ?_; rintro e z7 ⟨rfl, hb⟩; have hT7 := Lib.hid (hT6.out.carry hb); clear hb)
              | (go_at_call 24; with_reducible refine (hT7.out.y.mark okt.out).mono ?_; rintro e z8 ⟨rfl, hb⟩; have hT8 := Lib.hid (hT7.out.carry hb); clear hb)
              | (go_at_call 28; with_reducible refine (kl.out _).mono ?_; rintro e z9 ⟨rfl, hb⟩; have hB9 := Lib.hid (below_step hT8.out.fx.below hb); clear hb))
            go_ret
            exact ⟨rfl, hB9.out⟩
    · have d0 : decide (((t : Nat) : Int) < (l2 : Int)) = false := decide_eq_false (by omega)
      have hund := Lib.hid (sets_undo S (moreN Z2 t))
      rw [hps'.out] at hund
      go_wp2_with (first
        | (go_at_call 34; with_reducible refine (hT'.out.x.undo okt.out (ps : Int)).mono ?_; rintro e y5 ⟨rfl, O5, hM5, hm5⟩; rw [hund.out.1]; rw [hund.out.2] at hM5; have hT5 := Lib.hid (hT'.out.setX hM5 hm5); clear hM5 hm5))
      clear d0 okt hund hT'
      go_loopw [13] (fun i wr => ∃ (t : Nat) (Oa Ob : Nat → Prop), t ≤ 12 ∧ t ≤ l3 ∧ i = .int .i64 (t : Nat) ∧ Two w bx bz Oa Ob wr (S.sets (moreN Z3 t)) (S.sets (moreN Z3 t))) (fun i _ => 12 - (intOf i).toNat)
      case atStart => exact ⟨0, O5, Oz, Nat.zero_le _, Nat.zero_le _, rfl, hT5.out⟩
      case round =>
        obtain ⟨t', Oa, Ob, ht', htl', rfl, hT⟩ := hrel
        have hT' := Lib.hid hT
        clear hT hT5
        have okt := Lib.hid (sets_ok Z3 t' hl6'.out (by have := hp30'.out; omega))
        by_cases h3 : t' < l3
        · by_cases h4 : t' < 12
          · have d0 : decide (((t' : Nat) : Int) < (l3 : Int)) = true := decide_eq_true (by omega)
            obtain ⟨g, off, cap', e, _, hc0, hc1, hz1, hz2⟩ := pair_at (H3'.out.carry' hT'.out.fx.below) h3
            simp only [Value.slice.injEq, true_and] at e
            obtain ⟨rfl, rfl⟩ := e
            have hcc := Lib.hid (pair_at H3'.out h3)
            have c0 := hc0
            have c1 := hc1
            clear hc0 hc1
            have ka := Lib.hid (fun W => around_any (Z3 (t' * 2)) 6 W hz1 hz2 (by omega))
            have hst := Lib.hid (sets_next S Z3 t')
            clear hz1 hz2
            generalize Z3 (t' * 2) = zc at *
            generalize Z3 (t' * 2 + 1) = zv at *
            generalize arnd zc 6 = za at *
            go_upto_region 15 with fail
            refine wp_region_tail 12 (by kernel_rfl) (by kernel_rfl) ?_
            intro W hK
            have g_c0 := fun x => carry ((hK.below x)) c0
            have g_c1 := fun x => carry ((hK.below x)) c1
            simp only [List.take_succ_cons, List.take_zero, List.drop_succ_cons, List.drop_zero]
            repeat (go_big_quiet_step ((go_at_call 33; with_reducible exact met_same (ka.out _))))
            refine wpQuiet_nil ?_
            intro wq hw'
            have hbq := kept_in hK hw'
            clear g_c0 g_c1
            clear hw' hK W
            replace c0 := carry (hbq) c0
            replace c1 := carry (hbq) c1
            go_upto_region 16 with (first | (go_at_call 31; with_reducible refine ((hT'.out.carry hbq).x.set okt.out za zv).mono ?_; rintro e y6 ⟨rfl, O6, hM6, hm6⟩; have hT6 := Lib.hid ((hT'.out.carry hbq).setX hM6 hm6); clear hM6 hm6))
            clear c0 c1 hbq
            obtain ⟨g', off', cap', e', _, hc0, hc1, _⟩ := hcc.out
            simp only [Value.slice.injEq, Option.some.injEq, Addr.mk.injEq, true_and, and_true] at e'
            obtain ⟨⟨rfl, rfl⟩, rfl⟩ := e'
            have c0 := carry hT6.out.fx.below hc0
            have c1 := carry hT6.out.fx.below hc1
            clear hc0 hc1 hT'
            refine wp_region_tail 12 (by kernel_rfl) (by kernel_rfl) ?_
            intro W hK
            have g_c0 := fun x => carry ((hK.below x)) c0
            have g_c1 := fun x => carry ((hK.below x)) c1
            simp only [List.take_succ_cons, List.take_zero, List.drop_succ_cons, List.drop_zero]
            repeat (go_big_quiet_step ((go_at_call 33; with_reducible exact met_same (ka.out _))))
            refine wpQuiet_nil ?_
            intro wq hw'
            have hbq := kept_in hK hw'
            clear g_c0 g_c1
            clear hw' hK W
            replace c0 := carry (hbq) c0
            replace c1 := carry (hbq) c1
            go_wp2_with (first | (go_at_call 31; with_reducible refine ((hT6.out.carry hbq).y.set okt.out za zv).mono ?_; rintro e y7 ⟨rfl, O7, hM7, hm7⟩; have hT7 := Lib.hid ((hT6.out.carry hbq).setY hM7 hm7); clear hM7 hm7))
            refine ⟨⟨t' + 1, O6, O7, by omega, by omega, by go_num, by rw [hst.out]; exact hT7.out⟩, ?_⟩
            simp [intOf]; omega
          · have d0 : decide (((t' : Nat) : Int) < (l3 : Int)) = true := decide_eq_true (by omega)
            have hund := Lib.hid (sets_undo S (moreN Z3 t')).1
            rw [hps'.out] at hund
            generalize S.sets (moreN Z3 t') = T at *
            go_wp2_with (first
              | (go_at_call 35; with_reducible refine (hT'.out.x.changed okt.out (ps : Int)).mono ?_; rintro e z1 ⟨vp, rfl, hr, hb⟩; rw [hund.out]; have hI1 := Lib.hid (own_il hr); have hT1 := Lib.hid (hT'.out.carry hb); clear hr hb)
              | (go_at_call 35; with_reducible refine (hT1.out.y.changed okt.out (ps : Int)).mono ?_; rintro e z2 ⟨vq, rfl, hr, hb⟩; rw [hund.out]; have hI2 := Lib.hid (own_il hr); have hJ2 := Lib.hid (hI1.out.carry hb); have hT2 := Lib.hid (hT1.out.carry hb); clear hr hb)
              | (go_at_call 21; with_reducible refine (sameI_any _ _ _ _ _ hJ2.out hI2.out).mono ?_; rintro e z3 ⟨rfl, hb⟩; rw [same_self]; have hT3 := Lib.hid (hT2.out.carry hb); clear hb)
              | (go_at_call 22; with_reducible refine (hT3.out.x.all okt.out).mono ?_; rintro e z4 ⟨vc, rfl, hr, hb⟩; have hI4 := Lib.hid (own_il hr); have hT4 := Lib.hid (hT3.out.carry hb); clear hr hb)
              | (go_at_call 22; with_reducible refine (hT4.out.y.all okt.out).mono ?_; rintro e z5 ⟨vd, rfl, hr, hb⟩; have hI5 := Lib.hid (own_il hr); have hJ5 := Lib.hid (hI4.out.carry hb); have hT5 := Lib.hid (hT4.out.carry hb); clear hr hb)
              | (go_at_call 21; with_reducible refine (sameI_any _ _ _ _ _ hJ5.out hI5.out).mono ?_; rintro e z6 ⟨rfl, hb⟩; rw [same_self]; have hT6 := Lib.hid (hT5.out.carry hb); clear hb)
              | (go_at_call 24; with_reducible refine (hT6.out.x.mark okt.out).mono ?_; rintro e z7 ⟨rfl, hb⟩; have hT7 := Lib.hid (hT6.out.carry hb); clear hb)
              | (go_at_call 24; with_reducible refine (hT7.out.y.mark okt.out).mono ?_; rintro e z8 ⟨rfl, hb⟩; have hT8 := Lib.hid (hT7.out.carry hb); clear hb)
              | (go_at_call 28; with_reducible refine (kl.out _).mono ?_; rintro e z9 ⟨rfl, hb⟩; have hB9 := Lib.hid (below_step hT8.out.fx.below hb); clear hb))
            go_ret
            exact ⟨rfl, hB9.out⟩
        · have d0 : decide (((t' : Nat) : Int) < (l3 : Int)) = false := decide_eq_false (by omega)
          have hund := Lib.hid (sets_undo S (moreN Z3 t')).1
          rw [hps'.out] at hund
          generalize S.sets (moreN Z3 t') = T at *
          go_wp2_with (first
            | (go_at_call 35; with_reducible refine (hT'.out.x.changed okt.out (ps : Int)).mono ?_; rintro e z1 ⟨vp, rfl, hr, hb⟩; rw [hund.out]; have hI1 := Lib.hid (own_il hr); have hT1 := Lib.hid (hT'.out.carry hb); clear hr hb)
            | (go_at_call 35; with_reducible refine (hT1.out.y.changed okt.out (ps : Int)).mono ?_; rintro e z2 ⟨vq, rfl, hr, hb⟩; rw [hund.out]; have hI2 := Lib.hid (own_il hr); have hJ2 := Lib.hid (hI1.out.carry hb); have hT2 := Lib.hid (hT1.out.carry hb); clear hr hb)
            | (go_at_call 21; with_reducible refine (sameI_any _ _ _ _ _ hJ2.out hI2.out).mono ?_; rintro e z3 ⟨rfl, hb⟩; rw [same_self]; have hT3 := Lib.hid (hT2.out.carry hb); clear hb)
            | (go_at_call 22; with_reducible refine (hT3.out.x.all okt.out).mono ?_; rintro e z4 ⟨vc, rfl, hr, hb⟩; have hI4 := Lib.hid (own_il hr); have hT4 := Lib.hid (hT3.out.carry hb); clear hr hb)
            | (go_at_call 22; with_reducible refine (hT4.out.y.all okt.out).mono ?_; rintro e z5 ⟨vd, rfl, hr, hb⟩; have hI5 := Lib.hid (own_il hr); have hJ5 := Lib.hid (hI4.out.carry hb); have hT5 := Lib.hid (hT4.out.carry hb); clear hr hb)
            | (go_at_call 21; with_reducible refine (sameI_any _ _ _ _ _ hJ5.out hI5.out).mono ?_; rintro e z6 ⟨rfl, hb⟩; rw [same_self]; have hT6 := Lib.hid (hT5.out.carry hb); clear hb)
            | (go_at_call 24; with_reducible refine (hT6.out.x.mark okt.out).mono ?_; rintro e z7 ⟨rfl, hb⟩; have hT7 := Lib.hid (hT6.out.carry hb); clear hb)
            | (go_at_call 24; with_reducible refine (hT7.out.y.mark okt.out).mono ?_; rintro e z8 ⟨rfl, hb⟩; have hT8 := Lib.hid (hT7.out.carry hb); clear hb)
            | (go_at_call 28; with_reducible refine (kl.out _).mono ?_; rintro e z9 ⟨rfl, hb⟩; have hB9 := Lib.hid (below_step hT8.out.fx.below hb); clear hb))
          go_ret
          exact ⟨rfl, hB9.out⟩

set_option maxRecDepth 100000 in
theorem lifted (os : Os) (started : os.Started) (H : Type) (enc : TypeId × Value → H) :
    ReturnsInHanded {} Try.checked os 6 .any (Rows.cellmemBranchSpec.pre6 enc Try.prog Try.f6 Rows.cellmemBranchRow.domain false) (Rows.cellmemBranchSpec.post enc Try.prog Try.f6 false true false false) := by
  refine returnsInHanded_of_change (C := Try.checked) own started (by kernel_rfl) Try.func6
    (ChangeSpec.witness6 (enc := enc) (C := Try.checked) false ⟨#[], #[.slice none 0 0, .slice none 0 0, .slice none 0 0, .slice none 0 0], []⟩ 8 (by kernel_rfl) (by kernel_rfl) (by kernel_rfl) (by kernel_rfl)) ?_
  intro W base args ds gs before hval0 hW hcnd _
  have hval : ∀ (j : Nat) t v, Try.f6.params[j]? = some t → args[j]? = some v → Value.okWide Try.prog W .any base t v := hval0
  have hW' := hW
  obtain ⟨p, q, hA0, hV, rfl, hfz, hnd⟩ := hW
  have hA : DataW.TrodAll enc Try.prog W 0 (fun _ => true) true Try.f6.params.toList args.toList ds p := hA0
  rw [Try.params6] at hA hval
  have hAk := hA
  obtain ⟨v0, vs0, d0, ds0, p0, q0, hargs, rfl, hp0, h0, r0⟩ := trodAll_cons hA
  obtain ⟨v1, vs1, d1, ds1, p1, q1, rfl, rfl, hp1, h1, r1⟩ := trodAll_cons r0
  obtain ⟨v2, vs2, d2, ds2, p2, q2, rfl, rfl, hp2, h2, r2⟩ := trodAll_cons r1
  obtain ⟨v3, vs3, d3, ds3, p3, q3, rfl, rfl, hp3, h3, r3⟩ := trodAll_cons r2
  obtain ⟨rfl, rfl, -⟩ := trodAll_nil r3
  obtain rfl : args = #[v0, v1, v2, v3] := by cases args; simp_all
  obtain ⟨rfl, rfl⟩ := trodVars_none hV
  obtain ⟨x0, q0, c0, rfl⟩ := okWide_slice Try.underlying22 (hval 0 22 v0 rfl rfl)
  obtain ⟨fu0, fh0⟩ := h0
  obtain ⟨s0, Z0, l0, e0, H0⟩ := open_int_cells Try.underlying22 Try.underlying3 (by kernel_rfl) fh0
  simp only [Value.cells, List.cons.injEq, and_true] at e0
  obtain rfl := e0.symm
  obtain ⟨x1, q1, c1, rfl⟩ := okWide_slice Try.underlying22 (hval 1 22 v1 rfl rfl)
  obtain ⟨fu1, fh1⟩ := h1
  obtain ⟨s1, Z1, l1, e1, H1⟩ := open_int_cells Try.underlying22 Try.underlying3 (by kernel_rfl) fh1
  simp only [Value.cells, List.cons.injEq, and_true] at e1
  obtain rfl := e1.symm
  obtain ⟨x2, q2, c2, rfl⟩ := okWide_slice Try.underlying51 (hval 2 51 v2 rfl rfl)
  obtain ⟨fu2, fh2⟩ := h2
  obtain ⟨s2, Z2, l2, e2, H2⟩ := open_slice_arrs Try.underlying51 Try.underlying54 Try.underlying3 (by decide) (by kernel_rfl) (by kernel_rfl) fh2
  simp only [Value.cells, List.cons.injEq, and_true] at e2
  obtain rfl := e2.symm
  obtain ⟨x3, q3, c3, rfl⟩ := okWide_slice Try.underlying51 (hval 3 51 v3 rfl rfl)
  obtain ⟨fu3, fh3⟩ := h3
  obtain ⟨s3, Z3, l3, e3, H3⟩ := open_slice_arrs Try.underlying51 Try.underlying54 Try.underlying3 (by decide) (by kernel_rfl) (by kernel_rfl) fh3
  simp only [Value.cells, List.cons.injEq, and_true] at e3
  obtain rfl := e3.symm
  clear hA0 hval0
  simp only [List.append_nil] at hW'
  refine (walk W _ Z0 l0 H0 _ Z1 l1 H1 _ Z2 l2 H2 _ Z3 l3 H3).mono fun e W' ⟨he, hb⟩ => ?_
  subst he
  exact ⟨_, rfl, kept_post (pa := p) hW' (fun _ _ _ => (trodAll_cons_mk (shut_bool Try.underlying4 _) trodAll_mk0)) (fun sp hsp => trodAll_stays laid hb (by rw [Try.params6]; decide +kernel) hAk (fun x hx => hW'.lt x hx) hsp) (fun _ => rfl) hb (ok_one (by kernel_rfl) rfl (okWide_bool_mk Try.underlying4 _))⟩

theorem over : Rows.cellmemBranchRow.holds Try.pinned (OpenSpec.ofChange Rows.cellmemBranchSpec) :=
  OpenClaim.holds_of_wide 6 Try.f6 rfl rfl rfl rfl rfl rfl rfl ⟨rfl, rfl, rfl, rfl, rfl⟩ rfl rfl rfl rfl rfl (by kernel_rfl) Try.func6 (by kernel_rfl)
    (of_decide_eq_true (by kernel_rfl)) (by unfold Func.isWrapper; first | (rw [if_pos (by decide +kernel)]; kernel_rfl) | (rw [if_neg (by decide +kernel)]; exact ⟨rfl, rfl⟩))
    (fun os started H enc _ => lifted os started H enc)

theorem proved : Rows.CellmemBranchSaid :=
  over
#print axioms proved
end Go.Proofs.Ytlpacihkmfgegaa.cellmemBranch
