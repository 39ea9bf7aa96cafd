/-
  package cellmem, P9.6: for every history of up to 30 operations on six cells and up to 20 further calls of Set, all made of any numbers, Undo to the mark taken in between restores all cells, the log position and the number of entries, and the section's example holds; whatever the arguments are.
-/
import Derived.Test.YtlpacihkmfgegaaRows
import Derived.WalkKit
import Derived.ProofKit
import Derived.OpenShut
import Derived.Test.YtlpacihkmfgegaaOpen
import Derived.Test.YtlpacihkmfgegaaOpenC
import Derived.Test.YtlpacihkmfgegaaCmM
namespace Go.Proofs.Ytlpacihkmfgegaa.cellmemUndo
open Go.ChangeShapes Go.WideShapes Go.ChangeAt Go.RowKit
set_option linter.unusedVariables false
set_option linter.unusedSimpArgs false

open Cm
theorem own : ownKnob Try.prog.godebug = none := by kernel_rfl
theorem laid : laidOutB Try.prog = true := by kernel_rfl

set_option maxRecDepth 100000 in
set_option maxHeartbeats 8000000 in
theorem walk (w : World) (s0 : Value) (Z0 : Nat → Int) (l0 : Nat) (H0 : IntsAt w s0 1 Z0 l0) (s1 : Value) (Z1 : Nat → Int) (l1 : Nat) (H1 : IntsAt w s1 1 Z1 l1) (s2 : Value) (Z2 : Nat → Int) (l2 : Nat) (H2 : IntsAt w s2 2 Z2 l2) :
    Calls Try.prog 5 #[s0, s1, s2] w fun e w' => e = .returned (.bool true) ∧ Below w.heap.size w w' := by
  have kb := Lib.hid (built_any s0 s1 Z0 Z1 l0 l1 w H0 H1)
  have H2' := Lib.hid H2
  obtain ⟨a2, cap2, rfl, hcap2, hmx2⟩ := H2.form
  unfold maxLen at hmx2
  have hh := hist_ok Z0 l0 Z1 (min l1 30)
  have hl6 : (hist Z0 l0 Z1 (min l1 30)).cs.length = 6 := hh.1
  have hp30 : (hist Z0 l0 Z1 (min l1 30)).pos ≤ 30 := by have := hh.2; omega
  clear H0 H1 H2 hh
  generalize hist Z0 l0 Z1 (min l1 30) = S at *
  have kl := Lib.hid (fun W => lives9_any W)
  have ok := Lib.hid (show Ok S from ⟨by omega, by omega⟩)
  have hlg : S.lg.length ≤ 30 := by unfold Me.pos at hp30; omega
  obtain ⟨ps, hps⟩ : ∃ ps, ps = S.pos := ⟨_, rfl⟩
  obtain ⟨lg, hlgl⟩ : ∃ lg, lg = S.lg.length := ⟨_, rfl⟩
  have hps' := Lib.hid hps.symm
  have hlg' := Lib.hid hlgl.symm
  have hp30' := Lib.hid hp30
  have hl6' := Lib.hid hl6
  rw [← hps] at hp30
  rw [← hlgl] at hlg
  clear hps hlgl hl6
  go_enter Try.func5, Try.ntmps5
  go_wp2_with (first
    | (go_at_call 32; with_reducible refine kb.out.mono ?_; rintro e u1 ⟨b, O, rfl, hM, hF⟩; have hM1 := Lib.hid hM; have hF1 := Lib.hid hF; clear hM hF)
    | (go_at_call 22; with_reducible refine (hM1.out.all ok.out).mono ?_; rintro e u2 ⟨vw, rfl, hr, hb⟩; have hI2 := Lib.hid (own_il hr); have hne := Lib.hid (fun g hg => (fun hO => by have h1 := hM1.out.lt g hO; have h2 := (hr.lt g hg).1; omega : ¬ O g)); have hM2 := Lib.hid (hM1.out.carry hb); have hF2 := Lib.hid (hF1.out.step hb); clear hr hb)
    | (go_at_call 24; with_reducible refine (hM2.out.mark ok.out).mono ?_; rintro e u3 ⟨rfl, hb⟩; rw [hps'.out]; have hI3 := Lib.hid (hI2.out.carry hb); have hM3 := Lib.hid (hM2.out.carry hb); have hF3 := Lib.hid (hF2.out.step hb); clear hb)
    | (go_at_call 26; with_reducible refine (hM3.out.logged).mono ?_; rintro e u4 ⟨rfl, rfl⟩; rw [hlg'.out]))
  clear hM1 hF1 hI2 hM2 hF2 kb
  go_loopw [11] (fun i wr => ∃ (t : Nat) (O' : Nat → Prop), t ≤ 20 ∧ t ≤ l2 ∧ i = .int .i64 (t : Nat) ∧ Mo wr b O' (S.sets (moreN Z2 t)) ∧ Moves O u3 O' wr) (fun i _ => 20 - (intOf i).toNat)
  case atStart => exact ⟨0, O, Nat.zero_le _, Nat.zero_le _, rfl, hM3.out, Moves.refl _ _⟩
  case round =>
    obtain ⟨t, O', ht, htl, rfl, hM, hm⟩ := hrel
    have hM' := Lib.hid hM
    have hm' := Lib.hid hm
    have hF' := Lib.hid (hF3.out.moves hm)
    clear hM hm
    by_cases h1 : t < l2
    · by_cases h2 : t < 20
      · have d0 : decide (((t : Nat) : Int) < (l2 : Int)) = true := decide_eq_true (by omega)
        obtain ⟨g, off, cap', e, _, hc0, hc1, hz1, hz2⟩ := pair_at (H2'.out.carry' hF'.out.below) h1
        simp only [Value.slice.injEq, true_and] at e
        obtain ⟨rfl, rfl⟩ := e
        have c0 := hc0
        have c1 := hc1
        clear hc0 hc1
        have ka := Lib.hid (fun W => around_any (Z2 (t * 2)) 6 W hz1 hz2 (by omega))
        have okt := Lib.hid (sets_ok Z2 t hl6'.out (by have := hp30'.out; omega))
        have hst := Lib.hid (sets_next S Z2 t)
        clear hz1 hz2
        generalize Z2 (t * 2) = zc at *
        generalize Z2 (t * 2 + 1) = zv at *
        generalize arnd zc 6 = za at *
        go_upto_region 10 with fail
        refine wp_region_tail 12 (by kernel_rfl) (by kernel_rfl) ?_
        intro W hK
        have g_c0 := fun x => carry ((hK.below x)) c0
        have g_c1 := fun x => carry ((hK.below x)) c1
        simp only [List.take_succ_cons, List.take_zero, List.drop_succ_cons, List.drop_zero]
        repeat (go_big_quiet_step ((go_at_call 33; with_reducible exact met_same (ka.out _))))
        refine wpQuiet_nil ?_
        intro wq hw'
        have hbq := kept_in hK hw'
        clear g_c0 g_c1
        clear hw' hK W
        replace c0 := carry (hbq) c0
        replace c1 := carry (hbq) c1
        go_wp2_with (first | (go_at_call 31; with_reducible refine ((hM'.out.carry hbq).set okt.out za zv).mono ?_; rintro e u5 ⟨rfl, O5, hM5, hm5⟩; have hM5' := Lib.hid hM5; have hm5' := Lib.hid ((hm'.out.step hbq).trans hm5); clear hM5 hm5))
        refine ⟨⟨t + 1, O5, by omega, by omega, by go_num, by rw [hst.out]; exact hM5'.out, hm5'.out⟩, ?_⟩
        simp [intOf]; omega
      · have d0 : decide (((t : Nat) : Int) < (l2 : Int)) = true := decide_eq_true (by omega)
        have okt := Lib.hid (sets_ok Z2 t hl6'.out (by have := hp30'.out; omega))
        have hund := Lib.hid (sets_undo S (moreN Z2 t))
        rw [hps'.out] at hund
        go_wp2_with (first
          | (go_at_call 34; with_reducible refine (hM'.out.undo okt.out (ps : Int)).mono ?_; rintro e u5 ⟨rfl, O5, hM5, hm5⟩; rw [hund.out.1]; rw [hund.out.2] at hM5; have hM5' := Lib.hid hM5; have hm5' := Lib.hid (hm'.out.trans hm5); have hF5 := Lib.hid (hF'.out.moves hm5); clear hM5 hm5)
          | (go_at_call 22; with_reducible refine (hM5'.out.all ok.out).mono ?_; rintro e u6 ⟨v6, rfl, hr, hb⟩; have hI6 := Lib.hid (own_il hr); have hW6 := Lib.hid ((hI3.out.moves hm5'.out hne.out).carry hb); have hM6 := Lib.hid (hM5'.out.carry hb); have hF6 := Lib.hid (hF5.out.step hb); clear hr hb)
          | (go_at_call 21; with_reducible refine (sameI_any _ _ _ _ _ hI6.out hW6.out).mono ?_; rintro e u7 ⟨rfl, hb⟩; rw [same_self]; have hM7 := Lib.hid (hM6.out.carry hb); have hF7 := Lib.hid (hF6.out.step hb); clear hb)
          | (go_at_call 24; with_reducible refine (hM7.out.mark ok.out).mono ?_; rintro e u8 ⟨rfl, hb⟩; rw [hps'.out]; have hM8 := Lib.hid (hM7.out.carry hb); have hF8 := Lib.hid (hF7.out.step hb); clear hb)
          | (go_at_call 26; with_reducible refine (hM8.out.logged).mono ?_; rintro e u9 ⟨rfl, rfl⟩; rw [hlg'.out])
          | (go_at_call 28; with_reducible refine (kl.out _).mono ?_; rintro e u10 ⟨rfl, hb⟩; have hB10 := Lib.hid (below_step hF8.out.below hb); clear hb))
        go_ret
        exact ⟨rfl, hB10.out⟩
    · have d0 : decide (((t : Nat) : Int) < (l2 : Int)) = false := decide_eq_false (by omega)
      have okt := Lib.hid (sets_ok Z2 t hl6'.out (by have := hp30'.out; omega))
      have hund := Lib.hid (sets_undo S (moreN Z2 t))
      rw [hps'.out] at hund
      go_wp2_with (first
        | (go_at_call 34; with_reducible refine (hM'.out.undo okt.out (ps : Int)).mono ?_; rintro e u5 ⟨rfl, O5, hM5, hm5⟩; rw [hund.out.1]; rw [hund.out.2] at hM5; have hM5' := Lib.hid hM5; have hm5' := Lib.hid (hm'.out.trans hm5); have hF5 := Lib.hid (hF'.out.moves hm5); clear hM5 hm5)
        | (go_at_call 22; with_reducible refine (hM5'.out.all ok.out).mono ?_; rintro e u6 ⟨v6, rfl, hr, hb⟩; have hI6 := Lib.hid (own_il hr); have hW6 := Lib.hid ((hI3.out.moves hm5'.out hne.out).carry hb); have hM6 := Lib.hid (hM5'.out.carry hb); have hF6 := Lib.hid (hF5.out.step hb); clear hr hb)
        | (go_at_call 21; with_reducible refine (sameI_any _ _ _ _ _ hI6.out hW6.out).mono ?_; rintro e u7 ⟨rfl, hb⟩; rw [same_self]; have hM7 := Lib.hid (hM6.out.carry hb); have hF7 := Lib.hid (hF6.out.step hb); clear hb)
        | (go_at_call 24; with_reducible refine (hM7.out.mark ok.out).mono ?_; rintro e u8 ⟨rfl, hb⟩; rw [hps'.out]; have hM8 := Lib.hid (hM7.out.carry hb); have hF8 := Lib.hid (hF7.out.step hb); clear hb)
        | (go_at_call 26; with_reducible refine (hM8.out.logged).mono ?_; rintro e u9 ⟨rfl, rfl⟩; rw [hlg'.out])
        | (go_at_call 28; with_reducible refine (kl.out _).mono ?_; rintro e u10 ⟨rfl, hb⟩; have hB10 := Lib.hid (below_step hF8.out.below hb); clear hb))
      go_ret
      exact ⟨rfl, hB10.out⟩

set_option maxRecDepth 100000 in
theorem lifted (os : Os) (started : os.Started) (H : Type) (enc : TypeId × Value → H) :
    ReturnsInHanded {} Try.checked os 5 .any (Rows.cellmemUndoSpec.pre6 enc Try.prog Try.f5 Rows.cellmemUndoRow.domain false) (Rows.cellmemUndoSpec.post enc Try.prog Try.f5 false true false false) := by
  refine returnsInHanded_of_change (C := Try.checked) own started (by kernel_rfl) Try.func5
    (ChangeSpec.witness6 (enc := enc) (C := Try.checked) false ⟨#[], #[.slice none 0 0, .slice none 0 0, .slice none 0 0], []⟩ 8 (by kernel_rfl) (by kernel_rfl) (by kernel_rfl) (by kernel_rfl)) ?_
  intro W base args ds gs before hval0 hW hcnd _
  have hval : ∀ (j : Nat) t v, Try.f5.params[j]? = some t → args[j]? = some v → Value.okWide Try.prog W .any base t v := hval0
  have hW' := hW
  obtain ⟨p, q, hA0, hV, rfl, hfz, hnd⟩ := hW
  have hA : DataW.TrodAll enc Try.prog W 0 (fun _ => true) true Try.f5.params.toList args.toList ds p := hA0
  rw [Try.params5] at hA hval
  have hAk := hA
  obtain ⟨v0, vs0, d0, ds0, p0, q0, hargs, rfl, hp0, h0, r0⟩ := trodAll_cons hA
  obtain ⟨v1, vs1, d1, ds1, p1, q1, rfl, rfl, hp1, h1, r1⟩ := trodAll_cons r0
  obtain ⟨v2, vs2, d2, ds2, p2, q2, rfl, rfl, hp2, h2, r2⟩ := trodAll_cons r1
  obtain ⟨rfl, rfl, -⟩ := trodAll_nil r2
  obtain rfl : args = #[v0, v1, v2] := by cases args; simp_all
  obtain ⟨rfl, rfl⟩ := trodVars_none hV
  obtain ⟨x0, q0, c0, rfl⟩ := okWide_slice Try.underlying22 (hval 0 22 v0 rfl rfl)
  obtain ⟨fu0, fh0⟩ := h0
  obtain ⟨s0, Z0, l0, e0, H0⟩ := open_int_cells Try.underlying22 Try.underlying3 (by kernel_rfl) fh0
  simp only [Value.cells, List.cons.injEq, and_true] at e0
  obtain rfl := e0.symm
  obtain ⟨x1, q1, c1, rfl⟩ := okWide_slice Try.underlying22 (hval 1 22 v1 rfl rfl)
  obtain ⟨fu1, fh1⟩ := h1
  obtain ⟨s1, Z1, l1, e1, H1⟩ := open_int_cells Try.underlying22 Try.underlying3 (by kernel_rfl) fh1
  simp only [Value.cells, List.cons.injEq, and_true] at e1
  obtain rfl := e1.symm
  obtain ⟨x2, q2, c2, rfl⟩ := okWide_slice Try.underlying51 (hval 2 51 v2 rfl rfl)
  obtain ⟨fu2, fh2⟩ := h2
  obtain ⟨s2, Z2, l2, e2, H2⟩ := open_slice_arrs Try.underlying51 Try.underlying54 Try.underlying3 (by decide) (by kernel_rfl) (by kernel_rfl) fh2
  simp only [Value.cells, List.cons.injEq, and_true] at e2
  obtain rfl := e2.symm
  clear hA0 hval0
  simp only [List.append_nil] at hW'
  refine (walk W _ Z0 l0 H0 _ Z1 l1 H1 _ Z2 l2 H2).mono fun e W' ⟨he, hb⟩ => ?_
  subst he
  exact ⟨_, rfl, kept_post (pa := p) hW' (fun _ _ _ => (trodAll_cons_mk (shut_bool Try.underlying4 _) trodAll_mk0)) (fun sp hsp => trodAll_stays laid hb (by rw [Try.params5]; decide +kernel) hAk (fun x hx => hW'.lt x hx) hsp) (fun _ => rfl) hb (ok_one (by kernel_rfl) rfl (okWide_bool_mk Try.underlying4 _))⟩

theorem over : Rows.cellmemUndoRow.holds Try.pinned (OpenSpec.ofChange Rows.cellmemUndoSpec) :=
  OpenClaim.holds_of_wide 5 Try.f5 rfl rfl rfl rfl rfl rfl rfl ⟨rfl, rfl, rfl, rfl, rfl⟩ rfl rfl rfl rfl rfl (by kernel_rfl) Try.func5 (by kernel_rfl)
    (of_decide_eq_true (by kernel_rfl)) (by unfold Func.isWrapper; first | (rw [if_pos (by decide +kernel)]; kernel_rfl) | (rw [if_neg (by decide +kernel)]; exact ⟨rfl, rfl⟩))
    (fun os started H enc _ => lifted os started H enc)

theorem proved : Rows.CellmemUndoSaid :=
  over
#print axioms proved
end Go.Proofs.Ytlpacihkmfgegaa.cellmemUndo
