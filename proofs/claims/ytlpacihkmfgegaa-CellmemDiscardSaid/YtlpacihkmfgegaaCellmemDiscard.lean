/-
  package cellmem, P9.4, P9.7: for every history of up to 30 operations on six cells, made of any numbers, Discard up to any valid mark changes no cell; earlier marks become stale, that mark and later ones remain usable, and the section's example holds; whatever the arguments are.
-/
import Derived.Test.YtlpacihkmfgegaaRows
import Derived.WalkKit
import Derived.ProofKit
import Derived.OpenShut
import Derived.Test.YtlpacihkmfgegaaOpen
import Derived.Test.YtlpacihkmfgegaaCmM
namespace Go.Proofs.Ytlpacihkmfgegaa.cellmemDiscard
open Go.ChangeShapes Go.WideShapes Go.ChangeAt Go.RowKit
set_option linter.unusedVariables false
set_option linter.unusedSimpArgs false

open Cm
theorem err_at {S : Me} {m : Int} (h1 : (S.base : Int) ≤ m) (h2 : m ≤ S.pos) : S.err m = 0 := by unfold Me.err; rw [if_neg (by omega), if_neg (by omega)]
theorem err_low {S : Me} {m : Int} (h1 : m < S.base) : S.err m = 24 := by unfold Me.err; rw [if_pos h1]
theorem err_high {S : Me} {m : Int} (h1 : (S.base : Int) ≤ m) (h2 : (S.pos : Int) < m) : S.err m = 6 := by unfold Me.err; rw [if_neg (by omega), if_pos h2]
structure Disc (S D U : Me) (mk : Nat) : Prop where
  e0 : S.err (mk : Int) = 0
  cs : D.cs = S.cs
  lg : D.lg.length = S.pos - mk
  e1 : D.err ((mk : Int) - 1) = 24
  u1 : D.undo ((mk : Int) - 1) = D
  e2 : D.err ((S.base : Int) - 1) = 24
  d2 : D.discard ((S.base : Int) - 1) = D
  e3 : D.err ((S.pos : Int) + 1) = 6
  u3 : D.undo ((S.pos : Int) + 1) = D
  e4 : D.err (mk : Int) = 0
  u4 : D.undo (mk : Int) = U
  l4 : U.lg.length = 0
  p4 : U.pos = mk
  okD : Ok D
  okU : Ok U
theorem disc_of {S : Me} {mk : Nat} (h1 : S.base ≤ mk) (h2 : mk ≤ S.pos) (ok : Ok S) : ∃ D U, S.discard (mk : Int) = D ∧ Disc S D U mk := by
  have e0 : S.err (mk : Int) = 0 := err_at (by omega) (by omega)
  have hD : S.discard (mk : Int) = ⟨S.cs, mk, S.lg.drop (mk - S.base)⟩ := by unfold Me.discard; rw [if_pos e0, Int.toNat_natCast]
  obtain ⟨p1, p2⟩ := Me.discard_pos e0
  have hl : (S.discard (mk : Int)).lg.length = S.pos - mk := by rw [hD]; show (S.lg.drop _).length = _; rw [List.length_drop]; unfold Me.pos at *; omega
  have hb : (S.discard (mk : Int)).base = mk := by omega
  have e1 : (S.discard (mk : Int)).err ((mk : Int) - 1) = 24 := err_low (by omega)
  have e2 : (S.discard (mk : Int)).err ((S.base : Int) - 1) = 24 := err_low (by omega)
  have e3 : (S.discard (mk : Int)).err ((S.pos : Int) + 1) = 6 := err_high (by omega) (by omega)
  have e4 : (S.discard (mk : Int)).err (mk : Int) = 0 := err_at (by omega) (by omega)
  obtain ⟨q1, q2, _⟩ := Me.undo_pos e4
  have hp4 : ((S.discard (mk : Int)).undo (mk : Int)).pos = mk := by omega
  have hcs : (S.discard (mk : Int)).cs = S.cs := S.discard_cs _
  refine ⟨_, _, rfl, ⟨e0, hcs, hl, e1, Me.undo_bad (by rw [e1]; decide), e2, Me.discard_bad (by rw [e2]; decide), e3, Me.undo_bad (by rw [e3]; decide), e4, rfl, ?_, hp4, ⟨by rw [hcs]; exact ok.len, by rw [p1]; exact ok.pos⟩, ⟨by rw [Me.undo_len, hcs]; exact ok.len, by rw [hp4]; have := ok.pos; omega⟩⟩⟩
  have : ((S.discard (mk : Int)).undo (mk : Int)).pos = ((S.discard (mk : Int)).undo (mk : Int)).base + ((S.discard (mk : Int)).undo (mk : Int)).lg.length := rfl
  omega
theorem own : ownKnob Try.prog.godebug = none := by kernel_rfl
theorem laid : laidOutB Try.prog = true := by kernel_rfl

set_option maxRecDepth 100000 in
set_option maxHeartbeats 8000000 in
theorem walk (w : World) (s0 : Value) (Z0 : Nat → Int) (l0 : Nat) (H0 : IntsAt w s0 1 Z0 l0) (s1 : Value) (Z1 : Nat → Int) (l1 : Nat) (H1 : IntsAt w s1 1 Z1 l1) (a2 : Int) (w2 : (Lit.int .i64 a2).wf = true) :
    Calls Try.prog 9 #[s0, s1, .int .i64 a2] w fun e w' => e = .returned (.bool true) ∧ Below w.heap.size w w' := by
  have kb := Lib.hid (built_any s0 s1 Z0 Z1 l0 l1 w H0 H1)
  have hh := hist_ok Z0 l0 Z1 (min l1 30)
  have hl6 : (hist Z0 l0 Z1 (min l1 30)).cs.length = 6 := hh.1
  have hp30 : (hist Z0 l0 Z1 (min l1 30)).pos ≤ 30 := by have := hh.2; omega
  clear H0 H1 hh
  generalize hist Z0 l0 Z1 (min l1 30) = S at *
  have kl := Lib.hid (fun W => lives9_any W)
  have ok0 : Ok S := ⟨by omega, by omega⟩
  have hlg : S.lg.length ≤ S.pos := by unfold Me.pos; omega
  obtain ⟨b1, b2⟩ := i64_bd w2
  obtain ⟨r, hr⟩ : ∃ r : Nat, arnd a2 ((S.lg.length : Int) + 1) = (r : Int) := ⟨(arnd a2 ((S.lg.length : Int) + 1)).toNat, by have := arnd_bd a2 (m := (S.lg.length : Int) + 1) (by omega); omega⟩
  have hrl : r ≤ S.lg.length := by have := arnd_bd a2 (m := (S.lg.length : Int) + 1) (by omega); omega
  have ka := Lib.hid (fun W => around_any a2 ((S.lg.length : Int) + 1) W b1 b2 (by omega))
  rw [hr] at ka
  obtain ⟨mk, hmk⟩ : ∃ mk, mk = S.pos - r := ⟨_, rfl⟩
  obtain ⟨D, U, hD, hdc⟩ := disc_of (S := S) (mk := mk) (by unfold Me.pos at hmk; omega) (by omega) ok0
  have q1 : (S.pos : Int) - (r : Int) = (mk : Int) := by omega
  have q2 : (S.pos : Int) - (S.lg.length : Int) = (S.base : Int) := by unfold Me.pos; omega
  have q3 : (S.pos : Int) - (mk : Int) = (r : Int) := by omega
  have q4 : S.pos - mk = r := by omega
  have hmb : mk ≤ 30 := by omega
  have hbb : S.base ≤ 30 := by unfold Me.pos at hp30; omega
  have hlb : S.lg.length ≤ 30 := by omega
  have hdl := hdc.lg
  rw [q4] at hdl
  have hdl' := Lib.hid hdl
  have ok := Lib.hid ok0
  have hD' := Lib.hid hD
  have hd := Lib.hid hdc
  clear hr b1 b2 hl6 ok0 hlg hdl hD hdc hmk q4
  obtain ⟨ps, hps⟩ : ∃ ps, S.pos = ps := ⟨_, rfl⟩
  obtain ⟨lg, hlgl⟩ : ∃ lg, S.lg.length = lg := ⟨_, rfl⟩
  obtain ⟨bs, hbs⟩ : ∃ bs, S.base = bs := ⟨_, rfl⟩
  rw [hps] at q1 q2 q3 hp30
  rw [hlgl] at q2 hrl ka hlb
  rw [hbs] at q2 hbb
  have e2 := hd.out.e2
  have d2 := hd.out.d2
  have e3 := hd.out.e3
  have u3 := hd.out.u3
  rw [hbs] at e2 d2
  rw [hps] at e3 u3
  have hx := Lib.hid (And.intro e2 (And.intro d2 (And.intro e3 u3)))
  have hps' := Lib.hid hps
  have hlg' := Lib.hid hlgl
  clear hps hlgl hbs e2 d2 e3 u3
  go_enter Try.func9, Try.ntmps9
  go_wp2_with (first
    | (go_at_call 32; with_reducible refine kb.out.mono ?_; rintro e y1 ⟨b, O, rfl, hM, hF⟩; have hM1 := Lib.hid hM; have hF1 := Lib.hid hF; clear hM hF)
    | (go_at_call 22; with_reducible refine (hM1.out.all ok.out).mono ?_; rintro e y2 ⟨vw, rfl, hr, hb⟩; have hI2 := Lib.hid (own_il hr); have hne := Lib.hid (fun g hg => (fun hO => by have h1 := hM1.out.lt g hO; have h2 := (hr.lt g hg).1; omega : ¬ O g)); have hM2 := Lib.hid (hM1.out.carry hb); have hF2 := Lib.hid (hF1.out.step hb); clear hr hb)
    | (go_at_call 24; with_reducible refine (hM2.out.mark ok.out).mono ?_; rintro e y3 ⟨rfl, hb⟩; rw [hps'.out]; have hI3 := Lib.hid (hI2.out.carry hb); have hM3 := Lib.hid (hM2.out.carry hb); have hF3 := Lib.hid (hF2.out.step hb); clear hb)
    | (go_at_call 26; with_reducible refine (hM3.out.logged).mono ?_; rintro e y4 ⟨rfl, rfl⟩; rw [hlg'.out])
    | (go_at_call 33; with_reducible refine (ka.out _).mono ?_; rintro e y4 ⟨rfl, rfl⟩)
    | (go_at_call 37; with_reducible refine (hM3.out.discard ok.out (mk : Int)).mono ?_; rintro e y5 ⟨rfl, O5, hM, hm⟩; rw [hd.out.e0]; rw [hD'.out] at hM; have hM5 := Lib.hid hM; have hI5 := Lib.hid (hI3.out.moves hm hne.out); have hF5 := Lib.hid (hF3.out.moves hm); clear hM hm)
    | (go_at_call 22; with_reducible refine (hM5.out.all hd.out.okD).mono ?_; rintro e y6 ⟨v6, rfl, hr, hb⟩; rw [hd.out.cs] at hr; have hI6 := Lib.hid (own_il hr); have hW6 := Lib.hid (hI5.out.carry hb); have hM6 := Lib.hid (hM5.out.carry hb); have hF6 := Lib.hid (hF5.out.step hb); clear hr hb)
    | (go_at_call 21; with_reducible refine (sameI_any _ _ _ _ _ hI6.out hW6.out).mono ?_; rintro e y7 ⟨rfl, hb⟩; rw [same_self]; have hM7 := Lib.hid (hM6.out.carry hb); have hF7 := Lib.hid (hF6.out.step hb); clear hb)
    | (go_at_call 26; with_reducible refine (hM7.out.logged).mono ?_; rintro e y8 ⟨rfl, rfl⟩; rw [hdl'.out])
    | (go_at_call 35; with_reducible refine (hM7.out.changed hd.out.okD ((mk : Int) - 1)).mono ?_; rintro e y8 ⟨v8, rfl, hr, hb⟩; rw [hd.out.e1]; have hM8 := Lib.hid (hM7.out.carry hb); have hF8 := Lib.hid (hF7.out.step hb); clear hr hb)
    | (go_at_call 34; with_reducible refine (hM8.out.undo hd.out.okD ((mk : Int) - 1)).mono ?_; rintro e y9 ⟨rfl, O9, hM, hm⟩; rw [hd.out.e1]; rw [hd.out.u1] at hM; have hM9 := Lib.hid hM; have hF9 := Lib.hid (hF8.out.moves hm); clear hM hm)
    | (go_at_call 37; with_reducible refine (hM9.out.discard hd.out.okD ((bs : Int) - 1)).mono ?_; rintro e y10 ⟨rfl, O10, hM, hm⟩; rw [hx.out.1]; rw [hx.out.2.1] at hM; have hM10 := Lib.hid hM; have hF10 := Lib.hid (hF9.out.moves hm); clear hM hm)
    | (go_at_call 34; with_reducible refine (hM10.out.undo hd.out.okD ((ps : Int) + 1)).mono ?_; rintro e y11 ⟨rfl, O11, hM, hm⟩; rw [hx.out.2.2.1]; rw [hx.out.2.2.2] at hM; have hM11 := Lib.hid hM; have hF11 := Lib.hid (hF10.out.moves hm); clear hM hm)
    | (go_at_call 34; with_reducible refine (hM11.out.undo hd.out.okD (mk : Int)).mono ?_; rintro e y12 ⟨rfl, O12, hM, hm⟩; rw [hd.out.e4]; rw [hd.out.u4] at hM; have hM12 := Lib.hid hM; have hF12 := Lib.hid (hF11.out.moves hm); clear hM hm)
    | (go_at_call 26; with_reducible refine (hM12.out.logged).mono ?_; rintro e y13 ⟨rfl, rfl⟩; rw [hd.out.l4])
    | (go_at_call 24; with_reducible refine (hM12.out.mark hd.out.okU).mono ?_; rintro e y14 ⟨rfl, hb⟩; rw [hd.out.p4]; have hM14 := Lib.hid (hM12.out.carry hb); have hF14 := Lib.hid (hF12.out.step hb); clear hb)
    | (go_at_call 28; with_reducible refine (kl.out _).mono ?_; rintro e y15 ⟨rfl, hb⟩; have hB15 := Lib.hid (below_step hF14.out.below hb); clear hb))
  go_ret
  exact ⟨rfl, hB15.out⟩

set_option maxRecDepth 100000 in
theorem lifted (os : Os) (started : os.Started) (H : Type) (enc : TypeId × Value → H) :
    ReturnsInHanded {} Try.checked os 9 .any (Rows.cellmemDiscardSpec.pre6 enc Try.prog Try.f9 Rows.cellmemDiscardRow.domain false) (Rows.cellmemDiscardSpec.post enc Try.prog Try.f9 false true false false) := by
  refine returnsInHanded_of_change (C := Try.checked) own started (by kernel_rfl) Try.func9
    (ChangeSpec.witness6 (enc := enc) (C := Try.checked) false ⟨#[], #[.slice none 0 0, .slice none 0 0, .int .i64 0], []⟩ 8 (by kernel_rfl) (by kernel_rfl) (by kernel_rfl) (by kernel_rfl)) ?_
  intro W base args ds gs before hval0 hW hcnd _
  have hval : ∀ (j : Nat) t v, Try.f9.params[j]? = some t → args[j]? = some v → Value.okWide Try.prog W .any base t v := hval0
  have hW' := hW
  obtain ⟨p, q, hA0, hV, rfl, hfz, hnd⟩ := hW
  have hA : DataW.TrodAll enc Try.prog W 0 (fun _ => true) true Try.f9.params.toList args.toList ds p := hA0
  rw [Try.params9] at hA hval
  have hAk := hA
  obtain ⟨v0, vs0, d0, ds0, p0, q0, hargs, rfl, hp0, h0, r0⟩ := trodAll_cons hA
  obtain ⟨v1, vs1, d1, ds1, p1, q1, rfl, rfl, hp1, h1, r1⟩ := trodAll_cons r0
  obtain ⟨v2, vs2, d2, ds2, p2, q2, rfl, rfl, hp2, h2, r2⟩ := trodAll_cons r1
  obtain ⟨rfl, rfl, -⟩ := trodAll_nil r2
  obtain rfl : args = #[v0, v1, v2] := by cases args; simp_all
  obtain ⟨rfl, rfl⟩ := trodVars_none hV
  obtain ⟨x0, q0, c0, rfl⟩ := okWide_slice Try.underlying22 (hval 0 22 v0 rfl rfl)
  obtain ⟨fu0, fh0⟩ := h0
  obtain ⟨s0, Z0, l0, e0, H0⟩ := open_int_cells Try.underlying22 Try.underlying3 (by kernel_rfl) fh0
  simp only [Value.cells, List.cons.injEq, and_true] at e0
  obtain rfl := e0.symm
  obtain ⟨x1, q1, c1, rfl⟩ := okWide_slice Try.underlying22 (hval 1 22 v1 rfl rfl)
  obtain ⟨fu1, fh1⟩ := h1
  obtain ⟨s1, Z1, l1, e1, H1⟩ := open_int_cells Try.underlying22 Try.underlying3 (by kernel_rfl) fh1
  simp only [Value.cells, List.cons.injEq, and_true] at e1
  obtain rfl := e1.symm
  obtain ⟨a2, rfl, -, -, w2⟩ := open_int Try.underlying3 (hval 2 3 v2 rfl rfl) h2
  clear hA0 hval0
  simp only [List.append_nil] at hW'
  refine (walk W _ Z0 l0 H0 _ Z1 l1 H1 a2 w2).mono fun e W' ⟨he, hb⟩ => ?_
  subst he
  exact ⟨_, rfl, kept_post (pa := p) hW' (fun _ _ _ => (trodAll_cons_mk (shut_bool Try.underlying4 _) trodAll_mk0)) (fun sp hsp => trodAll_stays laid hb (by rw [Try.params9]; decide +kernel) hAk (fun x hx => hW'.lt x hx) hsp) (fun _ => rfl) hb (ok_one (by kernel_rfl) rfl (okWide_bool_mk Try.underlying4 _))⟩

theorem over : Rows.cellmemDiscardRow.holds Try.pinned (OpenSpec.ofChange Rows.cellmemDiscardSpec) :=
  OpenClaim.holds_of_wide 9 Try.f9 rfl rfl rfl rfl rfl rfl rfl ⟨rfl, rfl, rfl, rfl, rfl⟩ rfl rfl rfl rfl rfl (by kernel_rfl) Try.func9 (by kernel_rfl)
    (of_decide_eq_true (by kernel_rfl)) (by unfold Func.isWrapper; first | (rw [if_pos (by decide +kernel)]; kernel_rfl) | (rw [if_neg (by decide +kernel)]; exact ⟨rfl, rfl⟩))
    (fun os started H enc _ => lifted os started H enc)

theorem proved : Rows.CellmemDiscardSaid :=
  over
#print axioms proved
end Go.Proofs.Ytlpacihkmfgegaa.cellmemDiscard
