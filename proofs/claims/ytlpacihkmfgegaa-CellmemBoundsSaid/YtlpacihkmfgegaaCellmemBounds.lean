/-
  package cellmem, P9.1: for every memory of up to eight cells and every index, Get returns the stored value or 0, Set of an index outside the memory changes nothing, not even the log position, and the section's example holds; whatever the arguments are.
-/
import Derived.Test.YtlpacihkmfgegaaRows
import Derived.WalkKit
import Derived.ProofKit
import Derived.OpenShut
import Derived.Test.YtlpacihkmfgegaaOpen
import Derived.Test.YtlpacihkmfgegaaCmJ
import Derived.Test.YtlpacihkmfgegaaOpenB
namespace Go.Proofs.Ytlpacihkmfgegaa.cellmemBounds
open Go.ChangeShapes Go.WideShapes Go.ChangeAt Go.RowKit
set_option linter.unusedVariables false
set_option linter.unusedSimpArgs false

open Cm
theorem new_set_in {L : List Int} {i v : Int} (h : cin L.length i = true) : ((Me.new L).set i v).get i = v ∧ ((Me.new L).set i v).pos = 1 := by
  rw [Me.set_in h]
  have hi := cin_iff.1 h
  constructor
  · have h2 : cin (L.set i.toNat v).length i = true := by rw [List.length_set]; exact h
    unfold Me.get
    show (if cin (L.set i.toNat v).length i = true then (L.set i.toNat v).getD i.toNat 0 else 0) = v
    rw [if_pos h2]
    have h3 : i.toNat < L.length := by omega
    simp [List.getD, h3]
  · rfl
theorem own : ownKnob Try.prog.godebug = none := by kernel_rfl
theorem laid : laidOutB Try.prog = true := by kernel_rfl

set_option maxRecDepth 100000 in
set_option maxHeartbeats 8000000 in
theorem walk (w : World) (s0 : Value) (Z0 : Nat → Int) (l0 : Nat) (H0 : IntsAt w s0 1 Z0 l0) (N0 : ∀ n c, s0 = .slice none n c → s0 = .slice none 0 0) (a1 : Int) (w1 : (Lit.int .i64 a1).wf = true) (a2 : Int) (w2 : (Lit.int .i64 a2).wf = true) :
    Calls Try.prog 4 #[s0, .int .i64 a1, .int .i64 a2] w fun e w' => e = .returned (.bool true) ∧ Below w.heap.size w w' := by
  have ki := Lib.hid (ints8_any s0 Z0 l0 w H0 N0)
  have hl8 : (few Z0 l0).length ≤ 8 := by rw [few_len]; omega
  clear H0 N0
  generalize few Z0 l0 = L at *
  have kl := Lib.hid (fun W => lives9_any W)
  have o0 : Ok (Me.new L) := ⟨by show L.length ≤ 10000; omega, Nat.zero_le _⟩
  have o1 := (Ok.set 0 (by omega) o0.len (Nat.le_refl _) a1 a2).1
  have hcl : ((Me.new L).set a1 a2).cs.length = L.length := Me.set_len _ _ _
  have oo := Lib.hid (And.intro o0 o1)
  have hnew : (Me.new L).cs = L := rfl
  cases hc : cin L.length a1 with
  | false =>
    have hy := Lib.hid (show (Me.new L).set a1 a2 = Me.new L from Me.set_out hc a2)
    have hg := Lib.hid (show (Me.new L).get a1 = 0 from by unfold Me.get; rw [hnew, hc]; rfl)
    have hp := Lib.hid (show (Me.new L).pos = 0 from rfl)
    have hdec := Lib.hid (show decide ((Me.new L).cs = L) = true from decide_eq_true hnew)
    have hnot : ¬ (0 ≤ a1 ∧ a1 < (L.length : Int)) := fun h => by rw [cin_iff.2 h] at hc; cases hc
    generalize hn : L.length = n at *
    have hn' := Lib.hid hn
    have hcl' := Lib.hid (show (Me.new L).cs.length = n from hn)
    clear hn hcl o0 o1 hnew hc
    have key : (decide (0 ≤ a1) = true ∧ decide (a1 < (n : Int)) = false) ∨ (decide (0 ≤ a1) = false ∧ decide (0 ≤ a1) = false) := by
      by_cases h : 0 ≤ a1
      · exact .inl ⟨decide_eq_true h, decide_eq_false (fun h2 => hnot ⟨h, h2⟩)⟩
      · exact .inr ⟨decide_eq_false h, decide_eq_false h⟩
    clear hnot
    rcases key with ⟨d1, d2⟩ | ⟨d1, d2⟩
    all_goals
      go_enter Try.func4, Try.ntmps4
      go_wp2_with (first
        | (go_at_call 29; with_reducible refine ki.out.mono ?_; rintro e u1 ⟨⟨v, rfl, hr⟩, hb⟩; obtain ⟨fa, fn, fc, rfl⟩ := own_shape hr; obtain ⟨a9, c9, e9, _⟩ := (SRow.owned hr).shape (by decide); simp only [Value.slice.injEq] at e9; obtain ⟨rfl, rfl, rfl⟩ := e9; have hr1 := Lib.hid (own_il hr); have hb1 := Lib.hid hb; clear hr hb)
        | (go_at_call 12; with_reducible refine (cmNew_any _ L u1 hr1.out (by rw [hn'.out]; omega)).mono ?_; rintro e u2 ⟨b, O, rfl, hM, hO, hb⟩; have hM2 := Lib.hid hM; have hF2 := Lib.hid (Fresh.mk hb hO); clear hM hO hb)
        | (go_at_call 30; with_reducible refine (hM2.out.get oo.out.1 a1).mono ?_; rintro e u3 ⟨rfl, rfl⟩; rw [hg.out])
        | (go_at_call 31; with_reducible refine (hM2.out.set oo.out.1 a1 a2).mono ?_; rintro e u3 ⟨rfl, O3, hM, hm⟩; rw [hy.out] at hM; have hM3 := Lib.hid hM; have hF3 := Lib.hid (hF2.out.moves hm); clear hM hm)
        | (go_at_call 27; with_reducible refine (hM3.out.len).mono ?_; rintro e u4 ⟨rfl, rfl⟩; rw [hcl'.out])
        | (go_at_call 24; with_reducible refine (hM3.out.mark oo.out.1).mono ?_; rintro e u4 ⟨rfl, hb⟩; rw [hp.out]; have hM4 := Lib.hid (hM3.out.carry hb); have hF4 := Lib.hid (hF3.out.step hb); clear hb)
        | (go_at_call 24; with_reducible refine (hM4.out.mark oo.out.1).mono ?_; rintro e u5 ⟨rfl, hb⟩; rw [hp.out]; have hM5 := Lib.hid (hM4.out.carry hb); have hF5 := Lib.hid (hF4.out.step hb); clear hb)
        | (go_at_call 22; with_reducible refine (hM5.out.all oo.out.1).mono ?_; rintro e u6 ⟨v, rfl, hr, hb⟩; have hr6 := Lib.hid (own_il hr); have hM6 := Lib.hid (hM5.out.carry hb); have hF6 := Lib.hid (hF5.out.step hb); clear hr hb)
        | (go_at_call 21; with_reducible refine (sameI_any _ _ _ _ _ hr6.out (hr1.out.carry hF6.out.below)).mono ?_; rintro e u7 ⟨rfl, hb⟩; rw [hdec.out]; have hM7 := Lib.hid (hM6.out.carry hb); have hF7 := Lib.hid (hF6.out.step hb); clear hb)
        | (go_at_call 30; with_reducible refine (hM7.out.get oo.out.1 a1).mono ?_; rintro e u8 ⟨rfl, rfl⟩; rw [hg.out])
        | (go_at_call 28; with_reducible refine (kl.out u7).mono ?_; rintro e u9 ⟨rfl, hb⟩; have hB9 := Lib.hid (below_step (below_step hb1.out hF7.out.below) hb); clear hb))
      go_ret
      exact ⟨rfl, hB9.out⟩
  | true =>
    have hi := cin_iff.1 hc
    obtain ⟨q1, q2⟩ := new_set_in (v := a2) hc
    obtain ⟨j, rfl⟩ : ∃ j : Nat, a1 = (j : Int) := ⟨a1.toNat, by omega⟩
    have hj : j < L.length := by omega
    obtain ⟨x, hx⟩ : ∃ x, L[j]? = some x := ⟨_, List.getElem?_eq_getElem hj⟩
    have hg := Lib.hid (show (Me.new L).get (j : Int) = x from by unfold Me.get; rw [hnew, hc]; simp [List.getD, hx])
    have hq := Lib.hid (And.intro q1 q2)
    have hx' := Lib.hid hx
    clear q1 q2 hx
    generalize hn : L.length = n at *
    have hn' := Lib.hid hn
    have hcl' := Lib.hid hcl
    clear hn hcl o0 o1 hnew hc
    have d1 : decide ((0 : Int) ≤ (j : Int)) = true := decide_eq_true hi.1
    have d2 : decide ((j : Int) < (n : Int)) = true := decide_eq_true hi.2
    go_enter Try.func4, Try.ntmps4
    go_wp2_with (first
      | (go_at_call 29; with_reducible refine ki.out.mono ?_; rintro e u1 ⟨⟨v, rfl, hr⟩, hb⟩; obtain ⟨fa, fn, fc, rfl⟩ := own_shape hr; obtain ⟨a9, c9, e9, hcc, _, _, h9⟩ := (SRow.owned hr).shape (by decide); simp only [Value.slice.injEq] at e9; obtain ⟨rfl, rfl, rfl⟩ := e9; obtain ⟨fg, fo, rfl, _, hce⟩ := h9 (by omega); have hr1 := Lib.hid (own_il hr); have hb1 := Lib.hid hb; have c1 := (hce j _ (ints_at hx'.out)).1; clear hr hb hce h9)
      | (go_at_call 12; with_reducible refine (cmNew_any _ L u1 hr1.out (by rw [hn'.out]; omega)).mono ?_; rintro e u2 ⟨b, O, rfl, hM, hO, hb⟩; have c2 := carry hb c1; have hM2 := Lib.hid hM; have hF2 := Lib.hid (Fresh.mk hb hO); clear hM hO hb c1)
      | (go_at_call 30; with_reducible refine (hM2.out.get oo.out.1 (j : Int)).mono ?_; rintro e u3 ⟨rfl, rfl⟩; rw [hg.out])
      | (go_at_call 31; with_reducible refine (hM2.out.set oo.out.1 (j : Int) a2).mono ?_; rintro e u3 ⟨rfl, O3, hM, hm⟩; have hM3 := Lib.hid hM; have hF3 := Lib.hid (hF2.out.moves hm); clear hM hm)
      | (go_at_call 27; with_reducible refine (hM3.out.len).mono ?_; rintro e u4 ⟨rfl, rfl⟩; rw [hcl'.out])
      | (go_at_call 24; with_reducible refine (hM3.out.mark oo.out.2).mono ?_; rintro e u4 ⟨rfl, hb⟩; rw [hq.out.2]; have hM4 := Lib.hid (hM3.out.carry hb); have hF4 := Lib.hid (hF3.out.step hb); clear hb)
      | (go_at_call 24; with_reducible refine (hM4.out.mark oo.out.2).mono ?_; rintro e u5 ⟨rfl, hb⟩; rw [hq.out.2]; have hM5 := Lib.hid (hM4.out.carry hb); have hF5 := Lib.hid (hF4.out.step hb); clear hb)
      | (go_at_call 30; with_reducible refine (hM5.out.get oo.out.2 (j : Int)).mono ?_; rintro e u6 ⟨rfl, rfl⟩; rw [hq.out.1])
      | (go_at_call 28; with_reducible refine (kl.out u5).mono ?_; rintro e u9 ⟨rfl, hb⟩; have hB9 := Lib.hid (below_step (below_step hb1.out hF5.out.below) hb); clear hb))
    go_ret
    exact ⟨rfl, hB9.out⟩

set_option maxRecDepth 100000 in
theorem lifted (os : Os) (started : os.Started) (H : Type) (enc : TypeId × Value → H) :
    ReturnsInHanded {} Try.checked os 4 .any (Rows.cellmemBoundsSpec.pre6 enc Try.prog Try.f4 Rows.cellmemBoundsRow.domain false) (Rows.cellmemBoundsSpec.post enc Try.prog Try.f4 false true false false) := by
  refine returnsInHanded_of_change (C := Try.checked) own started (by kernel_rfl) Try.func4
    (ChangeSpec.witness6 (enc := enc) (C := Try.checked) false ⟨#[], #[.slice none 0 0, .int .i64 0, .int .i64 0], []⟩ 8 (by kernel_rfl) (by kernel_rfl) (by kernel_rfl) (by kernel_rfl)) ?_
  intro W base args ds gs before hval0 hW hcnd _
  have hval : ∀ (j : Nat) t v, Try.f4.params[j]? = some t → args[j]? = some v → Value.okWide Try.prog W .any base t v := hval0
  have hW' := hW
  obtain ⟨p, q, hA0, hV, rfl, hfz, hnd⟩ := hW
  have hA : DataW.TrodAll enc Try.prog W 0 (fun _ => true) true Try.f4.params.toList args.toList ds p := hA0
  rw [Try.params4] at hA hval
  have hAk := hA
  obtain ⟨v0, vs0, d0, ds0, p0, q0, hargs, rfl, hp0, h0, r0⟩ := trodAll_cons hA
  obtain ⟨v1, vs1, d1, ds1, p1, q1, rfl, rfl, hp1, h1, r1⟩ := trodAll_cons r0
  obtain ⟨v2, vs2, d2, ds2, p2, q2, rfl, rfl, hp2, h2, r2⟩ := trodAll_cons r1
  obtain ⟨rfl, rfl, -⟩ := trodAll_nil r2
  obtain rfl : args = #[v0, v1, v2] := by cases args; simp_all
  obtain ⟨rfl, rfl⟩ := trodVars_none hV
  obtain ⟨x0, q0, c0, rfl⟩ := okWide_slice Try.underlying22 (hval 0 22 v0 rfl rfl)
  obtain ⟨fu0, fh0⟩ := h0
  obtain ⟨s0, Z0, l0, e0, H0, N0⟩ := open_int_cells2 Try.underlying22 Try.underlying3 (by kernel_rfl) fh0
  simp only [Value.cells, List.cons.injEq, and_true] at e0
  obtain rfl := e0.symm
  obtain ⟨a1, rfl, -, -, w1⟩ := open_int Try.underlying3 (hval 1 3 v1 rfl rfl) h1
  obtain ⟨a2, rfl, -, -, w2⟩ := open_int Try.underlying3 (hval 2 3 v2 rfl rfl) h2
  clear hA0 hval0
  simp only [List.append_nil] at hW'
  refine (walk W _ Z0 l0 H0 N0 a1 w1 a2 w2).mono fun e W' ⟨he, hb⟩ => ?_
  subst he
  exact ⟨_, rfl, kept_post (pa := p) hW' (fun _ _ _ => (trodAll_cons_mk (shut_bool Try.underlying4 _) trodAll_mk0)) (fun sp hsp => trodAll_stays laid hb (by rw [Try.params4]; decide +kernel) hAk (fun x hx => hW'.lt x hx) hsp) (fun _ => rfl) hb (ok_one (by kernel_rfl) rfl (okWide_bool_mk Try.underlying4 _))⟩

theorem over : Rows.cellmemBoundsRow.holds Try.pinned (OpenSpec.ofChange Rows.cellmemBoundsSpec) :=
  OpenClaim.holds_of_wide 4 Try.f4 rfl rfl rfl rfl rfl rfl rfl ⟨rfl, rfl, rfl, rfl, rfl⟩ rfl rfl rfl rfl rfl (by kernel_rfl) Try.func4 (by kernel_rfl)
    (of_decide_eq_true (by kernel_rfl)) (by unfold Func.isWrapper; first | (rw [if_pos (by decide +kernel)]; kernel_rfl) | (rw [if_neg (by decide +kernel)]; exact ⟨rfl, rfl⟩))
    (fun os started H enc _ => lifted os started H enc)

theorem proved : Rows.CellmemBoundsSaid :=
  over
#print axioms proved
end Go.Proofs.Ytlpacihkmfgegaa.cellmemBounds
