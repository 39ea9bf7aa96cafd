/-
  package unionfind, P8.2, P8.3: for a number of elements from 0 to 14 and up to 30 edges, made of any numbers, Groups returns new memory and Islands does not modify its argument, and the section's example holds; whatever the arguments are.
-/
import Derived.Test.YtalglkeabppabaaRows
import Derived.WalkKit
import Derived.ProofKit
import Derived.OpenShut
import Derived.Test.YtalglkeabppabaaOpen
import Derived.Test.YtalglkeabppabaaUfZ
import Derived.ChangeKeysEq
namespace Go.Proofs.Ytalglkeabppabaa.unionfindOwn
open Go.ChangeShapes Go.WideShapes Go.ChangeAt Go.RowKit
set_option linter.unusedVariables false
set_option linter.unusedSimpArgs false

open Uf
theorem infoInt : ∃ i, Try.prog.info? 3 = some i := by
  have : (Try.prog.info? 3).isSome = true := by kernel_rfl
  exact Option.isSome_iff_exists.1 this
theorem cellsInt : Try.prog.cellsOf 3 = 1 := by kernel_rfl
theorem part0 (a0 a1 : Int) (w : World) : (part 3 #[.int .i64 a0, .int .i64 a1] 0).run Try.prog w = .ok (.int .i64 a0) w := by kernel_rfl
theorem part1 (a0 a1 : Int) (w : World) : (part 3 #[.int .i64 a0, .int .i64 a1] 1).run Try.prog w = .ok (.int .i64 a1) w := by kernel_rfl
/-- == of two pairs. -/
theorem eqPr (a0 a1 b0 b1 : Int) (w : World) : (Op.equalIn 10000 31 (.agg #[.int .i64 a0, .int .i64 a1]) (.agg #[.int .i64 b0, .int .i64 b1])).run Try.prog w = .ok (a0 == b0 && a1 == b1) w := by
  obtain ⟨i, hi⟩ := infoInt
  rw [run_equalIn_array (i := i) (w := w) 9999 _ _ Try.underlying31 hi]
  rw [cellsInt, show List.range 2 = [0, 1] by rfl]
  simp only [Op.eqItems, Sem.run_bind, Nat.zero_mul, Nat.one_mul, part0, Result.andThen_ok, run_equalIn_int w 9998 3 .i64 .i64 _ _ Try.underlying3]
  cases h : (a0 == b0)
  · simp
  · simp only [Bool.not_true, Bool.false_eq_true, if_false, Bool.true_and, Sem.run_bind, part1, Result.andThen_ok, run_equalIn_int w 9998 3 .i64 .i64 _ _ Try.underlying3]
    cases h2 : (a1 == b1) <;> simp
theorem own : ownKnob Try.prog.godebug = none := by kernel_rfl
theorem laid : laidOutB Try.prog = true := by kernel_rfl

set_option maxRecDepth 100000 in
set_option maxHeartbeats 8000000 in
theorem walk (w : World) (a0 : Int) (w0 : (Lit.int .i64 a0).wf = true) (s1 : Value) (Z1 : Nat → Int) (l1 : Nat) (H1 : IntsAt w s1 1 Z1 l1) :
    Calls Try.prog 10 #[.int .i64 a0, s1] w fun e w' => e = .returned (.bool true) ∧ Below w.heap.size w w' := by
  have H1' := Lib.hid H1
  clear H1
  have hk := sz_le a0
  obtain ⟨k, hkk⟩ : ∃ k, k = sz a0 := ⟨_, rfl⟩
  have kz := Lib.hid (fun W => size8_any a0 W w0)
  rw [← hkk] at hk kz
  clear hkk
  obtain ⟨E, hEE⟩ : ∃ E, E = edgesL Z1 l1 := ⟨_, rfl⟩
  have hE0 : E.length ≤ 30 := by rw [hEE, edgesL_len]; omega
  have ke := Lib.hid (fun W (h : IntsAt W s1 1 Z1 l1) => edges_any s1 Z1 l1 W h)
  rw [← hEE] at ke
  clear hEE
  obtain ⟨m, hm⟩ : ∃ m, m = E.length := ⟨_, rfl⟩
  rw [← hm] at hE0
  have hm' := Lib.hid hm
  have hl1 := Lib.hid (show E.length ≤ 10000 from by rw [← hm]; omega)
  clear hm
  go_enter Try.func10, Try.ntmps10
  go_wp2_with (first
    | (go_at_call 11; with_reducible refine (kz.out _).mono ?_; rintro e u1 ⟨rfl, rfl⟩)
    | (go_at_call 14; with_reducible refine (ke.out _ H1'.out).mono ?_; rintro e u1 ⟨v1, rfl, hP, _, hb1⟩; obtain ⟨ea, ecap, rfl, e1, e2, e3⟩ := hP.shape; rw [← hm'.out] at e1 e3 hP ⊢; have hP' := Lib.hid hP; have hb1' := Lib.hid hb1; have e3' := Lib.hid e3; clear hP hb1 e3)
    | (go_at_call 25; with_reducible refine (merged_any k _ E u1 hP'.out (by omega) hl1.out).mono ?_; rintro e u2 ⟨b, g, rfl, hS, hbb, hgg, hb2⟩; have hS' := Lib.hid hS; have hb2' := Lib.hid hb2; clear hS hb2)
    | (go_at_call 20; with_reducible refine (groups_any b g k _ u2 hS'.out (by omega)).mono ?_; rintro e u3 ⟨v3, rfl, hG, hS3, hg3⟩; obtain ⟨ga, gcap, rfl, g1, g2, g3⟩ := hG.gw; simp only [List.length_map] at g1 g3 ⊢; have hS3' := Lib.hid hS3; have hg3' := Lib.hid hg3; have g3' := Lib.hid g3; clear hG hS3 hg3 g3))
  obtain ⟨M, hM⟩ : ∃ M, M = (grps k (playF k idL E)).length := ⟨_, rfl⟩
  rw [← hM] at g1 g3' ⊢
  clear hM
  unfold maxLen at g2
  have hu12 := hb2'.out.size
  have hu23 := hg3'.out.size
  go_loopw [9, 10] (fun i _ wr => ∃ t : Nat, t ≤ M ∧ i = .int .i64 (t : Nat) ∧ (0 < M → ∀ o, ga = some ⟨o, 0, none⟩ → GW u2.heap.size wr o M) ∧ Below u2.heap.size u3 wr) (fun i _ _ => M - (intOf i).toNat)
  case atStart => exact ⟨0, Nat.zero_le _, rfl, fun h0 o ho => by
    obtain ⟨o', e, h⟩ := g3'.out h0
    rw [e] at ho
    cases ho
    exact h, Below.refl _ _⟩
  case round =>
    obtain ⟨t, ht, rfl, hGW, hB⟩ := hrel
    obtain ⟨W0, hW0⟩ : ∃ V, V = wr := ⟨wr, rfl⟩
    subst hW0
    have hB' := Lib.hid hB
    clear hB
    by_cases hlt : t < M
    · obtain ⟨o, rfl, _⟩ := g3'.out (by omega)
      have hGo := Lib.hid (hGW (by omega) o rfl)
      clear hGW
      obtain ⟨rb, rn, rc, c0, hrn, _⟩ := hGo.out.2 t hlt
      unfold maxLen at hrn
      go_wp2_with fail
      go_loopw [10] (fun j wr => ∃ q : Nat, q ≤ rn ∧ j = .int .i64 (q : Nat) ∧ GW u2.heap.size wr o M ∧ wr.cell? ⟨o, t, none⟩ = some (.slice rb rn rc) ∧ Below u2.heap.size u3 wr) (fun j _ => rn - (intOf j).toNat)
      case atStart => exact ⟨0, Nat.zero_le _, rfl, hGo.out, c0, hB'.out⟩
      case round =>
        obtain ⟨q, hq, rfl, hG, c1, hB⟩ := hrel
        obtain ⟨W1, hW1⟩ : ∃ V, V = wr := ⟨wr, rfl⟩
        subst hW1
        have hG' := Lib.hid hG
        have hB2 := Lib.hid hB
        clear hG hB c0
        by_cases hlt2 : q < rn
        · obtain ⟨b', n', c', c2, _, h3⟩ := hG'.out.2 t hlt
          rw [c1] at c2
          obtain ⟨rfl, rfl, rfl⟩ : rb = b' ∧ rn = n' ∧ rc = c' := by simpa using c2
          obtain ⟨h, rfl, hhB, hne, hW⟩ := h3 (by omega)
          obtain ⟨z, cz, fz⟩ := hW.cell hlt2
          clear c2 hW h3
          have hset := Lib.hid (hG'.out.set hne q (-7))
          have hcell := Lib.hid (show (W1.setCell ⟨h, q, none⟩ (.int .i64 (-7))).cell? ⟨o, t, none⟩ = some (.slice (some ⟨h, 0, none⟩) rn rc) from (World.cell?_of_block (w := W1) (Below.heap_setCell _ _ _ _ (fun e => hne e.symm))).trans c1)
          have hB3 := Lib.hid (hB2.out.setCell (p := ⟨h, q, none⟩) hhB (.int .i64 (-7)))
          go_wp2_with fail
          go_roundw
          case rel => exact ⟨q + 1, by omega, by go_num, hset.out, hcell.out, hB3.out⟩
          case measure => simp [intOf]; omega
        · obtain rfl : q = rn := by omega
          go_wp2_with fail
          go_roundw
          case rel => exact ⟨t + 1, by omega, by go_num, fun _ o' e => by cases e; exact hG'.out, hB2.out⟩
          case measure => simp [intOf]; omega
    · obtain rfl : t = M := by omega
      clear hGW
      have hlt3 := hS'.out.lt
      have hS4 := Lib.hid (hS3'.out.low hB'.out hlt3.1 hlt3.2.1)
      have hbE := Lib.hid ((hb2'.out.grown hg3'.out hu12 (fun j hj => by cases hj; exact hgg)).trans (hB'.out.mono hu12))
      have hP4 := Lib.hid (hP'.out.carry hbE.out)
      have hI4 := Lib.hid (H1'.out.carry (below_step hb1'.out hbE.out))
      have hw4 := Lib.hid (below_step hb1'.out hbE.out)
      have hgW := hS4.out.lt
      clear hS3' hg3' g3' hP' hlt3 hB'
      go_wp2_with (first
        | (go_at_call 23; with_reducible refine (islands_any k _ E W0 hP4.out (by omega) hl1.out).mono ?_; rintro e y1 ⟨v4, rfl, hR, hb4⟩; have hR' := Lib.hid hR; have hb4' := Lib.hid hb4; clear hR hb4)
        | (go_at_call 14; with_reducible refine (ke.out y1 (hI4.out.carry hb4'.out)).mono ?_; rintro e y2 ⟨v5, rfl, hQ, _, hb5⟩; obtain ⟨fa, fcap, rfl, f1, f2, f3⟩ := hQ.shape; simp only [← hm'.out] at f1 f3 ⊢; have f3' := Lib.hid f3; have hb5' := Lib.hid hb5; clear hQ hb5 f3))
      have hbY := Lib.hid (below_step hb4'.out hb5'.out)
      have hR2 := Lib.hid (hR'.out.carry hb5'.out)
      have hP5 := Lib.hid (hP4.out.carry hbY.out)
      have hS5 := Lib.hid (hS4.out.carry hbY.out)
      have hw5 := Lib.hid (below_step hw4.out hbY.out)
      have hsY := hbY.out.size
      clear hP4 hI4 hR' hS4 hw4
      go_loopw [13] (fun i wr => ∃ t : Nat, t ≤ m ∧ i = .int .i64 (t : Nat) ∧ Below y2.heap.size y2 wr) (fun i _ => m - (intOf i).toNat)
      case atStart => exact ⟨0, Nat.zero_le _, rfl, Below.refl _ _⟩
      case round =>
        obtain ⟨t, ht, rfl, hB⟩ := hrel
        obtain ⟨W1, hW1⟩ : ∃ V, V = wr := ⟨wr, rfl⟩
        subst hW1
        have hB' := Lib.hid hB
        clear hB
        by_cases hlt : t < m
        · obtain ⟨g2, off, rfl, hg2, hcc⟩ := e3'.out (by omega)
          obtain ⟨g4, off4, rfl, hg4, hdd⟩ := f3'.out (by omega)
          obtain ⟨p, hp⟩ : ∃ p, E[t]? = some p := ⟨_, List.getElem?_eq_getElem (by rw [← hm'.out]; omega)⟩
          obtain ⟨c0, c1⟩ := hcc t p hp
          obtain ⟨d0, d1⟩ := hdd t p hp
          replace c0 := carry hB'.out (carry hbY.out (carry hbE.out c0))
          replace c1 := carry hB'.out (carry hbY.out (carry hbE.out c1))
          replace d0 := carry hB'.out d0
          replace d1 := carry hB'.out d1
          obtain ⟨x, y⟩ := p
          simp only at c0 c1 d0 d1
          clear hp hcc hdd
          have i1 : (0 : Int) ≤ (t : Int) := by omega
          have i2 : (t : Int) < (m : Int) := by omega
          have heq : ∀ W, Sem.run Try.prog (Op.equalIn 10000 31 (.agg #[.int .i64 x, .int .i64 y]) (.agg #[.int .i64 x, .int .i64 y])) W = .ok true W := fun W => by rw [eqPr]; simp
          go_wp2_with fail
          go_quiet (fail)
          go_wp2_with fail
          go_roundw
          case rel => exact ⟨t + 1, by omega, by go_num, below_step hB'.out (below_drewN _ _)⟩
          case measure => simp [intOf]; omega
        · obtain rfl : t = m := by omega
          have hS6 := Lib.hid (hS5.out.carry hB'.out)
          have hR3 := Lib.hid (hR2.out.carry hB'.out)
          have hw6 := Lib.hid (below_step hw5.out hB'.out)
          have hs6 := hB'.out.size
          go_wp2_with (first
            | (go_at_call 20; with_reducible refine (groups_any b g k _ W1 hS6.out (by omega)).mono ?_; rintro e y3 ⟨v6, rfl, hG, hS7, hg7⟩; have hG6 := Lib.hid hG.gl; have hR4 := Lib.hid (hR3.out.grown hg7 (fun j hj => by cases hj; exact hgW.2.1)).gl; have hw7 := Lib.hid (hw6.out.grown hg7 hw6.out.size (fun j hj => by cases hj; exact Nat.le_trans hb1'.out.size hgg)); clear hG hS7 hg7)
            | (go_at_call 19; with_reducible refine (equalG_any v6 v4 _ _ y3 hG6.out hR4.out).mono ?_; rintro e y4 ⟨rfl, hb8⟩; rw [decide_eq_true (show (grps k (playF k idL E)).map natI = (isl k E).map natI from rfl)]; have hw8 := Lib.hid (below_step hw7.out hb8); clear hb8)
            | (go_at_call 22; with_reducible refine (lives8_any y4).mono ?_; rintro e y5 ⟨rfl, hb9⟩; have hw9 := Lib.hid (below_step hw8.out hb9); clear hb9))
          go_ret
          exact ⟨rfl, hw9.out⟩

set_option maxRecDepth 100000 in
theorem lifted (os : Os) (started : os.Started) (H : Type) (enc : TypeId × Value → H) :
    ReturnsInHanded {} Try.checked os 10 .any (Rows.unionfindOwnSpec.pre6 enc Try.prog Try.f10 Rows.unionfindOwnRow.domain false) (Rows.unionfindOwnSpec.post enc Try.prog Try.f10 false true false false) := by
  refine returnsInHanded_of_change (C := Try.checked) own started (by kernel_rfl) Try.func10
    (ChangeSpec.witness6 (enc := enc) (C := Try.checked) false ⟨#[], #[.int .i64 0, .slice none 0 0], []⟩ 8 (by kernel_rfl) (by kernel_rfl) (by kernel_rfl) (by kernel_rfl)) ?_
  intro W base args ds gs before hval0 hW hcnd _
  have hval : ∀ (j : Nat) t v, Try.f10.params[j]? = some t → args[j]? = some v → Value.okWide Try.prog W .any base t v := hval0
  have hW' := hW
  obtain ⟨p, q, hA0, hV, rfl, hfz, hnd⟩ := hW
  have hA : DataW.TrodAll enc Try.prog W 0 (fun _ => true) true Try.f10.params.toList args.toList ds p := hA0
  rw [Try.params10] at hA hval
  have hAk := hA
  obtain ⟨v0, vs0, d0, ds0, p0, q0, hargs, rfl, hp0, h0, r0⟩ := trodAll_cons hA
  obtain ⟨v1, vs1, d1, ds1, p1, q1, rfl, rfl, hp1, h1, r1⟩ := trodAll_cons r0
  obtain ⟨rfl, rfl, -⟩ := trodAll_nil r1
  obtain rfl : args = #[v0, v1] := by cases args; simp_all
  obtain ⟨rfl, rfl⟩ := trodVars_none hV
  obtain ⟨a0, rfl, -, -, w0⟩ := open_int Try.underlying3 (hval 0 3 v0 rfl rfl) h0
  obtain ⟨x1, q1, c1, rfl⟩ := okWide_slice Try.underlying22 (hval 1 22 v1 rfl rfl)
  obtain ⟨fu1, fh1⟩ := h1
  obtain ⟨s1, Z1, l1, e1, H1⟩ := open_int_cells Try.underlying22 Try.underlying3 (by kernel_rfl) fh1
  simp only [Value.cells, List.cons.injEq, and_true] at e1
  obtain rfl := e1.symm
  clear hA0 hval0
  simp only [List.append_nil] at hW'
  refine (walk W a0 w0 _ Z1 l1 H1).mono fun e W' ⟨he, hb⟩ => ?_
  subst he
  exact ⟨_, rfl, kept_post (pa := p) hW' (fun _ _ _ => (trodAll_cons_mk (shut_bool Try.underlying4 _) trodAll_mk0)) (fun sp hsp => trodAll_stays laid hb (by rw [Try.params10]; decide +kernel) hAk (fun x hx => hW'.lt x hx) hsp) (fun _ => rfl) hb (ok_one (by kernel_rfl) rfl (okWide_bool_mk Try.underlying4 _))⟩

theorem over : Rows.unionfindOwnRow.holds Try.pinned (OpenSpec.ofChange Rows.unionfindOwnSpec) :=
  OpenClaim.holds_of_wide 10 Try.f10 rfl rfl rfl rfl rfl rfl rfl ⟨rfl, rfl, rfl, rfl, rfl⟩ rfl rfl rfl rfl rfl (by kernel_rfl) Try.func10 (by kernel_rfl)
    (of_decide_eq_true (by kernel_rfl)) (by unfold Func.isWrapper; first | (rw [if_pos (by decide +kernel)]; kernel_rfl) | (rw [if_neg (by decide +kernel)]; exact ⟨rfl, rfl⟩))
    (fun os started H enc _ => lifted os started H enc)

theorem proved : Rows.UnionfindOwnSaid :=
  over
#print axioms proved
end Go.Proofs.Ytalglkeabppabaa.unionfindOwn
