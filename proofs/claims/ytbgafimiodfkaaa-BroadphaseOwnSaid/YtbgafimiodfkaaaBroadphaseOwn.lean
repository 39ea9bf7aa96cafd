/-
  package broadphase, P4.2: for up to twenty boxes on a small grid made of any numbers, Pairs leaves its argument as it was and hands back memory of its own: writing over the result changes nothing of what a second call answers, which is what the reference answers; and the section's examples hold; whatever the arguments are.
-/
import Derived.Test.YtbgafimiodfkaaaRows
import Derived.WalkKit
import Derived.ProofKit
import Derived.OpenShut
import Derived.Test.YtbgafimiodfkaaaOpen
import Derived.Test.YtbgafimiodfkaaaBroadK
import Derived.Laws.AppendOwnNone
namespace Go.Proofs.Ytbgafimiodfkaaa.broadphaseOwn
open Go.ChangeShapes Go.WideShapes Go.ChangeAt Go.RowKit
set_option linter.unusedVariables false
set_option linter.unusedSimpArgs false

open Bo
theorem row_news {w : World} {g off cap : Nat} {bs : List Bx} (h : RowK Bx.cells w g off cap bs) : ∀ j u, (bs.flatMap Bx.cells)[j]? = some u → w.cell? ((⟨g, off, none⟩ : Addr).add j) = some u := fun j u hu => by
  rw [add_plain]; exact h.cells j u hu
theorem owned_some {w : World} {base : Nat} {v : Value} {bs : List Bx} (h : w.ownsRow base 23 4 v bs.length (bs.flatMap Bx.cells)) (hne : v ≠ .slice none 0 0) : ∃ g cap, v = .slice (some ⟨g, 0, none⟩) bs.length cap ∧ RowK Bx.cells w g 0 cap bs := by
  rcases owned_row h with ⟨e, _⟩ | ⟨g, cap, e, _, _, hR, _⟩
  · exact absurd e hne
  · exact ⟨g, cap, e, hR⟩
/-- A row that may be written: its cells are there, and none is frozen. -/
def Writable (w : World) (g n : Nat) : Prop := ∀ i, i < n * 2 → (∃ u, w.cell? ⟨g, i, none⟩ = some u) ∧ w.frozen? ⟨g, i, none⟩ = false
theorem Writable.set {w : World} {g n k : Nat} (h : Writable w g n) (hk : k < n) (x y : Value) : Writable ((w.setCell ⟨g, k * 2, none⟩ x).setCell ⟨g, k * 2 + 1, none⟩ y) g n := fun i hi => by
  obtain ⟨⟨u, hu⟩, hf⟩ := h i hi
  obtain ⟨⟨u1, h1⟩, _⟩ := h (k * 2) (by omega)
  obtain ⟨⟨u2, h2⟩, _⟩ := h (k * 2 + 1) (by omega)
  refine ⟨?_, by simp [go_sem, hf]⟩
  obtain ⟨v1, hv1⟩ : ∃ v, (w.setCell ⟨g, k * 2, none⟩ x).cell? ⟨g, i, none⟩ = some v := by
    obtain ⟨v, hv⟩ := cell?_setCell_some (w := w) (p := ⟨g, k * 2, none⟩) (x := x) (q := ⟨g, i, none⟩) (v := u) hu
    exact ⟨v, hv⟩
  obtain ⟨v, hv⟩ := cell?_setCell_some (w := w.setCell ⟨g, k * 2, none⟩ x) (p := ⟨g, k * 2 + 1, none⟩) (x := y) (q := ⟨g, i, none⟩) (v := v1) hv1
  exact ⟨v, hv⟩
theorem own : ownKnob Try.prog.godebug = none := by kernel_rfl
theorem laid : laidOutB Try.prog = true := by kernel_rfl

set_option maxRecDepth 100000 in
set_option maxHeartbeats 8000000 in
theorem walk (w : World) (s0 : Value) (Z0 : Nat → Int) (l0 : Nat) (H0 : IntsAt w s0 1 Z0 l0) :
    Calls Try.prog 9 #[s0] w fun e w' => e = .returned (.bool true) ∧ Below w.heap.size w w' := by
  obtain ⟨i0, hi0, hz0, hz1, hz2⟩ := info_parts infoBx
  have hi0' := Lib.hid hi0; clear hi0
  have hz0' := Lib.hid hz0; clear hz0
  have hz1' := Lib.hid hz1; clear hz1
  have hz2' := Lib.hid hz2; clear hz2
  have H0' := Lib.hid H0
  obtain ⟨a, cap, rfl, k1, k2, k3, k4⟩ := H0
  clear k1 k2 k3 k4
  go_enter Try.func9, Try.ntmps9
  go_wp2_with fail
  refine (boxes_any _ _ _ _ H0'.out).mono ?_
  rintro e u1 ⟨⟨vm, bm, rfl, m1, m2, m3, m4⟩, hb1⟩
  have hb1' := Lib.hid hb1
  have gP := Lib.hid m3.proper
  have hown0 := World.ownsRow_made (base := u1.heap.size) (e := 23) (size := 4) u1 #[] 0 (Nat.le_refl _) (Nat.zero_le _) rfl
  rcases owned_row m4 with ⟨rfl, rfl⟩ | ⟨gm, capm, rfl, hgm, hgm2, hRm, _⟩
  · clear m1 m2 m3 m4 hb1
    go_wp2_with (at_builtin; refine wpList_append_own_none rfl _ _ 27 rfl u1.heap.size 23 i0 4 Try.underlying27 hi0'.out _ 0 [] rfl hown0 rfl ?_)
    refine (pairsG_any _ [] _ (Or.inl ⟨rfl, _, _, rfl⟩) (by simp)).mono ?_
    rintro e u2 ⟨⟨p1, rfl, o1⟩, hb2⟩
    obtain ⟨a1, c1, rfl⟩ := o1.shape
    have gB := Lib.hid hb1'.out
    have gW := Lib.hid (below_step (alloc_below u1 _) hb2)
    have gO : Hid (BoxesAt u1 (.slice (some ⟨u1.heap.size, 0, none⟩) 0 0) []) := Lib.hid (Or.inl ⟨rfl, _, _, rfl⟩)
    have gM : Hid (BoxesAt u1 (.slice none 0 0) []) := Lib.hid (Or.inl ⟨rfl, _, _, rfl⟩)
    clear o1 hb2 hown0
    rw [show (pairs ([] : List Bx)).length = 0 from rfl]
    go_wp2_with fail
    refine wp_loop_rounds 1 ?_
    rw [rounds_succ]
    go_wp2_with fail
    refine wp_loop_rounds 1 ?_
    rw [rounds_succ]
    go_wp2_with fail
    refine (pairsG_any _ [] _ (gO.out.carry gW.out) (by simp)).mono ?_
    rintro e u5 ⟨⟨p3, rfl, o3⟩, hb5⟩
    have hb5' := Lib.hid hb5
    have o3' := Lib.hid o3
    clear o3 hb5
    go_wp2_with fail
    refine (refPairsG_any _ [] _ ((gM.out.carry gW.out).carry hb5'.out) (by simp) gP.out).mono ?_
    rintro e u6 ⟨⟨p4, rfl, o4⟩, hb6⟩
    have hb6' := Lib.hid hb6
    have o4' := Lib.hid o4
    clear o4 hb6
    go_wp2_with fail
    refine (sameT_any _ _ _ _ (o3'.out.carry hb6'.out) o4'.out).mono ?_
    rintro e u7 ⟨rfl, hb7⟩
    have hb7' := Lib.hid hb7
    clear hb7
    go_wp2_with fail
    refine (lives4_any _).mono ?_
    rintro e u8 ⟨rfl, hb8⟩
    go_wp2
    go_ret
    exact ⟨rfl, below_step (below_step gB.out gW.out) (below_step (below_step (below_step hb5'.out hb6'.out) hb7'.out) hb8)⟩
  · have rM0 := Lib.hid hRm
    have hlm := hRm.le
    have hmm := hRm.max
    unfold maxLen at hmm
    clear m2 m3 m4 hb1
    go_wp2_with (at_builtin; refine wpList_append_own _ rfl _ _ 27 rfl u1.heap.size 23 i0 _ 4 32 Try.underlying27 hi0'.out hz0'.out hz1'.out hz2'.out rfl (by decide) _ 0 [] rfl hown0 ⟨gm, 0, none⟩ bm.length capm (bm.flatMap Bx.cells) rfl (flat_length bx_len bm) (row_news (rM0.out.carry (alloc_below u1 _))) (flat_one bx_one bm) (by unfold maxLen; omega) (by omega) (by simp) ?_; intro vo V hown2 hg2 hnn)
    have hV1 := Lib.hid ((alloc_below u1 (.cells #[] 23)).grown hg2 (by simp) (fun j hj => by cases hj; exact Nat.le_refl _))
    simp only [Nat.zero_add, List.nil_append] at hown2
    obtain ⟨go, capo, rfl, hRo⟩ := owned_some hown2 (fun e => absurd (show Value.slice (some ⟨u1.heap.size, 0, none⟩) 0 0 = .slice none 0 0 from (hnn.1 e).1) (by simp))
    have rO := Lib.hid hRo
    have rM := Lib.hid (rM0.out.carry hV1.out)
    have hlo := hRo.le
    have hmo := hRo.max
    unfold maxLen at hmo
    have gB := Lib.hid (below_step hb1'.out hV1.out)
    have gO : Hid (BoxesAt V (.slice (some ⟨go, 0, none⟩) bm.length capo) bm) := Lib.hid (Or.inr ⟨go, 0, capo, rfl, rO.out⟩)
    have gM : Hid (BoxesAt V (.slice (some ⟨gm, 0, none⟩) bm.length capm) bm) := Lib.hid (Or.inr ⟨gm, 0, capm, rfl, rM.out⟩)
    clear hown2 hg2 hnn hRo hRm hown0
    refine (pairs_any _ bm _ gO.out (by omega)).mono ?_
    rintro e u3 ⟨⟨va, rfl, oa⟩, hb3⟩
    rcases owned_row oa with ⟨rfl, ha⟩ | ⟨ga, capa, rfl, hga, hga2, hRa, hfa⟩
    · have gV := Lib.hid hb3
      clear hb3 oa ha
      go_wp2_with fail
      refine wp_loop_rounds 1 ?_
      rw [rounds_succ]
      go_wp2_with fail
      go_loopw [7] (fun i wr => ∃ k : Nat, k ≤ bm.length ∧ i = .int .i64 k ∧ Below V.heap.size V wr) (fun i _ => bm.length - (intOf i).toNat)
      case atStart => exact ⟨0, Nat.zero_le _, rfl, gV.out⟩
      case round =>
        obtain ⟨k, hk, rfl, hbv⟩ := hrel
        by_cases hlt : k < bm.length
        · obtain ⟨c0, c1, c2, c3⟩ := row_box (i := k) ((rO.out).carry hbv) hlt
          obtain ⟨d0, d1, d2, d3⟩ := row_box (i := k) ((rM.out).carry hbv) hlt
          simp only [Nat.zero_add] at c0 c1 c2 c3 d0 d1 d2 d3
          generalize (at' bm k).x0 = X0 at *
          generalize (at' bm k).y0 = Y0 at *
          generalize (at' bm k).x1 = X1 at *
          generalize (at' bm k).y1 = Y1 at *
          have hbv' := Lib.hid hbv
          clear hbv
          go_wp2_with fail
          go_quiet (fail)
          go_wp2
          go_roundw
          case rel => exact ⟨k + 1, by omega, by go_num, below_step hbv'.out (below_drewN _ _)⟩
          case measure => simp [intOf]; omega
        · obtain rfl : k = bm.length := by omega
          have gW := Lib.hid hbv
          clear hbv hlt
          go_wp2_with fail
          refine (pairsG_any _ bm _ (gO.out.carry gW.out) (by omega)).mono ?_
          rintro e u5 ⟨⟨p3, rfl, o3⟩, hb5⟩
          have hb5' := Lib.hid hb5
          have o3' := Lib.hid o3
          clear o3 hb5
          go_wp2_with fail
          refine (refPairsG_any _ bm _ ((gM.out.carry gW.out).carry hb5'.out) (by omega) gP.out).mono ?_
          rintro e u6 ⟨⟨p4, rfl, o4⟩, hb6⟩
          have hb6' := Lib.hid hb6
          have o4' := Lib.hid o4
          clear o4 hb6
          go_wp2_with fail
          refine (sameT_any _ _ _ _ (o3'.out.carry hb6'.out) o4'.out).mono ?_
          rintro e u7 ⟨rfl, hb7⟩
          have hb7' := Lib.hid hb7
          clear hb7
          go_wp2_with fail
          refine (lives4_any _).mono ?_
          rintro e u8 ⟨rfl, hb8⟩
          go_wp2
          go_ret
          exact ⟨rfl, below_step (below_step gB.out gW.out) (below_step (below_step (below_step hb5'.out hb6'.out) hb7'.out) hb8)⟩
    · have hla := hRa.le
      have hma := hRa.max
      unfold maxLen at hma
      have hwr : Writable u3 ga (pairs bm).length := fun i hi => ⟨by
        have hl : i < ((pairs bm).flatMap encPr).length := by rw [flat_length pr_len]; exact hi
        have := hRa.cells i _ (List.getElem?_eq_getElem hl)
        rw [Nat.zero_add] at this
        exact ⟨_, this⟩, hfa i hi⟩
      have hwr' := Lib.hid hwr
      have hb3' := Lib.hid hb3
      clear hwr hb3 hRa hfa oa
      generalize (pairs bm).length = n at *
      go_wp2_with fail
      go_loopw [6] (fun i wr => ∃ k : Nat, k ≤ n ∧ i = .int .i64 k ∧ Writable wr ga n ∧ Below V.heap.size V wr) (fun i _ => n - (intOf i).toNat)
      case atStart => exact ⟨0, Nat.zero_le _, rfl, hwr'.out, hb3'.out⟩
      case round =>
        obtain ⟨k, hk, rfl, hW, hbv⟩ := hrel
        by_cases hlt : k < n
        · obtain ⟨⟨v0, c0⟩, f0⟩ := hW (k * 2) (by omega)
          obtain ⟨⟨v1, c1⟩, f1⟩ := hW (k * 2 + 1) (by omega)
          have hW' := Lib.hid hW
          clear hW
          go_wp2_with fail
          go_roundw
          case rel => exact ⟨k + 1, by omega, by go_num, hW'.out.set hlt _ _, (hbv.setCell (p := ⟨ga, k * 2, none⟩) hga _).setCell (p := ⟨ga, k * 2 + 1, none⟩) hga _⟩
          case measure => simp [intOf]; omega
        · obtain rfl : k = n := by omega
          have gV := Lib.hid hbv
          clear hbv hlt hW
          go_wp2_with fail
          go_loopw [7] (fun i wr => ∃ k : Nat, k ≤ bm.length ∧ i = .int .i64 k ∧ Below V.heap.size V wr) (fun i _ => bm.length - (intOf i).toNat)
          case atStart => exact ⟨0, Nat.zero_le _, rfl, gV.out⟩
          case round =>
            obtain ⟨k, hk, rfl, hbv⟩ := hrel
            by_cases hlt : k < bm.length
            · obtain ⟨c0, c1, c2, c3⟩ := row_box (i := k) ((rO.out).carry hbv) hlt
              obtain ⟨d0, d1, d2, d3⟩ := row_box (i := k) ((rM.out).carry hbv) hlt
              simp only [Nat.zero_add] at c0 c1 c2 c3 d0 d1 d2 d3
              generalize (at' bm k).x0 = X0 at *
              generalize (at' bm k).y0 = Y0 at *
              generalize (at' bm k).x1 = X1 at *
              generalize (at' bm k).y1 = Y1 at *
              have hbv' := Lib.hid hbv
              clear hbv
              go_wp2_with fail
              go_quiet (fail)
              go_wp2
              go_roundw
              case rel => exact ⟨k + 1, by omega, by go_num, below_step hbv'.out (below_drewN _ _)⟩
              case measure => simp [intOf]; omega
            · obtain rfl : k = bm.length := by omega
              have gW := Lib.hid hbv
              clear hbv hlt
              go_wp2_with fail
              refine (pairsG_any _ bm _ (gO.out.carry gW.out) (by omega)).mono ?_
              rintro e u5 ⟨⟨p3, rfl, o3⟩, hb5⟩
              have hb5' := Lib.hid hb5
              have o3' := Lib.hid o3
              clear o3 hb5
              go_wp2_with fail
              refine (refPairsG_any _ bm _ ((gM.out.carry gW.out).carry hb5'.out) (by omega) gP.out).mono ?_
              rintro e u6 ⟨⟨p4, rfl, o4⟩, hb6⟩
              have hb6' := Lib.hid hb6
              have o4' := Lib.hid o4
              clear o4 hb6
              go_wp2_with fail
              refine (sameT_any _ _ _ _ (o3'.out.carry hb6'.out) o4'.out).mono ?_
              rintro e u7 ⟨rfl, hb7⟩
              have hb7' := Lib.hid hb7
              clear hb7
              go_wp2_with fail
              refine (lives4_any _).mono ?_
              rintro e u8 ⟨rfl, hb8⟩
              go_wp2
              go_ret
              exact ⟨rfl, below_step (below_step gB.out gW.out) (below_step (below_step (below_step hb5'.out hb6'.out) hb7'.out) hb8)⟩

set_option maxRecDepth 100000 in
theorem lifted (os : Os) (started : os.Started) (H : Type) (enc : TypeId × Value → H) :
    ReturnsInHanded {} Try.checked os 9 .any (Rows.broadphaseOwnSpec.pre6 enc Try.prog Try.f9 Rows.broadphaseOwnRow.domain false) (Rows.broadphaseOwnSpec.post enc Try.prog Try.f9 false true false false) := by
  refine returnsInHanded_of_change (C := Try.checked) own started (by kernel_rfl) Try.func9
    (ChangeSpec.witness6 (enc := enc) (C := Try.checked) false ⟨#[], #[.slice none 0 0], []⟩ 8 (by kernel_rfl) (by kernel_rfl) (by kernel_rfl) (by kernel_rfl)) ?_
  intro W base args ds gs before hval0 hW hcnd _
  have hval : ∀ (j : Nat) t v, Try.f9.params[j]? = some t → args[j]? = some v → Value.okWide Try.prog W .any base t v := hval0
  have hW' := hW
  obtain ⟨p, q, hA0, hV, rfl, hfz, hnd⟩ := hW
  have hA : DataW.TrodAll enc Try.prog W 0 (fun _ => true) true Try.f9.params.toList args.toList ds p := hA0
  rw [Try.params9] at hA hval
  have hAk := hA
  obtain ⟨v0, vs0, d0, ds0, p0, q0, hargs, rfl, hp0, h0, r0⟩ := trodAll_cons hA
  obtain ⟨rfl, rfl, -⟩ := trodAll_nil r0
  obtain rfl : args = #[v0] := by cases args; simp_all
  obtain ⟨rfl, rfl⟩ := trodVars_none hV
  obtain ⟨x0, q0, c0, rfl⟩ := okWide_slice Try.underlying28 (hval 0 28 v0 rfl rfl)
  obtain ⟨fu0, fh0⟩ := h0
  obtain ⟨s0, Z0, l0, e0, H0⟩ := open_int_cells Try.underlying28 Try.underlying3 (by kernel_rfl) fh0
  simp only [Value.cells, List.cons.injEq, and_true] at e0
  obtain rfl := e0.symm
  clear hA0 hval0
  simp only [List.append_nil] at hW'
  refine (walk W _ Z0 l0 H0).mono fun e W' ⟨he, hb⟩ => ?_
  subst he
  exact ⟨_, rfl, kept_post (pa := p) hW' (fun _ _ _ => (trodAll_cons_mk (shut_bool Try.underlying4 _) trodAll_mk0)) (fun sp hsp => trodAll_stays laid hb (by rw [Try.params9]; decide +kernel) hAk (fun x hx => hW'.lt x hx) hsp) (fun _ => rfl) hb (ok_one (by kernel_rfl) rfl (okWide_bool_mk Try.underlying4 _))⟩

theorem over : Rows.broadphaseOwnRow.holds Try.pinned (OpenSpec.ofChange Rows.broadphaseOwnSpec) :=
  OpenClaim.holds_of_wide 9 Try.f9 rfl rfl rfl rfl rfl rfl rfl ⟨rfl, rfl, rfl, rfl, rfl⟩ rfl rfl rfl rfl rfl (by kernel_rfl) Try.func9 (by kernel_rfl)
    (of_decide_eq_true (by kernel_rfl)) (by unfold Func.isWrapper; first | (rw [if_pos (by decide +kernel)]; kernel_rfl) | (rw [if_neg (by decide +kernel)]; exact ⟨rfl, rfl⟩))
    (fun os started H enc _ => lifted os started H enc)

theorem proved : Rows.BroadphaseOwnSaid :=
  over
#print axioms proved
end Go.Proofs.Ytbgafimiodfkaaa.broadphaseOwn
