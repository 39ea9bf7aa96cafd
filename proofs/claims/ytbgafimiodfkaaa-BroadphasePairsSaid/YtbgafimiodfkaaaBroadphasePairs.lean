/-
  package broadphase, P4.2: for up to eight boxes made of any numbers and up to twenty boxes on a small grid made of any numbers, Pairs returns what the reference's Pairs does, and the section's examples hold; whatever the arguments are.
-/
import Derived.Test.YtbgafimiodfkaaaRows
import Derived.WalkKit
import Derived.ProofKit
import Derived.OpenShut
import Derived.Test.YtbgafimiodfkaaaOpen
import Derived.Test.YtbgafimiodfkaaaBroadK
namespace Go.Proofs.Ytbgafimiodfkaaa.broadphasePairs
open Go.ChangeShapes Go.WideShapes Go.ChangeAt Go.RowKit
set_option linter.unusedVariables false
set_option linter.unusedSimpArgs false

open Bo
theorem own : ownKnob Try.prog.godebug = none := by kernel_rfl
theorem laid : laidOutB Try.prog = true := by kernel_rfl

set_option maxRecDepth 100000 in
set_option maxHeartbeats 8000000 in
theorem walk (w : World) (s0 : Value) (Z0 : Nat → Int) (l0 : Nat) (H0 : IntsAt w s0 4 Z0 l0) (s1 : Value) (Z1 : Nat → Int) (l1 : Nat) (H1 : IntsAt w s1 1 Z1 l1) :
    Calls Try.prog 4 #[s0, s1] w fun e w' => e = .returned (.bool true) ∧ Below w.heap.size w w' := by
  have H1' := Lib.hid H1
  clear H1
  obtain ⟨i0, hi0, hz0, hz1, hz2⟩ := info_parts infoBx
  have hi0' := Lib.hid hi0; clear hi0
  have hz0' := Lib.hid hz0; clear hz0
  have hz1' := Lib.hid hz1; clear hz1
  have hz2' := Lib.hid hz2; clear hz2
  obtain ⟨a, cap, rfl, h1, h2, h3, h4⟩ := H0
  obtain ⟨b, cap', rfl, k1, k2, k3, k4⟩ := H1'.out
  clear k1 k2 k3 k4
  rcases h4 with rfl | ⟨g, off, rfl, h5⟩
  · go_enter Try.func4, Try.ntmps4
    go_wp2_with fail
    refine wp_loop_rounds 1 ?_
    rw [rounds_succ]
    go_wp2_with fail
    have hB := Below.refl w.heap.size w
    have hF : Hid (BoxesAt w (.slice none 0 0) []) := Lib.hid (Or.inl ⟨rfl, _, _, rfl⟩)
    have hPf : Hid (AllProper []) := Lib.hid (fun i hi => by simp at hi)
    refine (boxes_any _ _ _ _ (H1'.out.carry hB)).mono ?_
    rintro e u1 ⟨⟨vm, bm, rfl, m1, m2, m3, m4⟩, hb1⟩
    have fB := Lib.hid (below_step hB hb1)
    have fF := Lib.hid (hF.out.carry hb1)
    have fM := Lib.hid m4.at
    have fm := Lib.hid (And.intro m1 m3)
    clear m1 m2 m3 m4 hb1 hB hF
    go_wp2_with fail
    refine (pairsG_any _ [] _ fF.out (by simp)).mono ?_
    rintro e u2 ⟨⟨p1, rfl, o1⟩, hb2⟩
    have hb2' := Lib.hid hb2
    have o1' := Lib.hid o1
    clear o1 hb2
    go_wp2_with fail
    refine (refPairsG_any _ [] _ (fF.out.carry hb2'.out) (by simp) hPf.out).mono ?_
    rintro e u3 ⟨⟨p2, rfl, o2⟩, hb3⟩
    have hb3' := Lib.hid hb3
    have o2' := Lib.hid o2
    clear o2 hb3
    go_wp2_with fail
    refine (sameT_any _ _ _ _ (o1'.out.carry hb3'.out) o2'.out).mono ?_
    rintro e u4 ⟨rfl, hb4⟩
    have gB := Lib.hid (below_step (below_step hb2'.out hb3'.out) hb4)
    clear hb4 hb2' hb3' o1' o2' fF
    go_wp2_with fail
    refine (pairsG_any _ bm _ (fM.out.carry gB.out) (by have := fm.out.1; omega)).mono ?_
    rintro e u5 ⟨⟨p3, rfl, o3⟩, hb5⟩
    have hb5' := Lib.hid hb5
    have o3' := Lib.hid o3
    clear o3 hb5
    go_wp2_with fail
    refine (refPairsG_any _ bm _ ((fM.out.carry gB.out).carry hb5'.out) (by have := fm.out.1; omega) fm.out.2.proper).mono ?_
    rintro e u6 ⟨⟨p4, rfl, o4⟩, hb6⟩
    have hb6' := Lib.hid hb6
    have o4' := Lib.hid o4
    clear o4 hb6
    go_wp2_with fail
    refine (sameT_any _ _ _ _ (o3'.out.carry hb6'.out) o4'.out).mono ?_
    rintro e u7 ⟨rfl, hb7⟩
    have hb7' := Lib.hid hb7
    clear hb7
    go_wp2_with fail
    refine (lives4_any _).mono ?_
    rintro e u8 ⟨rfl, hb8⟩
    go_wp2
    go_ret
    exact ⟨rfl, below_step (below_step fB.out gB.out) (below_step (below_step (below_step hb5'.out hb6'.out) hb7'.out) hb8)⟩
  · have hc' := Lib.hid h5; clear h5
    have hZ' := Lib.hid h3; clear h3
    unfold maxLen at h2
    go_enter Try.func4, Try.ntmps4
    go_wp2_with fail
    go_loopw [5, 6] (fun v i wr => ∃ (k : Nat) (bs : List Bx), k ≤ l0 ∧ k ≤ 8 ∧ i = .int .i64 k ∧ bs.length = k ∧ AllProper bs ∧ OwnsBoxes wr w.heap.size v bs ∧ Below w.heap.size w wr) (fun _ i _ => 8 - (intOf i).toNat)
    case atStart => exact ⟨0, [], Nat.zero_le _, by omega, rfl, rfl, fun i hi => by simp at hi, World.ownsRow_nil _ _ _ _, Below.refl _ _⟩
    case round =>
      obtain ⟨k, bs, hk, hk2, rfl, hbl, hgr, hown, hB⟩ := hrel
      have hbl' := Lib.hid hbl
      have hPf := Lib.hid hgr
      clear hbl hgr
      by_cases hlt : k < l0 ∧ k < 8
      · obtain ⟨hlt, hlt2⟩ := hlt
        have c0 := carry hB (hc'.out (k * 4) (by omega))
        have c1 := carry hB (hc'.out (k * 4 + 1) (by omega))
        have c2 := carry hB (hc'.out (k * 4 + 2) (by omega))
        have c3 := carry hB (hc'.out (k * 4 + 3) (by omega))
        rw [← Nat.add_assoc] at c1 c2 c3
        have z0 := hZ'.out (k * 4)
        have z1 := hZ'.out (k * 4 + 1)
        have z2 := hZ'.out (k * 4 + 2)
        have z3 := hZ'.out (k * 4 + 3)
        generalize Z0 (k * 4) = A0 at *
        generalize Z0 (k * 4 + 1) = A1 at *
        generalize Z0 (k * 4 + 2) = A2 at *
        generalize Z0 (k * 4 + 3) = A3 at *
        have hK := Lib.hid (fun W => box_any A0 A1 A2 A3 W z0 z1 z2 z3)
        clear z0 z1 z2 z3
        have hws := hB.size
        have hlb : bs.length ≤ 8 := by rw [hbl'.out]; omega
        go_wp2_with fail
        refine (hK.out _).mono ?_
        rintro e u1 ⟨⟨X, rfl, hX, hX2⟩, hb1⟩
        have hX' := Lib.hid hX
        clear hX hX2 c0 c1 c2 c3
        have hs1 := hb1.size
        have hown1 := ownsRow_below hown hb1
        go_wp2_with (at_builtin; refine wpList_append_own _ rfl _ _ 27 rfl w.heap.size 23 i0 _ 4 32 Try.underlying27 hi0'.out hz0'.out hz1'.out hz2'.out rfl (by decide) _ _ _ rfl (World.ownsRow.alloc hown1 _) ⟨u1.heap.size, 0, none⟩ 1 1 [.int .i64 X.x0, .int .i64 X.y0, .int .i64 X.x1, .int .i64 X.y1] rfl rfl (new_cells _ _ _ _ rfl) (four_one _ _ _ _) (by unfold maxLen; omega) (by omega) (by simp; omega) ?_; intro v' u2 hown2 hg2 _)
        have hB2 := (below_step (below_step hB hb1) (alloc_below _ _)).grown hg2 (by simp; omega) (fun j hj => (World.ownsRow.lt hown1 j hj).1)
        go_wp2_with fail
        go_roundw
        case rel => exact ⟨k + 1, bs ++ [X], by omega, by omega, by go_num, by rw [List.length_append, hbl'.out]; rfl, hPf.out.snoc hX'.out, by unfold OwnsBoxes; rw [flat_snoc_bx, List.length_append]; exact hown2, hB2⟩
        case measure => simp [intOf]; omega
      · have hF := Lib.hid (OwnsBoxes.at hown)
        by_cases hkl : k < l0
        · obtain rfl : k = 8 := by omega
          clear hlt
          go_wp2_with fail
          refine (boxes_any _ _ _ _ (H1'.out.carry hB)).mono ?_
          rintro e u1 ⟨⟨vm, bm, rfl, m1, m2, m3, m4⟩, hb1⟩
          have fB := Lib.hid (below_step hB hb1)
          have fF := Lib.hid (hF.out.carry hb1)
          have fM := Lib.hid m4.at
          have fm := Lib.hid (And.intro m1 m3)
          clear m1 m2 m3 m4 hb1 hB hF
          go_wp2_with fail
          refine (pairsG_any _ bs _ fF.out (by rw [hbl'.out]; omega)).mono ?_
          rintro e u2 ⟨⟨p1, rfl, o1⟩, hb2⟩
          have hb2' := Lib.hid hb2
          have o1' := Lib.hid o1
          clear o1 hb2
          go_wp2_with fail
          refine (refPairsG_any _ bs _ (fF.out.carry hb2'.out) (by rw [hbl'.out]; omega) hPf.out).mono ?_
          rintro e u3 ⟨⟨p2, rfl, o2⟩, hb3⟩
          have hb3' := Lib.hid hb3
          have o2' := Lib.hid o2
          clear o2 hb3
          go_wp2_with fail
          refine (sameT_any _ _ _ _ (o1'.out.carry hb3'.out) o2'.out).mono ?_
          rintro e u4 ⟨rfl, hb4⟩
          have gB := Lib.hid (below_step (below_step hb2'.out hb3'.out) hb4)
          clear hb4 hb2' hb3' o1' o2' fF
          go_wp2_with fail
          refine (pairsG_any _ bm _ (fM.out.carry gB.out) (by have := fm.out.1; omega)).mono ?_
          rintro e u5 ⟨⟨p3, rfl, o3⟩, hb5⟩
          have hb5' := Lib.hid hb5
          have o3' := Lib.hid o3
          clear o3 hb5
          go_wp2_with fail
          refine (refPairsG_any _ bm _ ((fM.out.carry gB.out).carry hb5'.out) (by have := fm.out.1; omega) fm.out.2.proper).mono ?_
          rintro e u6 ⟨⟨p4, rfl, o4⟩, hb6⟩
          have hb6' := Lib.hid hb6
          have o4' := Lib.hid o4
          clear o4 hb6
          go_wp2_with fail
          refine (sameT_any _ _ _ _ (o3'.out.carry hb6'.out) o4'.out).mono ?_
          rintro e u7 ⟨rfl, hb7⟩
          have hb7' := Lib.hid hb7
          clear hb7
          go_wp2_with fail
          refine (lives4_any _).mono ?_
          rintro e u8 ⟨rfl, hb8⟩
          go_wp2
          go_ret
          exact ⟨rfl, below_step (below_step fB.out gB.out) (below_step (below_step (below_step hb5'.out hb6'.out) hb7'.out) hb8)⟩
        · obtain rfl : k = l0 := by omega
          clear hlt
          go_wp2_with fail
          refine (boxes_any _ _ _ _ (H1'.out.carry hB)).mono ?_
          rintro e u1 ⟨⟨vm, bm, rfl, m1, m2, m3, m4⟩, hb1⟩
          have fB := Lib.hid (below_step hB hb1)
          have fF := Lib.hid (hF.out.carry hb1)
          have fM := Lib.hid m4.at
          have fm := Lib.hid (And.intro m1 m3)
          clear m1 m2 m3 m4 hb1 hB hF
          go_wp2_with fail
          refine (pairsG_any _ bs _ fF.out (by rw [hbl'.out]; omega)).mono ?_
          rintro e u2 ⟨⟨p1, rfl, o1⟩, hb2⟩
          have hb2' := Lib.hid hb2
          have o1' := Lib.hid o1
          clear o1 hb2
          go_wp2_with fail
          refine (refPairsG_any _ bs _ (fF.out.carry hb2'.out) (by rw [hbl'.out]; omega) hPf.out).mono ?_
          rintro e u3 ⟨⟨p2, rfl, o2⟩, hb3⟩
          have hb3' := Lib.hid hb3
          have o2' := Lib.hid o2
          clear o2 hb3
          go_wp2_with fail
          refine (sameT_any _ _ _ _ (o1'.out.carry hb3'.out) o2'.out).mono ?_
          rintro e u4 ⟨rfl, hb4⟩
          have gB := Lib.hid (below_step (below_step hb2'.out hb3'.out) hb4)
          clear hb4 hb2' hb3' o1' o2' fF
          go_wp2_with fail
          refine (pairsG_any _ bm _ (fM.out.carry gB.out) (by have := fm.out.1; omega)).mono ?_
          rintro e u5 ⟨⟨p3, rfl, o3⟩, hb5⟩
          have hb5' := Lib.hid hb5
          have o3' := Lib.hid o3
          clear o3 hb5
          go_wp2_with fail
          refine (refPairsG_any _ bm _ ((fM.out.carry gB.out).carry hb5'.out) (by have := fm.out.1; omega) fm.out.2.proper).mono ?_
          rintro e u6 ⟨⟨p4, rfl, o4⟩, hb6⟩
          have hb6' := Lib.hid hb6
          have o4' := Lib.hid o4
          clear o4 hb6
          go_wp2_with fail
          refine (sameT_any _ _ _ _ (o3'.out.carry hb6'.out) o4'.out).mono ?_
          rintro e u7 ⟨rfl, hb7⟩
          have hb7' := Lib.hid hb7
          clear hb7
          go_wp2_with fail
          refine (lives4_any _).mono ?_
          rintro e u8 ⟨rfl, hb8⟩
          go_wp2
          go_ret
          exact ⟨rfl, below_step (below_step fB.out gB.out) (below_step (below_step (below_step hb5'.out hb6'.out) hb7'.out) hb8)⟩

set_option maxRecDepth 100000 in
theorem lifted (os : Os) (started : os.Started) (H : Type) (enc : TypeId × Value → H) :
    ReturnsInHanded {} Try.checked os 4 .any (Rows.broadphasePairsSpec.pre6 enc Try.prog Try.f4 Rows.broadphasePairsRow.domain false) (Rows.broadphasePairsSpec.post enc Try.prog Try.f4 false true false false) := by
  refine returnsInHanded_of_change (C := Try.checked) own started (by kernel_rfl) Try.func4
    (ChangeSpec.witness6 (enc := enc) (C := Try.checked) false ⟨#[], #[.slice none 0 0, .slice none 0 0], []⟩ 8 (by kernel_rfl) (by kernel_rfl) (by kernel_rfl) (by kernel_rfl)) ?_
  intro W base args ds gs before hval0 hW hcnd _
  have hval : ∀ (j : Nat) t v, Try.f4.params[j]? = some t → args[j]? = some v → Value.okWide Try.prog W .any base t v := hval0
  have hW' := hW
  obtain ⟨p, q, hA0, hV, rfl, hfz, hnd⟩ := hW
  have hA : DataW.TrodAll enc Try.prog W 0 (fun _ => true) true Try.f4.params.toList args.toList ds p := hA0
  rw [Try.params4] at hA hval
  have hAk := hA
  obtain ⟨v0, vs0, d0, ds0, p0, q0, hargs, rfl, hp0, h0, r0⟩ := trodAll_cons hA
  obtain ⟨v1, vs1, d1, ds1, p1, q1, rfl, rfl, hp1, h1, r1⟩ := trodAll_cons r0
  obtain ⟨rfl, rfl, -⟩ := trodAll_nil r1
  obtain rfl : args = #[v0, v1] := by cases args; simp_all
  obtain ⟨rfl, rfl⟩ := trodVars_none hV
  obtain ⟨x0, q0, c0, rfl⟩ := okWide_slice Try.underlying27 (hval 0 27 v0 rfl rfl)
  obtain ⟨fu0, fh0⟩ := h0
  obtain ⟨s0, Z0, l0, e0, H0⟩ := open_slice_cells Try.underlying27 Try.underlying23 (by kernel_rfl) (by decide) (by kernel_rfl) (by intro j f hj; rcases j with _ | _ | _ | _ | j <;> simp at hj <;> (try subst hj) <;> kernel_rfl) fh0
  simp only [Value.cells, List.cons.injEq, and_true] at e0
  obtain rfl := e0.symm
  obtain ⟨x1, q1, c1, rfl⟩ := okWide_slice Try.underlying28 (hval 1 28 v1 rfl rfl)
  obtain ⟨fu1, fh1⟩ := h1
  obtain ⟨s1, Z1, l1, e1, H1⟩ := open_int_cells Try.underlying28 Try.underlying3 (by kernel_rfl) fh1
  simp only [Value.cells, List.cons.injEq, and_true] at e1
  obtain rfl := e1.symm
  clear hA0 hval0
  simp only [List.append_nil] at hW'
  refine (walk W _ Z0 l0 H0 _ Z1 l1 H1).mono fun e W' ⟨he, hb⟩ => ?_
  subst he
  exact ⟨_, rfl, kept_post (pa := p) hW' (fun _ _ _ => (trodAll_cons_mk (shut_bool Try.underlying4 _) trodAll_mk0)) (fun sp hsp => trodAll_stays laid hb (by rw [Try.params4]; decide +kernel) hAk (fun x hx => hW'.lt x hx) hsp) (fun _ => rfl) hb (ok_one (by kernel_rfl) rfl (okWide_bool_mk Try.underlying4 _))⟩

theorem over : Rows.broadphasePairsRow.holds Try.pinned (OpenSpec.ofChange Rows.broadphasePairsSpec) :=
  OpenClaim.holds_of_wide 4 Try.f4 rfl rfl rfl rfl rfl rfl rfl ⟨rfl, rfl, rfl, rfl, rfl⟩ rfl rfl rfl rfl rfl (by kernel_rfl) Try.func4 (by kernel_rfl)
    (of_decide_eq_true (by kernel_rfl)) (by unfold Func.isWrapper; first | (rw [if_pos (by decide +kernel)]; kernel_rfl) | (rw [if_neg (by decide +kernel)]; exact ⟨rfl, rfl⟩))
    (fun os started H enc _ => lifted os started H enc)

theorem proved : Rows.BroadphasePairsSaid :=
  over
#print axioms proved
end Go.Proofs.Ytbgafimiodfkaaa.broadphasePairs
