/-
  package broadphase, P4.5: for up to twenty boxes on a small grid made of any numbers, the pairs of the reversed slice are the mirrored pairs of the slice, and the pairs of a prefix, cut anywhere, are those of the slice with both indexes in the prefix; and the section's examples hold; whatever the arguments are.
-/
import Derived.Test.YtbgafimiodfkaaaRows
import Derived.WalkKit
import Derived.ProofKit
import Derived.OpenShut
import Derived.Test.YtbgafimiodfkaaaOpen
import Derived.Test.YtbgafimiodfkaaaBroadL
namespace Go.Proofs.Ytbgafimiodfkaaa.broadphasePermuted
open Go.ChangeShapes Go.WideShapes Go.ChangeAt Go.RowKit
set_option linter.unusedVariables false
set_option linter.unusedSimpArgs false

open Bo
def fW (bs : List Bx) (i t : Nat) : Bool := hasB (pairs bs) ((bs.length : Int) - 1 - (t : Int)) ((bs.length : Int) - 1 - (i : Int))
def fF (bs : List Bx) (k i t : Nat) : Bool := decide (t < k) && hasB (pairs bs) (i : Int) (t : Int)
theorem fF_true {bs : List Bx} {k i t : Nat} (h1 : t < k) (h2 : hasB (pairs bs) (i : Int) (t : Int) = true) : fF bs k i t = true := by unfold fF; rw [decide_eq_true h1, h2]; rfl
theorem fF_false {bs : List Bx} {k i t : Nat} (h : ¬ t < k ∨ hasB (pairs bs) (i : Int) (t : Int) = false) : fF bs k i t = false := by
  unfold fF
  rcases h with h | h
  · rw [decide_eq_false h]; rfl
  · rw [h, Bool.and_false]
/-- Two slices of pairs of the call's own, in blocks apart. -/
def Two (w : World) (B : Nat) (v v' : Value) (l l' : List (Nat × Nat)) : Prop := OwnsPairs w B v l ∧ OwnsPairs w B v' l' ∧ ∀ q, v.ownBlock = some q → v'.ownBlock ≠ some q
theorem Two.below {w w1 : World} {B : Nat} {v v' : Value} {l l' : List (Nat × Nat)} (h : Two w B v v' l l') (hb : Below w.heap.size w w1) : Two w1 B v v' l l' := ⟨ownsRow_below h.1 hb, ownsRow_below h.2.1 hb, h.2.2⟩
theorem kept_apart {w w1 : World} {B : Nat} {v : Value} {l : List (Nat × Nat)} {o : Obj} {row : Option Nat} (h : OwnsPairs w B v l) (hg : (w.alloc o).grownBy w1 row) (hne : ∀ q, v.ownBlock = some q → row ≠ some q) : OwnsPairs w1 B v l :=
  (World.ownsRow.alloc h o).kept hg (by
    cases hv : v.ownBlock with
    | none => exact Or.inl rfl
    | some q => exact Or.inr fun e => hne q hv e.symm)
theorem Two.left {w w1 : World} {B : Nat} {v v' v1 : Value} {l l' : List (Nat × Nat)} {o : Obj} {i t : Nat} (h : Two w B v v' l l') (hown : w1.ownsRow B 39 2 v1 (l.length + 1) (l.flatMap encPr ++ [.int .i64 (i : Int), .int .i64 (t : Int)]))
    (hg : (w.alloc o).grownBy w1 v.ownBlock) (hloc : v1.ownBlock = v.ownBlock ∨ v1.ownBlock = some (w.alloc o).heap.size) : Two w1 B v1 v' (l ++ [(i, t)]) l' := by
  refine ⟨?_, kept_apart h.2.1 hg fun q hq e => h.2.2 q e hq, fun q hq hq2 => ?_⟩
  · unfold OwnsPairs; rw [flat_snoc_pr, List.length_append, List.length_singleton]; exact hown
  · rcases hloc with e | e
    · exact h.2.2 q (e ▸ hq) hq2
    · rw [e] at hq
      have h1 := Option.some.inj hq
      have h2 := (World.ownsRow.lt h.2.1 q hq2).2
      rw [World.size_alloc] at h1
      omega
theorem Two.right {w w1 : World} {B : Nat} {v v' v1 : Value} {l l' : List (Nat × Nat)} {o : Obj} {i t : Nat} (h : Two w B v v' l l') (hown : w1.ownsRow B 39 2 v1 (l'.length + 1) (l'.flatMap encPr ++ [.int .i64 (i : Int), .int .i64 (t : Int)]))
    (hg : (w.alloc o).grownBy w1 v'.ownBlock) (hloc : v1.ownBlock = v'.ownBlock ∨ v1.ownBlock = some (w.alloc o).heap.size) : Two w1 B v v1 l (l' ++ [(i, t)]) := by
  refine ⟨kept_apart h.1 hg fun q hq e => h.2.2 q hq e, ?_, fun q hq hq2 => ?_⟩
  · unfold OwnsPairs; rw [flat_snoc_pr, List.length_append, List.length_singleton]; exact hown
  · rcases hloc with e | e
    · exact h.2.2 q hq (e ▸ hq2)
    · rw [e] at hq2
      have h1 := Option.some.inj hq2
      have h2 := (World.ownsRow.lt h.1 q hq).2
      rw [World.size_alloc] at h1
      omega
theorem own : ownKnob Try.prog.godebug = none := by kernel_rfl
theorem laid : laidOutB Try.prog = true := by kernel_rfl

set_option maxRecDepth 100000 in
set_option maxHeartbeats 8000000 in
theorem walk (w : World) (s0 : Value) (Z0 : Nat → Int) (l0 : Nat) (H0 : IntsAt w s0 1 Z0 l0) (a1 : Int) (w1 : (Lit.int .i64 a1).wf = true) :
    Calls Try.prog 7 #[s0, .int .i64 a1] w fun e w' => e = .returned (.bool true) ∧ Below w.heap.size w w' := by
  obtain ⟨l1, r1⟩ := i64_bd w1
  clear w1
  obtain ⟨i0, hi0, hz0, hz1, hz2⟩ := info_parts infoBx
  have hi0' := Lib.hid hi0; clear hi0
  have hz0' := Lib.hid hz0; clear hz0
  have hz1' := Lib.hid hz1; clear hz1
  have hz2' := Lib.hid hz2; clear hz2
  obtain ⟨j0, hj0, hy0, hy1, hy2⟩ := info_parts infoPr
  have hj0' := Lib.hid hj0; clear hj0
  have hy0' := Lib.hid hy0; clear hy0
  have hy1' := Lib.hid hy1; clear hy1
  have hy2' := Lib.hid hy2; clear hy2
  have H0' := Lib.hid H0
  obtain ⟨a, cap, rfl, k1, k2, k3, k4⟩ := H0
  clear k1 k2 k3 k4
  go_enter Try.func7, Try.ntmps7
  go_wp2_with fail
  refine (boxes_any _ _ _ _ H0'.out).mono ?_
  rintro e u1 ⟨⟨vm, bm, rfl, m1, m2, m3, m4⟩, hb1⟩
  have hb1' := Lib.hid hb1
  have hn20 := m1
  rcases owned_row m4 with ⟨rfl, rfl⟩ | ⟨gm, capm, rfl, hgm, hgm2, hRm, _⟩
  · clear m1 m2 m3 m4 hb1
    go_wp2_with fail
    refine wp_loop_rounds 1 ?_
    rw [rounds_succ]
    go_wp2_with fail
    refine (pairsG_any _ [] _ (Or.inl ⟨rfl, _, _, rfl⟩) (by simp)).mono ?_
    rintro e u2 ⟨⟨p1, rfl, o1⟩, hb2⟩
    have hb2' := Lib.hid hb2
    clear hb2 o1
    go_wp2_with fail
    refine (aroundx_any _ 1 _ l1 r1 (by omega)).mono ?_
    rintro e w' ⟨⟨x, x1, x2, rfl⟩, rfl⟩
    obtain rfl : x = 0 := by omega
    go_wp2_with fail
    refine wp_loop_rounds 1 ?_
    rw [rounds_succ]
    go_wp2_with fail
    have gV := Lib.hid (below_step hb1'.out hb2'.out)
    have gR := Lib.hid (Below.refl u2.heap.size u2)
    have gBack : Hid (BoxesAt u2 (.slice none 0 0) []) := Lib.hid (Or.inl ⟨rfl, _, _, rfl⟩)
    have gPre : Hid (BoxesAt u2 (.slice none 0 0) []) := Lib.hid (Or.inl ⟨rfl, _, _, rfl⟩)
    have gWv : Hid (PairsAt u2 (.slice none 0 0) (pairs [])) := Lib.hid (Or.inl ⟨rfl, _, _, rfl⟩)
    have gFv : Hid (PairsAt u2 (.slice none 0 0) (pairs [])) := Lib.hid (Or.inl ⟨rfl, _, _, rfl⟩)
    refine (pairsG_any _ [] _ (gBack.out.carry gR.out) (by simp)).mono ?_
    rintro e u5 ⟨⟨p5, rfl, o5⟩, hb5⟩
    have hb5' := Lib.hid hb5
    have o5' := Lib.hid o5
    clear o5 hb5
    go_wp2_with fail
    refine (sameT_any _ _ _ _ o5'.out (gWv.out.carry hb5'.out)).mono ?_
    rintro e u6 ⟨rfl, hb6⟩
    have hb6' := Lib.hid hb6
    clear hb6
    go_wp2_with fail
    refine (pairsG_any _ [] _ (((gPre.out.carry gR.out).carry hb5'.out).carry hb6'.out) (by simp)).mono ?_
    rintro e u7 ⟨⟨p7, rfl, o7⟩, hb7⟩
    have hb7' := Lib.hid hb7
    have o7' := Lib.hid o7
    clear o7 hb7
    go_wp2_with fail
    refine (sameT_any _ _ _ _ o7'.out (((gFv.out.carry hb5'.out).carry hb6'.out).carry hb7'.out)).mono ?_
    rintro e u8 ⟨rfl, hb8⟩
    have hb8' := Lib.hid hb8
    clear hb8
    go_wp2_with fail
    refine (lives4_any _).mono ?_
    rintro e u9 ⟨rfl, hb9⟩
    go_wp2
    go_ret
    exact ⟨rfl, below_step (below_step gV.out gR.out) (below_step (below_step (below_step (below_step hb5'.out hb6'.out) hb7'.out) hb8'.out) hb9)⟩
  · have rM := Lib.hid hRm
    have hlm := hRm.le
    have hmm := hRm.max
    unfold maxLen at hmm
    clear m2 m3 m4 hb1 hRm
    go_wp2_with fail
    go_loopw [7, 8] (fun v i wr => ∃ j : Nat, j ≤ bm.length ∧ i = .int .i64 ((j : Int) - 1) ∧ wr.ownsRow u1.heap.size 23 4 v (bm.length - j) ((bm.reverse.take (bm.length - j)).flatMap Bx.cells) ∧ Below u1.heap.size u1 wr) (fun _ i _ => (intOf i + 1).toNat)
    case atStart => exact ⟨bm.length, Nat.le_refl _, rfl, by rw [Nat.sub_self]; exact World.ownsRow_nil _ _ _ _, Below.refl _ _⟩
    case round =>
      obtain ⟨j, hj, rfl, hown, hbl⟩ := hrel
      cases j with
      | zero =>
        rw [show ((0 : Nat) : Int) - 1 = -1 by rfl]
        rw [Nat.sub_zero, show bm.reverse.take bm.length = bm.reverse from List.take_of_length_le (by simp)] at hown
        have hat : BoxesAt _ _ bm.reverse := OwnsBoxes.at (bs := bm.reverse) (by unfold OwnsBoxes; rw [List.length_reverse]; exact hown)
        have hBk := Lib.hid hat
        have hbl' := Lib.hid hbl
        clear hown hat hbl
        go_wp2_with fail
        refine (pairsG_any _ bm _ (Or.inr ⟨gm, 0, capm, rfl, rM.out.carry hbl'.out⟩) (by omega)).mono ?_
        rintro e V ⟨⟨vp, rfl, o1⟩, hb2⟩
        have gP := Lib.hid o1
        have gBack := Lib.hid (hBk.out.carry hb2)
        have hVb := Lib.hid (below_step hbl'.out hb2)
        have gV := Lib.hid (below_step hb1'.out hVb.out)
        clear o1 hb2
        go_wp2_with fail
        refine (aroundx_any _ ((bm.length : Int) + 1) _ l1 r1 (by omega)).mono ?_
        rintro e w' ⟨⟨x, x1, x2, rfl⟩, rfl⟩
        obtain ⟨kk, rfl⟩ : ∃ kk : Nat, x = (kk : Int) := ⟨x.toNat, by omega⟩
        have hkk : kk ≤ bm.length := by omega
        clear x1 x2 l1 r1
        go_wp2_with fail
        go_loopw [11, 12, 13] (fun vW vF s wr => ∃ i : Nat, i ≤ bm.length ∧ s = .int .i64 i ∧ Two wr V.heap.size vW vF (lexF (fW bm) bm.length i) (lexF (fF bm kk) bm.length i) ∧ Below V.heap.size V wr) (fun _ _ s _ => bm.length - (intOf s).toNat)
        case atStart => exact ⟨0, Nat.zero_le _, rfl, ⟨World.ownsRow_nil _ _ _ _, World.ownsRow_nil _ _ _ _, fun q hq => by cases hq⟩, Below.refl _ _⟩
        case round =>
          obtain ⟨i, hi, rfl, hT, hB⟩ := hrel
          by_cases hlt : i < bm.length
          · have hT' := Lib.hid hT
            have hB' := Lib.hid hB
            clear hT hB
            go_wp2_with fail
            go_loopw [11, 12, 14] (fun vW vF s wi => ∃ t : Nat, i + 1 ≤ t ∧ t ≤ bm.length ∧ s = .int .i64 t ∧ Two wi V.heap.size vW vF (parF (fW bm) bm.length i t) (parF (fF bm kk) bm.length i t) ∧ Below V.heap.size V wi) (fun _ _ s _ => bm.length - (intOf s).toNat)
            case atStart => exact ⟨i + 1, Nat.le_refl _, hlt, by go_num, by rw [parF_start, parF_start]; exact hT'.out, hB'.out⟩
            case round =>
              obtain ⟨t, ht1, ht2, rfl, hT, hB⟩ := hrel
              clear hT' hB'
              by_cases hlt2 : t < bm.length
              · have lW := parF_len (f := fW bm) (n := bm.length) (i := i) (t := t) (by omega) (by omega) hn20
                have hsx := hB.size
                have hK1 := Lib.hid (fun W (h : Below V.heap.size V W) => has_any vp (pairs bm) ((bm.length : Int) - 1 - (t : Int)) ((bm.length : Int) - 1 - (i : Int)) W (gP.out.carry h))
                by_cases hw : hasB (pairs bm) ((bm.length : Int) - 1 - (t : Int)) ((bm.length : Int) - 1 - (i : Int)) = true
                · by_cases htk : t < kk
                  · rw [hw] at hK1
                    have hz := Lib.hid (parF_yes (f := fW bm) (n := bm.length) (i := i) (t := t) (by omega) (show fW bm i t = true from hw))
                    have hTl := Lib.hid hT
                    have hTo := hT.1
                    have hB' := Lib.hid hB
                    clear hw hT hB
                    have hdk : (t : Int) < (kk : Int) := by omega
                    go_wp2_with fail
                    refine (hK1.out _ hB'.out).mono ?_
                    rintro e w' ⟨rfl, rfl⟩
                    go_wp2_with (at_builtin; refine wpList_append_own_at _ rfl _ _ 31 rfl V.heap.size 39 j0 _ 2 16 Try.underlying31 hj0'.out hy0'.out hy1'.out hy2'.out rfl (by decide) _ _ _ rfl (World.ownsRow.alloc hTo _) ⟨wr.heap.size, 0, none⟩ 1 1 [.int .i64 (i : Int), .int .i64 (t : Int)] rfl rfl (new_cells _ _ _ _ rfl) (two_one _ _) (by unfold maxLen; omega) (by omega) (by simp; omega) ?_; intro v' w2 hown2 hg2 _ hloc2)
                    have hT3 := hTl.out.left hown2 hg2 hloc2
                    rw [← hz.out] at hT3
                    have hT3' := Lib.hid hT3
                    have hB3' := Lib.hid ((below_step hB'.out (alloc_below _ _)).grown hg2 (by simp; omega) (fun q hq => (World.ownsRow.lt hTo q hq).1))
                    clear hT3 hown2 hg2 hloc2 hTo hTl hB' hz hK1
                    by_cases hf : hasB (pairs bm) (i : Int) (t : Int) = true
                    · have hy := Lib.hid (parF_yes (f := fF bm kk) (n := bm.length) (i := i) (t := t) (by omega) (fF_true htk hf))
                      have hK := Lib.hid (has_any vp (pairs bm) (i : Int) (t : Int) w2 (gP.out.carry (hB3'.out)))
                      rw [hf] at hK
                      have lF := parF_len (f := fF bm kk) (n := bm.length) (i := i) (t := t) (by omega) (by omega) hn20
                      have hsx := ((hB3'.out)).size
                      have hTR := Lib.hid (hT3'.out)
                      have hTo := ((hT3'.out)).2.1
                      have hBx := Lib.hid (hB3'.out)
                      clear hf
                      refine hK.out.mono ?_
                      rintro e w' ⟨rfl, rfl⟩
                      go_wp2_with (at_builtin; refine wpList_append_own_at _ rfl _ _ 31 rfl V.heap.size 39 j0 _ 2 16 Try.underlying31 hj0'.out hy0'.out hy1'.out hy2'.out rfl (by decide) _ _ _ rfl (World.ownsRow.alloc hTo _) ⟨w2.heap.size, 0, none⟩ 1 1 [.int .i64 (i : Int), .int .i64 (t : Int)] rfl rfl (new_cells _ _ _ _ rfl) (two_one _ _) (by unfold maxLen; omega) (by omega) (by simp; omega) ?_; intro v' w2 hown2 hg2 _ hloc2)
                      have hT2 := hTR.out.right hown2 hg2 hloc2
                      have hB2 := (below_step hBx.out (alloc_below _ _)).grown hg2 (by simp; omega) (fun j hj => (World.ownsRow.lt hTo j hj).1)
                      go_wp2_with fail
                      go_roundw
                      case rel => exact ⟨t + 1, by omega, by omega, by go_num, by rw [hy.out]; exact hT2, hB2⟩
                      case measure => simp [intOf]; omega
                    · have hf' : hasB (pairs bm) (i : Int) (t : Int) = false := by simpa using hf
                      have hy := Lib.hid (parF_no (f := fF bm kk) (n := bm.length) (i := i) (t := t) (fF_false (Or.inr hf')))
                      have hK := Lib.hid (has_any vp (pairs bm) (i : Int) (t : Int) w2 (gP.out.carry (hB3'.out)))
                      rw [hf'] at hK
                      have hTR := Lib.hid (hT3'.out)
                      have hBx := Lib.hid (hB3'.out)
                      clear hf hf'
                      refine hK.out.mono ?_
                      rintro e w' ⟨rfl, rfl⟩
                      go_wp2_with fail
                      go_roundw
                      case rel => exact ⟨t + 1, by omega, by omega, by go_num, by rw [hy.out]; exact hTR.out, hBx.out⟩
                      case measure => simp [intOf]; omega
                  · rw [hw] at hK1
                    have hz := Lib.hid (parF_yes (f := fW bm) (n := bm.length) (i := i) (t := t) (by omega) (show fW bm i t = true from hw))
                    have hTl := Lib.hid hT
                    have hTo := hT.1
                    have hB' := Lib.hid hB
                    clear hw hT hB
                    have hdk : (kk : Int) ≤ (t : Int) := by omega
                    go_wp2_with fail
                    refine (hK1.out _ hB'.out).mono ?_
                    rintro e w' ⟨rfl, rfl⟩
                    go_wp2_with (at_builtin; refine wpList_append_own_at _ rfl _ _ 31 rfl V.heap.size 39 j0 _ 2 16 Try.underlying31 hj0'.out hy0'.out hy1'.out hy2'.out rfl (by decide) _ _ _ rfl (World.ownsRow.alloc hTo _) ⟨wr.heap.size, 0, none⟩ 1 1 [.int .i64 (i : Int), .int .i64 (t : Int)] rfl rfl (new_cells _ _ _ _ rfl) (two_one _ _) (by unfold maxLen; omega) (by omega) (by simp; omega) ?_; intro v' w2 hown2 hg2 _ hloc2)
                    have hT3 := hTl.out.left hown2 hg2 hloc2
                    rw [← hz.out] at hT3
                    have hT3' := Lib.hid hT3
                    have hB3' := Lib.hid ((below_step hB'.out (alloc_below _ _)).grown hg2 (by simp; omega) (fun q hq => (World.ownsRow.lt hTo q hq).1))
                    clear hT3 hown2 hg2 hloc2 hTo hTl hB' hz hK1
                    have hy := Lib.hid (parF_no (f := fF bm kk) (n := bm.length) (i := i) (t := t) (fF_false (Or.inl htk)))
                    go_roundw
                    case rel => exact ⟨t + 1, by omega, by omega, by go_num, by rw [hy.out]; exact (hT3'.out), (hB3'.out)⟩
                    case measure => simp [intOf]; omega
                · by_cases htk : t < kk
                  · have hw' : hasB (pairs bm) ((bm.length : Int) - 1 - (t : Int)) ((bm.length : Int) - 1 - (i : Int)) = false := by simpa using hw
                    rw [hw'] at hK1
                    have hz := Lib.hid (parF_no (f := fW bm) (n := bm.length) (i := i) (t := t) (show fW bm i t = false from hw'))
                    rw [← hz.out] at hT
                    have hT3' := Lib.hid hT
                    have hB3' := Lib.hid hB
                    clear hw hw' hT hB hz
                    have hdk : (t : Int) < (kk : Int) := by omega
                    go_wp2_with fail
                    refine (hK1.out _ hB3'.out).mono ?_
                    rintro e w' ⟨rfl, rfl⟩
                    clear hK1
                    go_wp2_with fail
                    by_cases hf : hasB (pairs bm) (i : Int) (t : Int) = true
                    · have hy := Lib.hid (parF_yes (f := fF bm kk) (n := bm.length) (i := i) (t := t) (by omega) (fF_true htk hf))
                      have hK := Lib.hid (has_any vp (pairs bm) (i : Int) (t : Int) wr (gP.out.carry (hB3'.out)))
                      rw [hf] at hK
                      have lF := parF_len (f := fF bm kk) (n := bm.length) (i := i) (t := t) (by omega) (by omega) hn20
                      have hsx := ((hB3'.out)).size
                      have hTR := Lib.hid (hT3'.out)
                      have hTo := ((hT3'.out)).2.1
                      have hBx := Lib.hid (hB3'.out)
                      clear hf
                      refine hK.out.mono ?_
                      rintro e w' ⟨rfl, rfl⟩
                      go_wp2_with (at_builtin; refine wpList_append_own_at _ rfl _ _ 31 rfl V.heap.size 39 j0 _ 2 16 Try.underlying31 hj0'.out hy0'.out hy1'.out hy2'.out rfl (by decide) _ _ _ rfl (World.ownsRow.alloc hTo _) ⟨wr.heap.size, 0, none⟩ 1 1 [.int .i64 (i : Int), .int .i64 (t : Int)] rfl rfl (new_cells _ _ _ _ rfl) (two_one _ _) (by unfold maxLen; omega) (by omega) (by simp; omega) ?_; intro v' w2 hown2 hg2 _ hloc2)
                      have hT2 := hTR.out.right hown2 hg2 hloc2
                      have hB2 := (below_step hBx.out (alloc_below _ _)).grown hg2 (by simp; omega) (fun j hj => (World.ownsRow.lt hTo j hj).1)
                      go_wp2_with fail
                      go_roundw
                      case rel => exact ⟨t + 1, by omega, by omega, by go_num, by rw [hy.out]; exact hT2, hB2⟩
                      case measure => simp [intOf]; omega
                    · have hf' : hasB (pairs bm) (i : Int) (t : Int) = false := by simpa using hf
                      have hy := Lib.hid (parF_no (f := fF bm kk) (n := bm.length) (i := i) (t := t) (fF_false (Or.inr hf')))
                      have hK := Lib.hid (has_any vp (pairs bm) (i : Int) (t : Int) wr (gP.out.carry (hB3'.out)))
                      rw [hf'] at hK
                      have hTR := Lib.hid (hT3'.out)
                      have hBx := Lib.hid (hB3'.out)
                      clear hf hf'
                      refine hK.out.mono ?_
                      rintro e w' ⟨rfl, rfl⟩
                      go_wp2_with fail
                      go_roundw
                      case rel => exact ⟨t + 1, by omega, by omega, by go_num, by rw [hy.out]; exact hTR.out, hBx.out⟩
                      case measure => simp [intOf]; omega
                  · have hw' : hasB (pairs bm) ((bm.length : Int) - 1 - (t : Int)) ((bm.length : Int) - 1 - (i : Int)) = false := by simpa using hw
                    rw [hw'] at hK1
                    have hz := Lib.hid (parF_no (f := fW bm) (n := bm.length) (i := i) (t := t) (show fW bm i t = false from hw'))
                    rw [← hz.out] at hT
                    have hT3' := Lib.hid hT
                    have hB3' := Lib.hid hB
                    clear hw hw' hT hB hz
                    have hdk : (kk : Int) ≤ (t : Int) := by omega
                    go_wp2_with fail
                    refine (hK1.out _ hB3'.out).mono ?_
                    rintro e w' ⟨rfl, rfl⟩
                    clear hK1
                    go_wp2_with fail
                    have hy := Lib.hid (parF_no (f := fF bm kk) (n := bm.length) (i := i) (t := t) (fF_false (Or.inl htk)))
                    go_roundw
                    case rel => exact ⟨t + 1, by omega, by omega, by go_num, by rw [hy.out]; exact (hT3'.out), (hB3'.out)⟩
                    case measure => simp [intOf]; omega
              · obtain rfl : t = bm.length := by omega
                go_wp2_with fail
                go_roundw
                case rel => exact ⟨i + 1, by omega, by go_num, by rw [← parF_end, ← parF_end]; exact hT, hB⟩
                case measure => simp [intOf]; omega
          · obtain rfl : i = bm.length := by omega
            have gR := Lib.hid hB
            have gPre : Hid (BoxesAt V (.slice (some ⟨gm, 0, none⟩) kk capm) (bm.take kk)) := Lib.hid (Or.inr ⟨gm, 0, capm, by rw [show (bm.take kk).length = kk by rw [List.length_take]; omega], (rM.out.carry hVb.out).take kk⟩)
            have gWv := Lib.hid (show PairsAt _ _ (pairs bm.reverse) from pairs_reverse bm ▸ PairsAt.owned hT.1)
            have gFv := Lib.hid (show PairsAt _ _ (pairs (bm.take kk)) from pairs_take bm kk hkk ▸ PairsAt.owned hT.2.1)
            clear hT hB hlt
            go_wp2_with fail
            refine (pairsG_any _ bm.reverse _ (gBack.out.carry gR.out) (by rw [List.length_reverse]; omega)).mono ?_
            rintro e u5 ⟨⟨p5, rfl, o5⟩, hb5⟩
            have hb5' := Lib.hid hb5
            have o5' := Lib.hid o5
            clear o5 hb5
            go_wp2_with fail
            refine (sameT_any _ _ _ _ o5'.out (gWv.out.carry hb5'.out)).mono ?_
            rintro e u6 ⟨rfl, hb6⟩
            have hb6' := Lib.hid hb6
            clear hb6
            go_wp2_with fail
            refine (pairsG_any _ (bm.take kk) _ (((gPre.out.carry gR.out).carry hb5'.out).carry hb6'.out) (by rw [List.length_take]; omega)).mono ?_
            rintro e u7 ⟨⟨p7, rfl, o7⟩, hb7⟩
            have hb7' := Lib.hid hb7
            have o7' := Lib.hid o7
            clear o7 hb7
            go_wp2_with fail
            refine (sameT_any _ _ _ _ o7'.out (((gFv.out.carry hb5'.out).carry hb6'.out).carry hb7'.out)).mono ?_
            rintro e u8 ⟨rfl, hb8⟩
            have hb8' := Lib.hid hb8
            clear hb8
            go_wp2_with fail
            refine (lives4_any _).mono ?_
            rintro e u9 ⟨rfl, hb9⟩
            go_wp2
            go_ret
            exact ⟨rfl, below_step (below_step gV.out gR.out) (below_step (below_step (below_step (below_step hb5'.out hb6'.out) hb7'.out) hb8'.out) hb9)⟩
      | succ j =>
        rw [show ((j + 1 : Nat) : Int) - 1 = (j : Int) by omega]
        obtain ⟨c0, c1, c2, c3⟩ := row_box (i := j) (rM.out.carry hbl) (by omega)
        simp only [Nat.zero_add] at c0 c1 c2 c3
        have hz := Lib.hid (show (bm.reverse.take (bm.length - j)).flatMap Bx.cells = (bm.reverse.take (bm.length - (j + 1))).flatMap Bx.cells ++ [.int .i64 (at' bm j).x0, .int .i64 (at' bm j).y0, .int .i64 (at' bm j).x1, .int .i64 (at' bm j).y1] by rw [rev_take (by omega), flat_snoc_bx])
        have hwo := hbl.size
        generalize (at' bm j).x0 = X0 at *
        generalize (at' bm j).y0 = Y0 at *
        generalize (at' bm j).x1 = X1 at *
        generalize (at' bm j).y1 = Y1 at *
        have hjl : (j : Int) < (bm.length : Int) := by omega
        go_wp2_with (at_builtin; refine wpList_append_own _ rfl _ _ 27 rfl u1.heap.size 23 i0 _ 4 32 Try.underlying27 hi0'.out hz0'.out hz1'.out hz2'.out rfl (by decide) _ _ _ rfl (hown.alloc _) ⟨wr.heap.size, 0, none⟩ 1 1 [.int .i64 X0, .int .i64 Y0, .int .i64 X1, .int .i64 Y1] rfl rfl (new_cells _ _ _ _ rfl) (four_one _ _ _ _) (by unfold maxLen; omega) (by omega) (by simp; omega) ?_; intro v' w2 hown2 hg2 _)
        have hB2 := (below_step hbl (alloc_below wr _)).grown hg2 (by simp; omega) (fun q hq => (hown.lt q hq).1)
        go_wp2_with fail
        go_roundw
        case rel => exact ⟨j, by omega, rfl, by rw [hz.out, show bm.length - j = bm.length - (j + 1) + 1 by omega]; exact hown2, hB2⟩
        case measure => simp [intOf]

set_option maxRecDepth 100000 in
theorem lifted (os : Os) (started : os.Started) (H : Type) (enc : TypeId × Value → H) :
    ReturnsInHanded {} Try.checked os 7 .any (Rows.broadphasePermutedSpec.pre6 enc Try.prog Try.f7 Rows.broadphasePermutedRow.domain false) (Rows.broadphasePermutedSpec.post enc Try.prog Try.f7 false true false false) := by
  refine returnsInHanded_of_change (C := Try.checked) own started (by kernel_rfl) Try.func7
    (ChangeSpec.witness6 (enc := enc) (C := Try.checked) false ⟨#[], #[.slice none 0 0, .int .i64 0], []⟩ 8 (by kernel_rfl) (by kernel_rfl) (by kernel_rfl) (by kernel_rfl)) ?_
  intro W base args ds gs before hval0 hW hcnd _
  have hval : ∀ (j : Nat) t v, Try.f7.params[j]? = some t → args[j]? = some v → Value.okWide Try.prog W .any base t v := hval0
  have hW' := hW
  obtain ⟨p, q, hA0, hV, rfl, hfz, hnd⟩ := hW
  have hA : DataW.TrodAll enc Try.prog W 0 (fun _ => true) true Try.f7.params.toList args.toList ds p := hA0
  rw [Try.params7] at hA hval
  have hAk := hA
  obtain ⟨v0, vs0, d0, ds0, p0, q0, hargs, rfl, hp0, h0, r0⟩ := trodAll_cons hA
  obtain ⟨v1, vs1, d1, ds1, p1, q1, rfl, rfl, hp1, h1, r1⟩ := trodAll_cons r0
  obtain ⟨rfl, rfl, -⟩ := trodAll_nil r1
  obtain rfl : args = #[v0, v1] := by cases args; simp_all
  obtain ⟨rfl, rfl⟩ := trodVars_none hV
  obtain ⟨x0, q0, c0, rfl⟩ := okWide_slice Try.underlying28 (hval 0 28 v0 rfl rfl)
  obtain ⟨fu0, fh0⟩ := h0
  obtain ⟨s0, Z0, l0, e0, H0⟩ := open_int_cells Try.underlying28 Try.underlying3 (by kernel_rfl) fh0
  simp only [Value.cells, List.cons.injEq, and_true] at e0
  obtain rfl := e0.symm
  obtain ⟨a1, rfl, -, -, w1⟩ := open_int Try.underlying3 (hval 1 3 v1 rfl rfl) h1
  clear hA0 hval0
  simp only [List.append_nil] at hW'
  refine (walk W _ Z0 l0 H0 a1 w1).mono fun e W' ⟨he, hb⟩ => ?_
  subst he
  exact ⟨_, rfl, kept_post (pa := p) hW' (fun _ _ _ => (trodAll_cons_mk (shut_bool Try.underlying4 _) trodAll_mk0)) (fun sp hsp => trodAll_stays laid hb (by rw [Try.params7]; decide +kernel) hAk (fun x hx => hW'.lt x hx) hsp) (fun _ => rfl) hb (ok_one (by kernel_rfl) rfl (okWide_bool_mk Try.underlying4 _))⟩

theorem over : Rows.broadphasePermutedRow.holds Try.pinned (OpenSpec.ofChange Rows.broadphasePermutedSpec) :=
  OpenClaim.holds_of_wide 7 Try.f7 rfl rfl rfl rfl rfl rfl rfl ⟨rfl, rfl, rfl, rfl, rfl⟩ rfl rfl rfl rfl rfl (by kernel_rfl) Try.func7 (by kernel_rfl)
    (of_decide_eq_true (by kernel_rfl)) (by unfold Func.isWrapper; first | (rw [if_pos (by decide +kernel)]; kernel_rfl) | (rw [if_neg (by decide +kernel)]; exact ⟨rfl, rfl⟩))
    (fun os started H enc _ => lifted os started H enc)

theorem proved : Rows.BroadphasePermutedSaid :=
  over
#print axioms proved
end Go.Proofs.Ytbgafimiodfkaaa.broadphasePermuted
