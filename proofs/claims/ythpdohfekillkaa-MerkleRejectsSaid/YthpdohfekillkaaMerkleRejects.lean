/-
  package merkle, P11.3: for every list of cells (its first 20) and leaves of any of them (up to 6), proven by the reference, and again with one of them replaced by a leaf of other cells or with one element changed, NewPartial accepts exactly the lists that the reference accepts, and gives a tree if and only if it does; whatever the arguments are.
-/
import Derived.Test.YthpdohfekillkaaRows
import Derived.WalkKit
import Derived.ProofKit
import Derived.OpenShut
import Derived.Test.YthpdohfekillkaaOpen
import Derived.Test.YthpdohfekillkaaOpenB
import Derived.Test.YthpdohfekillkaaMlQ
namespace Go.Proofs.Ythpdohfekillkaa.merkleRejects
open Go.ChangeShapes Go.WideShapes Go.ChangeAt Go.RowKit
set_option linter.unusedVariables false
set_option linter.unusedSimpArgs false

theorem wrong_0 {root : W64} {n : Nat} {ls : List Lf} (h : okL root n ls) : wrongV root n ls = 0 := wrong_yes fun t _ => h t
theorem i64_wrap (n : Int) : I64 (wrap64 n) := by unfold I64 wrap64; omega
theorem third_64 {a : Int} (h : I64 a) : I64 (a.tdiv 3) := by
  have e1 := Int.mul_tdiv_add_tmod a 3
  have e2 := Int.tmod_lt_of_pos a (b := 3) (by decide)
  have e3 := Int.lt_tmod_of_pos a (b := 3) (by decide)
  unfold I64 at *; omega
theorem bL_len (l : List W64) (how by_ : Int) : (bL l how by_).length = l.length := by unfold bL; split <;> simp
theorem bI_64 {i : Int} {l : List W64} {how by_ : Int} (hi : I64 i) : I64 (bI i l how by_) := by
  unfold bI
  split
  · exact i64_wrap _
  · exact hi
theorem bV_64 {v : Int} {l : List W64} {how by_ : Int} (hv : I64 v) : I64 (bV v l how by_) := by
  unfold bV
  split
  · exact i64_wrap _
  · exact hv
theorem wrong_22 {root : W64} {n : Nat} {ls : List Lf} (h : ¬ okL root n ls) : wrongV root n ls = 22 := by unfold wrongV; rw [if_neg h]
theorem own : ownKnob Try.prog.godebug = none := by kernel_rfl
theorem laid : laidOutB Try.prog = true := by kernel_rfl

set_option maxRecDepth 100000 in
set_option maxHeartbeats 8000000 in
theorem walk (w : World) (s0 : Value) (Z0 : Nat → Int) (l0 : Nat) (H0 : IntsAt w s0 1 Z0 l0) (N0 : ∀ n c, s0 = .slice none n c → s0 = .slice none 0 0) (s1 : Value) (Z1 : Nat → Int) (l1 : Nat) (H1 : IntsAt w s1 1 Z1 l1) (N1 : ∀ n c, s1 = .slice none n c → s1 = .slice none 0 0) (a2 : Int) (w2 : (Lit.int .i64 a2).wf = true) (a3 : Int) (w3 : (Lit.int .i64 a3).wf = true) (a4 : Int) (w4 : (Lit.int .i64 a4).wf = true) (s5 : Value) (Z5 : Nat → Int) (l5 : Nat) (H5 : IntsAt w s5 1 Z5 l5) (N5 : ∀ n c, s5 = .slice none n c → s5 = .slice none 0 0) :
    Calls Try.prog 9 #[s0, s1, .int .i64 a2, .int .i64 a3, .int .i64 a4, s5] w fun e w' => e = .returned (.bool true) ∧ Below w.heap.size w w' := by
  obtain ⟨M, hM20, hM64, kC0⟩ := cells11 H0 N0
  obtain ⟨M', hO20, hO64, kD0⟩ := cells11 H5 N5
  have kC := Lib.hid kC0
  have kD := Lib.hid kD0
  have i2 := lit_i64 w2
  have i3 := lit_i64 w3
  have i4 := lit_i64 w4
  clear kC0 kD0
  have hM := Lib.hid (show M.length ≤ 1000 from by omega)
  have hO := Lib.hid (show M'.length ≤ 1000 from by omega)
  have hKn := Lib.hid (IntsAt.il H1)
  have hK64 := Lib.hid (ints_64 H1)
  generalize (List.range l1).map Z1 = K at *
  obtain ⟨ka, kc, rfl, k1, k2, k3⟩ := IL.shape hKn.out
  obtain ⟨kl, hkl⟩ : ∃ kl, kl = K.length := ⟨_, rfl⟩
  rw [← hkl] at k1 k3 ⊢
  have hkl' := Lib.hid hkl
  have hKc := Lib.hid k3
  unfold maxLen at k2
  clear hkl k3 hKn
  clear H0 H1 H5 N0 N1 N5
  go_enter Try.func9, Try.ntmps9
  go_wp2_with fail
  refine (kC.out w (Below.refl _ _)).mono ?_
  rintro e W1 ⟨ca, cc, rfl, hI1, hcn, hb1⟩
  go_wp2_with fail
  refine (kD.out W1 hb1).mono ?_
  rintro e W2 ⟨da, dc, rfl, hJ1, hdn, hb2⟩
  have hI := Lib.hid (hI1.carry hb2)
  have kR := Lib.hid (refRoot_any _ M W2 hI.out (by have := hM.out; omega))
  go_wp2_with fail
  refine (kR.out).mono ?_
  rintro e W3 ⟨rfl, hb3⟩
  have hI3 := Lib.hid (hI.out.carry hb3)
  have hJ3 := Lib.hid (hJ1.carry hb3)
  have hB3 := Lib.hid (below_step (below_step hb1 hb2) hb3)
  generalize hroot : rootW M = root at *
  clear hb1 hb2 hb3 hI1 hI hJ1 kC kD kR hroot
  obtain ⟨n, hn⟩ : ∃ n, n = M.length := ⟨_, rfl⟩
  obtain ⟨no, hno⟩ : ∃ no, no = M'.length := ⟨_, rfl⟩
  rw [← hn] at hI3 hM20 hcn ⊢
  rw [← hno] at hJ3 hO20 hdn ⊢
  have hn' := Lib.hid hn
  have hno' := Lib.hid hno
  clear hn hno
  obtain ⟨i0, hi0, hz0, hz1, hz2⟩ := info_parts info_leaf
  have hi0' := Lib.hid (And.intro hi0 (And.intro hz0 (And.intro hz1 hz2)))
  clear hi0 hz0 hz1 hz2
  have hwn : IntKind.i64.wrap ((n : Int) + 1) = (n : Int) + 1 := by rw [IntKind.wrap_i64]; omega
  go_wp2_with fail
  go_loopw [16, 17] (fun s i wr => ∃ (t : Nat) (ls : List Lf), t ≤ 6 ∧ t ≤ kl ∧ (∃ a c, s = .slice a t c) ∧ i = .int .i64 (t : Nat) ∧ ls.length = t ∧ LR wr W3.heap.size s ls ∧ Below W3.heap.size W3 wr) (fun _ i _ => 6 - (intOf i).toNat)
  case atStart => exact ⟨0, [], by omega, by omega, ⟨none, 0, rfl⟩, rfl, rfl, LR.nil _ _, Below.refl _ _⟩
  case round =>
    obtain ⟨t, ls, ht6, htk, ⟨sa, sc, rfl⟩, rfl, hlen, hR, hB⟩ := hrel
    have hR' := Lib.hid hR
    have hB' := Lib.hid hB
    have hlen' := Lib.hid hlen
    clear hR hlen
    by_cases hin : t < kl ∧ t < 6
    · obtain ⟨hlt, h6'⟩ := hin
      by_cases h6 : t < 6
      · obtain ⟨kg, koff, rfl, hkg, hkc⟩ := hKc.out (by omega)
        obtain ⟨y, hy⟩ : ∃ y, K[t]? = some y := ⟨_, List.getElem?_eq_getElem (by rw [← hkl'.out]; exact hlt)⟩
        have cy := carry (below_step hB3.out hB) (hkc t y hy)
        have y64 := hK64.out.at hy
        have kA := Lib.hid (fun W => around_any y ((n : Int) + 1) W y64.1 y64.2 (by omega))
        have hai := Lib.hid (arnd_64 y (m := (n : Int) + 1) (by omega) (by omega))
        have kP := Lib.hid (refProve_any _ M (arnd y ((n : Int) + 1)) wr (hI3.out.carry hB) hM.out hai.out)
        generalize arnd y ((n : Int) + 1) = q at *
        have hfew := Lib.hid (prL_few hM.out q)
        have h64a := Lib.hid (prI_64 hM.out q)
        have h64b := Lib.hid (prV_64 hM64 q)
        generalize prL M q = pl at *
        generalize prI M q = pi at *
        generalize prV M q = pv at *
        have d1 : decide ((t : Int) < (kl : Int)) = true := decide_eq_true (by omega)
        have d2 : decide ((t : Int) < 6) = true := decide_eq_true (by omega)
        clear hkc hy hB y64
        go_wp2_with (first
          | (go_at_call 13; with_reducible refine (kA.out _).mono ?_; rintro e y1 ⟨rfl, rfl⟩)
          | (go_at_call 19; with_reducible refine (kP.out).mono ?_; rintro e y2 ⟨pv1, rfl, hoX, hb4⟩; have hR4 := Lib.hid (hR'.out.below hb4); have hO4 := Lib.hid (show y2.ownsRow W3.heap.size 33 3 (.slice sa t sc) t (lfs ls) from by have := hR4.out.own; rw [hlen'.out] at this; exact this); have hB4 := Lib.hid (below_step hB'.out hb4); have hXV := Lib.hid (VL.owned hoX); have hXn := Lib.hid (own_nil hoX); have hXb := Lib.hid (fun r (hr : pv1.ownBlock = some r) => hoX.lt r hr); have hz4 := hB4.out.size; have hsz4 := hb4.size; obtain ⟨xa, xc, rfl⟩ := own_slice hoX; clear hoX hb4)
          | (at_builtin; refine wpList_append_lies _ rfl _ _ 46 rfl W3.heap.size 33 i0 _ 3 40 Try.underlying46 hi0'.out.1 hi0'.out.2.1 hi0'.out.2.2.1 hi0'.out.2.2.2 rfl (by decide) (.slice sa t sc) t (lfs ls) rfl (hO4.out.alloc _) ⟨y2.heap.size, 0, none⟩ 1 1 [.int .i64 pi, .int .i64 pv, .slice xa pl.length xc] rfl rfl (leaf_news y2 _ _ _ _ _) (leaf_ones _ _ _ _ _) Nat.one_pos (by unfold maxLen; omega) (by omega) (by rw [World.size_alloc]; omega) _ rfl ?_; intro g6 c6 W6 hown hgrow hloc hlt5))
        have hfin := hR4.out.push (f := ⟨pi, pv, .slice xa pl.length xc, pl⟩) hlen'.out.symm hown hgrow hloc ⟨hXV.out, hfew.out, h64a.out, h64b.out, hXn.out, fun r hr e => by have h1 := (hXb.out r hr).1; have h2 := (hR'.out.own.lt r e).2; omega, fun r hr => (hXb.out r hr).2⟩
        exact ⟨⟨t + 1, _, by omega, by omega, ⟨_, _, rfl⟩, by go_num, by rw [List.length_append, hlen'.out]; rfl, hfin, (hB4.out.alloc hB4.out.size _).grown hgrow (size_more y2 _ hB4.out.size) fun r e => (hO4.out.lt r e).1⟩, by simp [intOf]; omega⟩
      · exact absurd h6 (by omega)
    · go_upto_region 6 with fail
      go_cut [34] (fun c W => c = .bool false ∧ W = wr)
      case first =>
        by_cases j1 : t < kl
        · have q2 : ¬ (t : Int) < 6 := by omega
          have q1 : (t : Int) < (kl : Int) := by omega
          go_wp2_with fail
          go_meet
          exact ⟨rfl, rfl⟩
        · have q1 : ¬ (t : Int) < (kl : Int) := by omega
          go_wp2_with fail
          go_meet
          exact ⟨rfl, rfl⟩
      obtain ⟨hc34, hcW⟩ := hcut
      subst hc34
      obtain ⟨X, hX⟩ : ∃ V, V = wc := ⟨wc, rfl⟩
      subst hX
      subst hcW
      have h64 := Lib.hid hR'.out.wf
      have hLL := Lib.hid hR'.out.ll
      have kN := Lib.hid (newPartial_any root n _ ls _ hLL.out (by omega) (by rw [hlen'.out]; omega) h64.out)
      have hlt' := Lib.hid hlen'.out
      clear hB hin
      go_upto_region 9 with fail
      go_cut [18, 19] (fun v1 v2 W => ∃ P, v1 = .pointer P ∧ v2 = .int .i64 (wrongV root n ls) ∧ ((P = none ∧ wrongV root n ls = 22) ∨ ((∃ b, P = some b) ∧ wrongV root n ls = 0)) ∧ Below X.heap.size X W)
      case first =>
        go_wp2_with fail
        refine (kN.out).mono ?_
        rintro e W5 (⟨hok, b, b1, b2, rfl, _, _, hb5⟩ | ⟨hok, rfl, hb5⟩)
        · have hw := Lib.hid (wrong_0 hok)
          go_wp2_with fail
          go_meet
          exact ⟨_, rfl, by rw [hw.out], .inr ⟨⟨_, rfl⟩, hw.out⟩, hb5⟩
        · have hw := Lib.hid (wrong_22 hok)
          go_wp2_with fail
          go_meet
          exact ⟨_, rfl, by rw [hw.out], .inl ⟨rfl, hw.out⟩, hb5⟩
      obtain ⟨P, h18, h19, hPk, hb5⟩ := hcut
      subst h18
      subst h19
      obtain ⟨X5, hX5⟩ : ∃ V, V = wc := ⟨wc, rfl⟩
      subst hX5
      have kW := Lib.hid (refWrong_any root n _ ls X5 (hLL.out.carry hb5) (by omega) (by rw [hlen'.out]; omega))
      have hb5' := Lib.hid hb5
      generalize wrongV root n ls = z at *
      clear hb5 kN
      go_upto_region 10 with fail
      go_cut [71] (fun c W => c = .bool false ∧ Below X.heap.size X W)
      case first =>
        rcases hPk with ⟨rfl, rfl⟩ | ⟨⟨b, rfl⟩, rfl⟩
        · go_wp2_with fail
          refine (kW.out).mono ?_
          rintro e W6 ⟨rfl, hb6⟩
          go_wp2_with fail
          go_meet
          exact ⟨rfl, below_step hb5'.out hb6⟩
        · go_wp2_with fail
          refine (kW.out).mono ?_
          rintro e W6 ⟨rfl, hb6⟩
          go_wp2_with fail
          go_meet
          exact ⟨rfl, below_step hb5'.out hb6⟩
      obtain ⟨h71, hb6⟩ := hcut
      subst h71
      obtain ⟨X6, hX6⟩ : ∃ V, V = wc := ⟨wc, rfl⟩
      subst hX6
      have hB6 := Lib.hid (below_step (below_step hB3.out hB'.out) hb6)
      have hR6 := Lib.hid (hR'.out.below hb6)
      have hJ6 := Lib.hid (hJ3.out.carry (below_step hB'.out hb6))
      clear hb6 hPk kW hb5' hLL hR' h64
      by_cases h0 : t = 0
      · subst h0
        have hz : (((0 : Nat) : Int) == 0) = true := rfl
        go_wp2_with fail
        refine (lives11_any _).mono ?_
        rintro e W7 ⟨rfl, hb7⟩
        go_wp2
        go_ret
        exact ⟨rfl, below_step hB6.out hb7⟩
      · have hz : ((t : Int) == 0) = false := by simp only [beq_eq_false_iff_ne, ne_eq]; omega
        have hz2 : ¬ (t : Int) = 0 := by omega
        have kA := Lib.hid (fun W => around_any a2 (t : Int) W i2.1 i2.2 (by omega))
        have hk := arnd_bd a2 (m := (t : Int)) (by omega)
        generalize arnd a2 (t : Int) = k0 at *
        obtain ⟨k, rfl⟩ : ∃ k : Nat, k0 = (k : Int) := ⟨k0.toNat, by omega⟩
        have hkt : k < t := by omega
        clear hk
        go_wp2_with fail
        refine (kA.out _).mono ?_
        rintro e W7 ⟨rfl, rfl⟩
        obtain ⟨g, rfl, g1, g2, gB, gS, gf, gc⟩ := hR6.out.form hlen'.out (by omega)
        obtain ⟨f, hf⟩ : ∃ f, ls[k]? = some f := ⟨_, List.getElem?_eq_getElem (by rw [hlen'.out]; exact hkt)⟩
        have hG := hR6.out.each k f hf
        obtain ⟨c0, c1, c2⟩ := gc k f hf
        have f0 := gf (k * 3)
        have f1 := gf (k * 3 + 1)
        have f2 := gf (k * 3 + 2)
        have hwf := Lib.hid hR6.out.wf
        clear gc gf hf
        obtain ⟨fi, fv, fp, fl⟩ := f
        obtain ⟨gpr, gfew, gi, gv, gnn, gap, glt⟩ := hG
        obtain ⟨pa, pc, hpv, q1, q2, q3⟩ := WL.shape gpr
        simp only at hpv c0 c1 c2 gpr gfew gi gv gnn gap glt
        subst hpv
        unfold maxLen at g2 q2
        have gi' := Lib.hid gi
        have gv' := Lib.hid gv
        have gnn' := Lib.hid gnn
        have gpr' := Lib.hid gpr
        clear q3 gap glt gi gv gnn gpr
        by_cases hr : a3.tmod 3 = 0
        · have hr1 : (a3.tmod 3 == 0) = true := by rw [hr]; rfl
          have hr1' := Lib.hid hr1
          have kP := Lib.hid (refProve_any _ M' fi X6 hJ6.out hO.out gi'.out)
          have hfew := Lib.hid (prL_few hO.out fi)
          have h64a := Lib.hid (prI_64 hO.out fi)
          have h64b := Lib.hid (prV_64 hO64 fi)
          generalize prL M' fi = pl at *
          generalize prI M' fi = pi at *
          generalize prV M' fi = pv at *
          clear hr
          go_upto_region 16 with fail
          go_upto_region 18 with (go_at_call 19; with_reducible refine (kP.out).mono ?_; rintro e y2 ⟨pv1, rfl, hoX, hb4⟩; have hR7 := Lib.hid (hR6.out.below hb4); have hB7 := Lib.hid (below_step hB6.out hb4); have hXV := Lib.hid (VL.owned hoX); have hXb := Lib.hid (fun r (hr : pv1.ownBlock = some r) => hoX.lt r hr); have r0 := carry hb4 c0; have r1 := carry hb4 c1; have r2 := carry hb4 c2; have s0' := (hb4.frozen (p := ⟨g, k * 3, none⟩) gS).trans f0; have s1' := (hb4.frozen (p := ⟨g, k * 3 + 1, none⟩) gS).trans f1; have s2' := (hb4.frozen (p := ⟨g, k * 3 + 2, none⟩) gS).trans f2; have hsz4 := hb4.size; obtain ⟨xa, xc, rfl⟩ := own_slice hoX; clear hoX hb4)
          have hgw : w.heap.size ≤ g := Nat.le_trans hB3.out.size gB
          have hSL := Lib.hid (hR7.out.put hlen'.out.symm hkt ⟨pi, pv, .slice xa pl.length xc, pl⟩ hXV.out (by have := hfew.out; simp only; omega) (fun r hr => by have := (hXb.out r hr).1; omega))
          have hSB := Lib.hid (((hB7.out.setCell (p := ⟨g, k * 3, none⟩) hgw (.int .i64 pi)).setCell (p := ⟨g, k * 3 + 1, none⟩) hgw (.int .i64 pv)).setCell (p := ⟨g, k * 3 + 2, none⟩) hgw (.slice xa pl.length xc))
          have hS6 := Lib.hid (wf_set hwf.out k (f := ⟨pi, pv, .slice xa pl.length xc, pl⟩) h64a.out h64b.out)
          have hS3 := Lib.hid (show (ls.set k ⟨pi, pv, .slice xa pl.length xc, pl⟩).length = t from by rw [List.length_set]; exact hlen'.out)
          simp only at hSL
          generalize ls.set k (⟨pi, pv, .slice xa pl.length xc, pl⟩ : Lf) = ls2 at *
          generalize ((y2.setCell ⟨g, k * 3, none⟩ (.int .i64 pi)).setCell ⟨g, k * 3 + 1, none⟩ (.int .i64 pv)).setCell ⟨g, k * 3 + 2, none⟩ (.slice xa pl.length xc) = S at *
          have kN2 := Lib.hid (newPartial_any root n _ ls2 S hSL.out (by omega) (by rw [hS3.out]; omega) hS6.out)
          clear r0 r1 r2 s0' s1' s2' c0 c1 c2 f0 f1 f2
          go_cut [18, 19] (fun v1 v2 W => ∃ P, v1 = .pointer P ∧ v2 = .int .i64 (wrongV root n ls2) ∧ ((P = none ∧ wrongV root n ls2 = 22) ∨ ((∃ b, P = some b) ∧ wrongV root n ls2 = 0)) ∧ Below S.heap.size S W)
          case first =>
            go_wp2_with fail
            refine (kN2.out).mono ?_
            rintro e W5 (⟨hok, b, b1, b2, rfl, _, _, hb5⟩ | ⟨hok, rfl, hb5⟩)
            · have hw := Lib.hid (wrong_0 hok)
              go_wp2_with fail
              go_meet
              exact ⟨_, rfl, by rw [hw.out], .inr ⟨⟨_, rfl⟩, hw.out⟩, hb5⟩
            · have hw := Lib.hid (wrong_22 hok)
              go_wp2_with fail
              go_meet
              exact ⟨_, rfl, by rw [hw.out], .inl ⟨rfl, hw.out⟩, hb5⟩
          obtain ⟨P2, h18, h19, hPk, hb5⟩ := hcut
          subst h18
          subst h19
          obtain ⟨X7, hX7⟩ : ∃ V, V = wc := ⟨wc, rfl⟩
          subst hX7
          have kW := Lib.hid (refWrong_any root n _ ls2 X7 (hSL.out.carry hb5) (by omega) (by rw [hS3.out]; omega))
          have hB8 := Lib.hid (below_step hSB.out hb5)
          generalize wrongV root n ls2 = z2 at *
          clear hb5 kN2
          rcases hPk with ⟨rfl, rfl⟩ | ⟨⟨b, rfl⟩, rfl⟩
          all_goals
            go_wp2_with (first | (go_at_call 31; with_reducible refine (kW.out).mono ?_; rintro e W8 ⟨rfl, hb8⟩; have hB9 := Lib.hid (below_step hB8.out hb8); clear hb8) | (go_at_call 20; with_reducible refine (lives11_any _).mono ?_; rintro e W9 ⟨rfl, hb9⟩))
            go_ret
            exact ⟨rfl, below_step hB9.out hb9⟩
        · have hr1 : (a3.tmod 3 == 0) = false := by simpa using hr
          have hr1' := Lib.hid hr1
          have hh3 : I64 (a3.tdiv 3) := third_64 i3
          have kB := Lib.hid (refBent_any fi fv (.slice pa fl.length pc) fl (a3.tdiv 3) a4 X6 gpr'.out gnn'.out (by omega) gi'.out gv'.out hh3 i4)
          have h64a := Lib.hid (bI_64 (l := fl) (how := a3.tdiv 3) (by_ := a4) gi'.out)
          have h64b := Lib.hid (bV_64 (l := fl) (how := a3.tdiv 3) (by_ := a4) gv'.out)
          have hfew := Lib.hid (show (bL fl (a3.tdiv 3) a4).length ≤ 16 from by rw [bL_len]; omega)
          have hbl := Lib.hid (bL_len fl (a3.tdiv 3) a4)
          generalize bI fi fl (a3.tdiv 3) a4 = pi at *
          generalize bV fv fl (a3.tdiv 3) a4 = pv at *
          generalize bL fl (a3.tdiv 3) a4 = pl at *
          clear hr
          go_upto_region 17 with fail
          go_upto_region 18 with (go_at_call 22; with_reducible refine (kB.out).mono ?_; rintro e y2 ⟨pv1, rfl, hoX, hb4⟩; have hR7 := Lib.hid (hR6.out.below hb4); have hB7 := Lib.hid (below_step hB6.out hb4); have hoX2 := (show y2.ownsRow X6.heap.size 27 1 pv1 pl.length (u64s pl) from by rw [hbl.out]; exact hoX); have hXV := Lib.hid (VL.owned hoX2); have hXb := Lib.hid (fun r (hr : pv1.ownBlock = some r) => hoX2.lt r hr); have r0 := carry hb4 c0; have r1 := carry hb4 c1; have r2 := carry hb4 c2; have s0' := (hb4.frozen (p := ⟨g, k * 3, none⟩) gS).trans f0; have s1' := (hb4.frozen (p := ⟨g, k * 3 + 1, none⟩) gS).trans f1; have s2' := (hb4.frozen (p := ⟨g, k * 3 + 2, none⟩) gS).trans f2; have hsz4 := hb4.size; obtain ⟨xa, xc, rfl⟩ := own_slice hoX; clear hoX hoX2 hb4)
          have hgw : w.heap.size ≤ g := Nat.le_trans hB3.out.size gB
          have hSL := Lib.hid (hR7.out.put hlen'.out.symm hkt ⟨pi, pv, .slice xa fl.length xc, pl⟩ hXV.out (by have := hfew.out; simp only; omega) (fun r hr => by have := (hXb.out r hr).1; omega))
          have hSB := Lib.hid (((hB7.out.setCell (p := ⟨g, k * 3, none⟩) hgw (.int .i64 pi)).setCell (p := ⟨g, k * 3 + 1, none⟩) hgw (.int .i64 pv)).setCell (p := ⟨g, k * 3 + 2, none⟩) hgw (.slice xa fl.length xc))
          have hS6 := Lib.hid (wf_set hwf.out k (f := ⟨pi, pv, .slice xa fl.length xc, pl⟩) h64a.out h64b.out)
          have hS3 := Lib.hid (show (ls.set k ⟨pi, pv, .slice xa fl.length xc, pl⟩).length = t from by rw [List.length_set]; exact hlen'.out)
          simp only at hSL
          generalize ls.set k (⟨pi, pv, .slice xa fl.length xc, pl⟩ : Lf) = ls2 at *
          generalize ((y2.setCell ⟨g, k * 3, none⟩ (.int .i64 pi)).setCell ⟨g, k * 3 + 1, none⟩ (.int .i64 pv)).setCell ⟨g, k * 3 + 2, none⟩ (.slice xa fl.length xc) = S at *
          have kN2 := Lib.hid (newPartial_any root n _ ls2 S hSL.out (by omega) (by rw [hS3.out]; omega) hS6.out)
          clear r0 r1 r2 s0' s1' s2' c0 c1 c2 f0 f1 f2
          go_cut [18, 19] (fun v1 v2 W => ∃ P, v1 = .pointer P ∧ v2 = .int .i64 (wrongV root n ls2) ∧ ((P = none ∧ wrongV root n ls2 = 22) ∨ ((∃ b, P = some b) ∧ wrongV root n ls2 = 0)) ∧ Below S.heap.size S W)
          case first =>
            go_wp2_with fail
            refine (kN2.out).mono ?_
            rintro e W5 (⟨hok, b, b1, b2, rfl, _, _, hb5⟩ | ⟨hok, rfl, hb5⟩)
            · have hw := Lib.hid (wrong_0 hok)
              go_wp2_with fail
              go_meet
              exact ⟨_, rfl, by rw [hw.out], .inr ⟨⟨_, rfl⟩, hw.out⟩, hb5⟩
            · have hw := Lib.hid (wrong_22 hok)
              go_wp2_with fail
              go_meet
              exact ⟨_, rfl, by rw [hw.out], .inl ⟨rfl, hw.out⟩, hb5⟩
          obtain ⟨P2, h18, h19, hPk, hb5⟩ := hcut
          subst h18
          subst h19
          obtain ⟨X7, hX7⟩ : ∃ V, V = wc := ⟨wc, rfl⟩
          subst hX7
          have kW := Lib.hid (refWrong_any root n _ ls2 X7 (hSL.out.carry hb5) (by omega) (by rw [hS3.out]; omega))
          have hB8 := Lib.hid (below_step hSB.out hb5)
          generalize wrongV root n ls2 = z2 at *
          clear hb5 kN2
          rcases hPk with ⟨rfl, rfl⟩ | ⟨⟨b, rfl⟩, rfl⟩
          all_goals
            go_wp2_with (first | (go_at_call 31; with_reducible refine (kW.out).mono ?_; rintro e W8 ⟨rfl, hb8⟩; have hB9 := Lib.hid (below_step hB8.out hb8); clear hb8) | (go_at_call 20; with_reducible refine (lives11_any _).mono ?_; rintro e W9 ⟨rfl, hb9⟩))
            go_ret
            exact ⟨rfl, below_step hB9.out hb9⟩

set_option maxRecDepth 100000 in
theorem lifted (os : Os) (started : os.Started) (H : Type) (enc : TypeId × Value → H) :
    ReturnsInHanded {} Try.checked os 9 .any (Rows.merkleRejectsSpec.pre6 enc Try.prog Try.f9 Rows.merkleRejectsRow.domain false) (Rows.merkleRejectsSpec.post enc Try.prog Try.f9 false true false false) := by
  refine returnsInHanded_of_change (C := Try.checked) own started (by kernel_rfl) Try.func9
    (ChangeSpec.witness6 (enc := enc) (C := Try.checked) false ⟨#[], #[.slice none 0 0, .slice none 0 0, .int .i64 0, .int .i64 0, .int .i64 0, .slice none 0 0], []⟩ 8 (by kernel_rfl) (by kernel_rfl) (by kernel_rfl) (by kernel_rfl)) ?_
  intro W base args ds gs before hval0 hW hcnd _
  have hval : ∀ (j : Nat) t v, Try.f9.params[j]? = some t → args[j]? = some v → Value.okWide Try.prog W .any base t v := hval0
  have hW' := hW
  obtain ⟨p, q, hA0, hV, rfl, hfz, hnd⟩ := hW
  have hA : DataW.TrodAll enc Try.prog W 0 (fun _ => true) true Try.f9.params.toList args.toList ds p := hA0
  rw [Try.params9] at hA hval
  have hAk := hA
  obtain ⟨v0, vs0, d0, ds0, p0, q0, hargs, rfl, hp0, h0, r0⟩ := trodAll_cons hA
  obtain ⟨v1, vs1, d1, ds1, p1, q1, rfl, rfl, hp1, h1, r1⟩ := trodAll_cons r0
  obtain ⟨v2, vs2, d2, ds2, p2, q2, rfl, rfl, hp2, h2, r2⟩ := trodAll_cons r1
  obtain ⟨v3, vs3, d3, ds3, p3, q3, rfl, rfl, hp3, h3, r3⟩ := trodAll_cons r2
  obtain ⟨v4, vs4, d4, ds4, p4, q4, rfl, rfl, hp4, h4, r4⟩ := trodAll_cons r3
  obtain ⟨v5, vs5, d5, ds5, p5, q5, rfl, rfl, hp5, h5, r5⟩ := trodAll_cons r4
  obtain ⟨rfl, rfl, -⟩ := trodAll_nil r5
  obtain rfl : args = #[v0, v1, v2, v3, v4, v5] := by cases args; simp_all
  obtain ⟨rfl, rfl⟩ := trodVars_none hV
  obtain ⟨x0, q0, c0, rfl⟩ := okWide_slice Try.underlying22 (hval 0 22 v0 rfl rfl)
  obtain ⟨fu0, fh0⟩ := h0
  obtain ⟨s0, Z0, l0, e0, H0, N0⟩ := open_int_cells2 Try.underlying22 Try.underlying3 (by kernel_rfl) fh0
  simp only [Value.cells, List.cons.injEq, and_true] at e0
  obtain rfl := e0.symm
  obtain ⟨x1, q1, c1, rfl⟩ := okWide_slice Try.underlying22 (hval 1 22 v1 rfl rfl)
  obtain ⟨fu1, fh1⟩ := h1
  obtain ⟨s1, Z1, l1, e1, H1, N1⟩ := open_int_cells2 Try.underlying22 Try.underlying3 (by kernel_rfl) fh1
  simp only [Value.cells, List.cons.injEq, and_true] at e1
  obtain rfl := e1.symm
  obtain ⟨a2, rfl, -, -, w2⟩ := open_int Try.underlying3 (hval 2 3 v2 rfl rfl) h2
  obtain ⟨a3, rfl, -, -, w3⟩ := open_int Try.underlying3 (hval 3 3 v3 rfl rfl) h3
  obtain ⟨a4, rfl, -, -, w4⟩ := open_int Try.underlying3 (hval 4 3 v4 rfl rfl) h4
  obtain ⟨x5, q5, c5, rfl⟩ := okWide_slice Try.underlying22 (hval 5 22 v5 rfl rfl)
  obtain ⟨fu5, fh5⟩ := h5
  obtain ⟨s5, Z5, l5, e5, H5, N5⟩ := open_int_cells2 Try.underlying22 Try.underlying3 (by kernel_rfl) fh5
  simp only [Value.cells, List.cons.injEq, and_true] at e5
  obtain rfl := e5.symm
  clear hA0 hval0
  simp only [List.append_nil] at hW'
  refine (walk W _ Z0 l0 H0 N0 _ Z1 l1 H1 N1 a2 w2 a3 w3 a4 w4 _ Z5 l5 H5 N5).mono fun e W' ⟨he, hb⟩ => ?_
  subst he
  exact ⟨_, rfl, kept_post (pa := p) hW' (fun _ _ _ => (trodAll_cons_mk (shut_bool Try.underlying4 _) trodAll_mk0)) (fun sp hsp => trodAll_stays laid hb (by rw [Try.params9]; decide +kernel) hAk (fun x hx => hW'.lt x hx) hsp) (fun _ => rfl) hb (ok_one (by kernel_rfl) rfl (okWide_bool_mk Try.underlying4 _))⟩

theorem over : Rows.merkleRejectsRow.holds Try.pinned (OpenSpec.ofChange Rows.merkleRejectsSpec) :=
  OpenClaim.holds_of_wide 9 Try.f9 rfl rfl rfl rfl rfl rfl rfl ⟨rfl, rfl, rfl, rfl, rfl⟩ rfl rfl rfl rfl rfl (by kernel_rfl) Try.func9 (by kernel_rfl)
    (of_decide_eq_true (by kernel_rfl)) (by unfold Func.isWrapper; first | (rw [if_pos (by decide +kernel)]; kernel_rfl) | (rw [if_neg (by decide +kernel)]; exact ⟨rfl, rfl⟩))
    (fun os started H enc _ => lifted os started H enc)

theorem proved : Rows.MerkleRejectsSaid :=
  over
#print axioms proved
end Go.Proofs.Ythpdohfekillkaa.merkleRejects
