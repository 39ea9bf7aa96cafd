/-
  package unionfind, P8.1, P8.2, P8.5: for a number of elements from 0 to 14 and up to 30 merges, made of any numbers, every element is in exactly one group, the groups are ordered, and there are as many groups as elements less the successful merges; the section's example holds; whatever the arguments are.
-/
import Derived.Test.YtalglkeabppabaaRows
import Derived.WalkKit
import Derived.ProofKit
import Derived.OpenShut
import Derived.Test.YtalglkeabppabaaOpen
import Derived.Test.YtalglkeabppabaaUfJ
namespace Go.Proofs.Ytalglkeabppabaa.unionfindPartition
open Go.ChangeShapes Go.WideShapes Go.ChangeAt Go.RowKit
set_option linter.unusedVariables false
set_option linter.unusedSimpArgs false

open Uf
theorem PLn_at {g : Nat} {w : World} {a : Option Addr} {n c : Nat} {E : List (Int × Int)} {i : Nat} {p : Int × Int} (h : PLn g w (.slice a n c) E) (hp : E[i]? = some p) : ∃ g2 off, a = some ⟨g2, off, none⟩ ∧ some g2 ≠ some g ∧ w.cell? ⟨g2, off + i * 2, none⟩ = some (.int .i64 p.1) ∧ w.cell? ⟨g2, off + i * 2 + 1, none⟩ = some (.int .i64 p.2) := by
  obtain ⟨a', cap, e, h1, h2, h3⟩ := h.1.shape
  obtain ⟨rfl, -, -⟩ : a = a' ∧ n = E.length ∧ c = cap := by simpa using e
  obtain ⟨g2, off, rfl, h4, h5⟩ := h3 (by have := (List.getElem?_eq_some_iff.1 hp).1; omega)
  exact ⟨g2, off, rfl, fun e2 => h.2 (by simpa [Value.ownBlock] using e2), (h5 i p hp).1, (h5 i p hp).2⟩
theorem _root_.Go.Proofs.Ytalglkeabppabaa.RowI.grown {w w' : World} {B g : Nat} {v : Value} {l : List Int} (h : RowI w B v l) (hg : w.grownBy w' (some g)) (hB : g < B) : RowI w' B v l := by
  refine World.ownsRow.kept h hg ?_
  cases e : v.ownBlock with
  | none => exact .inl rfl
  | some j => exact .inr fun e2 => by have := (h.lt j e).1; cases e2; omega
theorem own : ownKnob Try.prog.godebug = none := by kernel_rfl
theorem laid : laidOutB Try.prog = true := by kernel_rfl

set_option maxRecDepth 100000 in
set_option maxHeartbeats 8000000 in
theorem walk (w : World) (a0 : Int) (w0 : (Lit.int .i64 a0).wf = true) (s1 : Value) (Z1 : Nat → Int) (l1 : Nat) (H1 : IntsAt w s1 1 Z1 l1) :
    Calls Try.prog 6 #[.int .i64 a0, s1] w fun e w' => e = .returned (.bool true) ∧ Below w.heap.size w w' := by
  have H1' := Lib.hid H1
  clear H1
  have hk := sz_le a0
  obtain ⟨k, hkk⟩ : ∃ k, k = sz a0 := ⟨_, rfl⟩
  have kz := Lib.hid (fun W => size8_any a0 W w0)
  rw [← hkk] at hk kz
  clear hkk
  obtain ⟨E, hEE⟩ : ∃ E, E = edgesL Z1 l1 := ⟨_, rfl⟩
  have hE0 : E.length ≤ 30 := by rw [hEE, edgesL_len]; omega
  have ke := Lib.hid (fun W (h : IntsAt W s1 1 Z1 l1) => edges_any s1 Z1 l1 W h)
  rw [← hEE] at ke
  clear hEE
  obtain ⟨m, hm⟩ : ∃ m, m = E.length := ⟨_, rfl⟩
  rw [← hm] at hE0
  have hm' := Lib.hid hm
  clear hm
  have hk' : k ≤ 10000 := by omega
  obtain ⟨i0, hi0, hz0, hz1, hz2⟩ := info_parts infoU
  have hi0' := Lib.hid hi0; clear hi0
  have hz0' := Lib.hid hz0; clear hz0
  have hz1' := Lib.hid hz1; clear hz1
  have hz2' := Lib.hid hz2; clear hz2
  go_enter Try.func6, Try.ntmps6
  go_wp2_with (first
    | (go_at_call 11; with_reducible refine (kz.out _).mono ?_; rintro e u1 ⟨rfl, rfl⟩)
    | (go_at_call 12; with_reducible refine (new_any k w hk').mono ?_; rintro e u1 ⟨b, g, rfl, hS, hbb, hgg, hb1⟩; have hS' := Lib.hid hS; have hb1' := Lib.hid hb1; clear hS hb1)
    | (go_at_call 14; with_reducible refine (ke.out u1 (H1'.out.carry hb1'.out)).mono ?_; rintro e u2 ⟨v1, rfl, hP, hlo, hb3⟩; have hPn := (show PLn g u2 v1 E from ⟨hP, fun e => by have := hlo g e; have := hS'.out.lt.2.1; omega⟩); obtain ⟨ea, ecap, rfl, e1, e2, e3⟩ := hP.shape; rw [← hm'.out] at e1 hPn ⊢; have hP' := Lib.hid hPn; have hS2 := Lib.hid (hS'.out.carry hb3); have hb3' := Lib.hid (below_step hb1'.out hb3); clear hP hPn hlo hb3 e3))
  clear hS' hb1'
  go_loopw [8, 9] (fun lf i wr => ∃ t : Nat, t ≤ m ∧ i = .int .i64 (t : Nat) ∧ lf = .int .i64 ((heads k (playF k idL (E.take t))).length : Nat) ∧ St wr b g k (playF k idL (E.take t)) ∧ PLn g wr (.slice ea m ecap) E ∧ Below w.heap.size w wr) (fun _ i _ => m - (intOf i).toNat)
  case atStart => exact ⟨0, Nat.zero_le _, rfl, by rw [List.take_zero]; show _ = Value.int .i64 ((heads k idL).length : Nat); rw [heads_start], hS2.out, hP'.out, hb3'.out⟩
  case round =>
    obtain ⟨t, ht, rfl, rfl, hS, hP, hB⟩ := hrel
    obtain ⟨W0, hW0⟩ : ∃ V, V = wr := ⟨wr, rfl⟩
    subst hW0
    have hS0 := Lib.hid hS
    have hP0 := Lib.hid hP
    have hB0 := Lib.hid hB
    clear hS hP hB hS2 hP' hb3'
    have hbs := hB0.out.size
    by_cases hlt : t < m
    · obtain ⟨p, hp⟩ : ∃ p, E[t]? = some p := ⟨_, List.getElem?_eq_getElem (by rw [← hm'.out]; exact hlt)⟩
      obtain ⟨g2, off, rfl, hgn, c0, c1⟩ := PLn_at hP0.out hp
      obtain ⟨x, y⟩ := p
      simp only at c0 c1
      have hst := Lib.hid (play_succ k idL E hp)
      simp only at hst
      clear hp
      obtain ⟨F, hF⟩ : ∃ F, F = playF k idL (E.take t) := ⟨_, rfl⟩
      rw [← hF] at hS0 hst ⊢
      clear hF
      have hhd := Lib.hid (heads_uni k F x y)
      have hhk := Lib.hid (heads_len k F)
      have i1 : (0 : Int) ≤ (t : Int) := by omega
      have i2 : (t : Int) < (m : Int) := by omega
      have bD : W0.grownBy W0.drew (some g) := grown_below ((Below.refl _ W0).drew)
      have mk := Lib.hid (fun w' (h : W0.grownBy w' (some g)) => (⟨h.cell c0 hgn, h.cell c1 hgn, h⟩ : w'.cell? ⟨g2, off + t * 2, none⟩ = some (.int .i64 x) ∧ w'.cell? ⟨g2, off + t * 2 + 1, none⟩ = some (.int .i64 y) ∧ W0.grownBy w' (some g)))
      have kD := Lib.hid (hS0.out.carry ((Below.refl _ W0).drew))
      cases hC : canU k F x y with
      | true =>
        have hC' := Lib.hid hC
        rw [hC, if_pos rfl] at hhd
        clear hC
        obtain ⟨L, hL⟩ : ∃ L, L = (heads k (uniF k F x y)).length := ⟨_, rfl⟩
        rw [← hL] at hhd
        rw [show (((heads k F).length : Nat) : Int) = (L : Int) + 1 from by have := hhd.out; omega]
        have hLk : L ≤ 14 := by have := hhd.out; have := hhk.out; omega
        have hL' := Lib.hid hL
        clear hL
        go_upto_region 8 with fail
        go_region_held3 (fun w' => w'.cell? ⟨g2, off + t * 2, none⟩ = some (.int .i64 x) ∧ w'.cell? ⟨g2, off + t * 2 + 1, none⟩ = some (.int .i64 y) ∧ W0.grownBy w' (some g))
          (first | (with_reducible exact mk.out _ bD) | (with_reducible exact mk.out _ B2))
          (first | (go_at_call 16; with_reducible refine (union_any b g k F x y _ (by first | exact kD.out | exact hS0.out) hk').mono ?_; rintro e w2 ⟨rfl, hS3, hg3⟩; rw [hC'.out]; have hS3' := Lib.hid hS3; have B2 : W0.grownBy w2 (some g) := grown_trans (by first | exact bD | exact grown_refl _ _) hg3; clear hS3 hg3; dsimp only))
        rename_i hHeld
        have hB3 := Lib.hid (hB0.out.grown B2 hbs (fun j hj => by cases hj; exact hgg))
        have hP3 := Lib.hid (hP0.out.grown B2)
        clear hHeld mk bD B2 c0 c1
        go_wp2_with fail
        go_roundw
        case rel => exact ⟨t + 1, by omega, by go_num, by rw [hst.out, ← hL'.out], by rw [hst.out]; exact hS3'.out, hP3.out, hB3.out⟩
        case measure => simp [intOf]; omega
      | false =>
        have hC' := Lib.hid hC
        rw [hC, if_neg (by simp), Nat.add_zero] at hhd
        clear hC
        obtain ⟨L, hL⟩ : ∃ L, L = (heads k F).length := ⟨_, rfl⟩
        rw [← hL] at hhd ⊢
        clear hL
        go_upto_region 8 with fail
        go_region_held3 (fun w' => w'.cell? ⟨g2, off + t * 2, none⟩ = some (.int .i64 x) ∧ w'.cell? ⟨g2, off + t * 2 + 1, none⟩ = some (.int .i64 y) ∧ W0.grownBy w' (some g))
          (first | (with_reducible exact mk.out _ bD) | (with_reducible exact mk.out _ B2))
          (first | (go_at_call 16; with_reducible refine (union_any b g k F x y _ (by first | exact kD.out | exact hS0.out) hk').mono ?_; rintro e w2 ⟨rfl, hS3, hg3⟩; rw [hC'.out]; have hS3' := Lib.hid hS3; have B2 : W0.grownBy w2 (some g) := grown_trans (by first | exact bD | exact grown_refl _ _) hg3; clear hS3 hg3; dsimp only))
        rename_i hHeld
        have hB3 := Lib.hid (hB0.out.grown B2 hbs (fun j hj => by cases hj; exact hgg))
        have hP3 := Lib.hid (hP0.out.grown B2)
        clear hHeld mk bD B2 c0 c1
        go_wp2_with fail
        go_roundw
        case rel => exact ⟨t + 1, by omega, by go_num, by rw [hst.out, hhd.out], by rw [hst.out]; exact hS3'.out, hP3.out, hB3.out⟩
        case measure => simp [intOf]; omega
    · obtain rfl : t = m := by omega
      have hfin := Lib.hid (show playF k idL (E.take t) = playF k idL E from by rw [hm'.out, List.take_length])
      rw [hfin.out] at hS0 ⊢
      obtain ⟨F, hF⟩ : ∃ F, F = playF k idL E := ⟨_, rfl⟩
      rw [← hF] at hS0 ⊢
      clear hF hfin hP0
      obtain ⟨gs, hgs⟩ : ∃ gs, gs = grps k F := ⟨_, rfl⟩
      obtain ⟨M, hM⟩ : ∃ M, M = gs.length := ⟨_, rfl⟩
      rw [show (heads k F).length = M from by rw [hM, hgs, grps_length]]
      have hMk : M ≤ 14 := by rw [hM, hgs, grps_length]; have := heads_len k F; omega
      have hgs' := Lib.hid hgs
      have hM' := Lib.hid hM
      have kG := Lib.hid (groups_any b g k F W0 hS0.out hk')
      rw [← hgs'.out] at kG
      clear hgs hM
      have hltB := hS0.out.lt
      go_wp2_with (first
        | (go_at_call 20; with_reducible refine kG.out.mono ?_; rintro e u5 ⟨v6, rfl, hG, hS7, hg7⟩; obtain ⟨oa, ocap, rfl, o1, o2, o3⟩ := hG.shape; simp only [List.length_map] at o1 o3 ⊢; rw [← hM'.out] at o1 o3 ⊢; have o3' := Lib.hid o3; have hS5 := Lib.hid hS7; have hB5 := Lib.hid (hB0.out.grown hg7 hbs (fun j hj => by cases hj; exact hgg)); have hsz5 := hg7.size; clear hG hS7 hg7 o3))
      unfold maxLen at o2
      have hog : g < u5.heap.size := by omega
      have hbg : b < u5.heap.size := by omega
      go_loopw [11, 12, 13, 14] (fun av i _ _ wr => ∃ t : Nat, t ≤ M ∧ i = .int .i64 (t : Nat) ∧ RowI wr u5.heap.size av (natI (preF gs t 0)) ∧ St wr b g k F ∧ u5.grownBy wr (some g)) (fun _ i _ _ _ => M - (intOf i).toNat)
      case atStart => exact ⟨0, Nat.zero_le _, rfl, World.ownsRow_nil _ _ _ _, hS5.out, grown_refl _ _⟩
      case round =>
        obtain ⟨t, ht, rfl, hR, hS, hG⟩ := hrel
        obtain ⟨W1, hW1⟩ : ∃ V, V = wr := ⟨wr, rfl⟩
        subst hW1
        have hR5 := Lib.hid hR
        have hS4 := Lib.hid hS
        have hG5 := Lib.hid hG
        clear hR hS hG hS5
        by_cases hlt2 : t < M
        · obtain ⟨o, rfl, ho1, ho2⟩ := o3'.out (by omega)
          obtain ⟨gt, hgt⟩ : ∃ gt, gs[t]? = some gt := ⟨_, List.getElem?_eq_getElem (by rw [← hM'.out]; exact hlt2)⟩
          obtain ⟨pp, hpp1, hpp2, hgc⟩ := grps_at (by rw [← hgs'.out]; exact hgt)
          have hfirst := cls_first hpp2
          have hpos := cls_pos hpp2
          rw [← hgc] at hfirst hpos
          obtain ⟨ob, oc, hc, q1, q2, q3⟩ := ho2 t (natI gt) (by rw [List.getElem?_map, hgt]; rfl)
          rw [natI_length] at hc q1 q3
          obtain ⟨hb', rfl, hh1, hh2⟩ := q3 hpos
          obtain ⟨p0, hp0e⟩ : ∃ p0, p0 = pp := ⟨_, rfl⟩
          rw [← hp0e] at hfirst
          obtain ⟨gn, hgn⟩ : ∃ gn, gn = gt.length := ⟨_, rfl⟩
          rw [← hgn] at hc q1 hpos
          have hgn' := Lib.hid hgn
          have hp0 := Lib.hid hfirst
          have hgt' := Lib.hid hgt
          have hcell := Lib.hid hh2
          have hc0 := Lib.hid hc
          have hno : some o ≠ some g := by simp; omega
          have hnh : some hb' ≠ some g := by simp; omega
          have c0 := hG5.out.cell hc hno
          have cp := hG5.out.cell (hh2 0 (p0 : Nat) (natI_at hfirst)) hnh
          have hgk : gn ≤ 14 := by
            have := List.length_filter_le (fun j => decide (F j = F pp)) (List.range k)
            rw [List.length_range] at this
            have h2 : gt.length ≤ k := by rw [hgc]; exact this
            omega
          have z1 : ((gn : Int) == 0) = false := by simp only [beq_eq_false_iff_ne, ne_eq]; omega
          have i1 : (0 : Int) ≤ (t : Int) := by omega
          have i2 : (t : Int) < (M : Int) := by omega
          have i3 : (0 : Int) < (gn : Int) := by omega
          unfold maxLen at q2
          clear hgt hpp1 hpp2 hgc hfirst hc q3 hh2 hp0e hgn
          rcases Nat.eq_zero_or_pos t with rfl | htp
          · rw [show ((0 : Nat) : Int) = 0 from rfl]
            clear ho2 cp
            go_upto_region 15 with fail
            refine wp_region_made (by kernel_rfl) (by kernel_rfl) ?_
            intro W hK
            have g_c0 := fun x => carry ((hK.below x)) c0
            repeat (go_big_quiet_step ((fail)))
            refine wpQuiet_nil ?_
            intro wq hw'
            have hbq := kept_in hK hw'
            clear g_c0
            clear hw' hK W
            replace c0 := carry (hbq) c0
            have hR6 := Lib.hid (hR5.out.carry hbq)
            have hS6 := Lib.hid (hS4.out.carry hbq)
            have hG6 := Lib.hid (grown_trans hG5.out (grown_below (row := some g) hbq))
            clear hbq
            clear c0
            go_wp2_with fail
            go_loopw [11, 13, 14] (fun av j _ wr => ∃ q : Nat, q ≤ gn ∧ j = .int .i64 (q : Nat) ∧ RowI wr u5.heap.size av (natI (preF gs 0 q)) ∧ St wr b g k F ∧ u5.grownBy wr (some g)) (fun _ j _ _ => gn - (intOf j).toNat)
            case atStart => exact ⟨0, Nat.zero_le _, rfl, hR6.out, hS6.out, hG6.out⟩
            case round =>
              obtain ⟨q, hq, rfl, hR, hS, hG⟩ := hrel
              obtain ⟨W2, hW2⟩ : ∃ V, V = wr := ⟨wr, rfl⟩
              subst hW2
              have hR7 := Lib.hid hR
              have hS7 := Lib.hid hS
              have hG7 := Lib.hid hG
              clear hR hS hG hR6 hS6 hG6
              have c0 := hG7.out.cell hc0.out hno
              by_cases hlt3 : q < gn
              · obtain ⟨x, hx⟩ : ∃ x, gt[q]? = some x := ⟨_, List.getElem?_eq_getElem (by rw [← hgn'.out]; exact hlt3)⟩
                have cx := hG7.out.cell (hcell.out q (x : Nat) (natI_at hx)) hnh
                have cp := hG7.out.cell (hcell.out 0 (p0 : Nat) (natI_at hp0.out)) hnh
                have hfr := Lib.hid (show x ∉ preF gs 0 q ∧ (preF gs 0 q).length < k from by rw [hgs'.out]; exact preF_fresh (by rw [← hgs'.out]; exact hgt'.out) hx)
                have hstp := Lib.hid (preF_step hgt'.out hx)
                have hsame := grps_same (by rw [← hgs'.out]; exact hgt'.out) hx
                obtain ⟨hxk, p1, hp1, hp1k, hfx⟩ := hsame
                rw [hp0.out] at hp1
                obtain rfl := Option.some.inj hp1
                have hsm := Lib.hid (show sameF k F x p0 = true from sameF_iff.2 ⟨inB_iff.2 ⟨by omega, by omega⟩, inB_iff.2 ⟨by omega, by omega⟩, hfx⟩)
                have kh := Lib.hid (hasI_any u11 (natI (preF gs 0 q)) (x : Int) W2 hR7.out.il)
                have hv := Lib.hid (show decide ((x : Int) ∈ natI (preF gs 0 q)) = false from decide_eq_false (fun h => hfr.out.1 (mem_natI_nat.1 h)))
                have hx' := Lib.hid hx
                have n1 : ¬ ((x : Int) < 0) := by omega
                have n2 : ¬ ((k : Int) ≤ (x : Int)) := by omega
                have i5 : (q : Int) < (gn : Int) := by omega
                have i6 : (0 : Int) ≤ (q : Int) := by omega
                have i7 : (0 : Int) < (gn : Int) := by omega
                clear hx hp1 hfx
                rcases Nat.eq_zero_or_pos q with rfl | hqp
                · clear cp
                  have hx0 : x = p0 := by
                    have := hx'.out
                    rw [hp0.out] at this
                    exact (Option.some.inj this).symm
                  subst hx0
                  rw [show ((0 : Nat) : Int) = 0 from rfl]
                  go_wp2_with (first
                    | (go_at_call 26; with_reducible refine kh.out.mono ?_; rintro e y1 ⟨rfl, rfl⟩; rw [hv.out])
                    | (go_at_call 17; with_reducible refine (same_any b g k F x x W2 hS7.out hk').mono ?_; rintro e y2 ⟨rfl, hS, hg⟩; rw [hsm.out]; have hS8 := Lib.hid hS; have hR8 := Lib.hid (hR7.out.grown hg hog); have hG8 := Lib.hid (grown_trans hG7.out hg); clear hS hg)
                    | (at_builtin; refine wpList_append_own _ rfl _ _ 22 rfl u5.heap.size 3 i0 _ 1 8 Try.underlying22 hi0'.out hz0'.out hz1'.out hz2'.out rfl (by decide) _ (natI (preF gs 0 0)).length (ints (natI (preF gs 0 0))) rfl (World.ownsRow.alloc hR8.out _) ⟨y2.heap.size, 0, none⟩ 1 1 [.int .i64 (x : Nat)] rfl rfl (cells_new _ _ _ _ (by simp)) (by simp [Value.oneCell']) (by have := hfr.out.2; rw [natI_length]; unfold maxLen; omega) (by have := hfr.out.2; rw [natI_length]; omega) (by have := hG8.out.size; simp; omega) ?_; intro v9 w9 hown9 hg9 _; have hR9 := Lib.hid (show RowI w9 u5.heap.size v9 (natI (preF gs 0 (0 + 1))) from by rw [hstp.out, natI_snoc]; exact RowI.snoc hown9); have hGa := Lib.hid ((World.grownBy_alloc y2 (.cells #[.int .i64 (x : Nat)] 3) _).trans hg9); have hG9 := Lib.hid (grown_past hG8.out hGa.out (fun j hj => (hR8.out.lt j hj).1)); have hS9 := Lib.hid (hS8.out.grown hGa.out (fun e => by have := (hR8.out.lt _ e.symm).1; omega) (fun e => by have := (hR8.out.lt _ e.symm).1; omega)); clear hown9 hg9))
                  go_roundw
                  case rel => exact ⟨1, by omega, by go_num, hR9.out, hS9.out, hG9.out⟩
                  case measure => simp [intOf]; omega
                · obtain ⟨q', hq'⟩ : ∃ q', q = q' + 1 := ⟨q - 1, by omega⟩
                  obtain ⟨y, hy⟩ : ∃ y, gt[q']? = some y := ⟨_, List.getElem?_eq_getElem (by rw [← hgn'.out]; omega)⟩
                  have cy := hG7.out.cell (hcell.out q' (y : Nat) (natI_at hy)) hnh
                  have hyx : y < x := grps_rise (by rw [← hgs'.out]; exact hgt'.out) hy (by rw [← hq']; exact hx'.out)
                  have hsub : (q : Int) - 1 = (q' : Int) := by omega
                  have n3 : ¬ ((x : Int) ≤ (y : Int)) := by omega
                  have i8 : (0 : Int) ≤ (q' : Int) := by omega
                  have i9 : (q' : Int) < (gn : Int) := by omega
                  have i10 : (0 : Int) < (q : Int) := by omega
                  clear hy hyx hq'
                  go_wp2_with (first
                    | (go_at_call 26; with_reducible refine kh.out.mono ?_; rintro e y1 ⟨rfl, rfl⟩; rw [hv.out])
                    | (go_at_call 17; with_reducible refine (same_any b g k F x p0 W2 hS7.out hk').mono ?_; rintro e y2 ⟨rfl, hS, hg⟩; rw [hsm.out]; have hS8 := Lib.hid hS; have hR8 := Lib.hid (hR7.out.grown hg hog); have hG8 := Lib.hid (grown_trans hG7.out hg); clear hS hg)
                    | (at_builtin; refine wpList_append_own _ rfl _ _ 22 rfl u5.heap.size 3 i0 _ 1 8 Try.underlying22 hi0'.out hz0'.out hz1'.out hz2'.out rfl (by decide) _ (natI (preF gs 0 q)).length (ints (natI (preF gs 0 q))) rfl (World.ownsRow.alloc hR8.out _) ⟨y2.heap.size, 0, none⟩ 1 1 [.int .i64 (x : Nat)] rfl rfl (cells_new _ _ _ _ (by simp)) (by simp [Value.oneCell']) (by have := hfr.out.2; rw [natI_length]; unfold maxLen; omega) (by have := hfr.out.2; rw [natI_length]; omega) (by have := hG8.out.size; simp; omega) ?_; intro v9 w9 hown9 hg9 _; have hR9 := Lib.hid (show RowI w9 u5.heap.size v9 (natI (preF gs 0 (q + 1))) from by rw [hstp.out, natI_snoc]; exact RowI.snoc hown9); have hGa := Lib.hid ((World.grownBy_alloc y2 (.cells #[.int .i64 (x : Nat)] 3) _).trans hg9); have hG9 := Lib.hid (grown_past hG8.out hGa.out (fun j hj => (hR8.out.lt j hj).1)); have hS9 := Lib.hid (hS8.out.grown hGa.out (fun e => by have := (hR8.out.lt _ e.symm).1; omega) (fun e => by have := (hR8.out.lt _ e.symm).1; omega)); clear hown9 hg9))
                  go_roundw
                  case rel => exact ⟨q + 1, by omega, by go_num, hR9.out, hS9.out, hG9.out⟩
                  case measure => simp [intOf]; omega
              · obtain rfl : q = gn := by omega
                have hpe := Lib.hid (show preF gs 0 q = preF gs (0 + 1) 0 from by rw [preF_zero, hgn'.out]; exact preF_end hgt'.out)
                rw [hpe.out] at hR7
                go_wp2_with fail
                go_roundw
                case rel => exact ⟨0 + 1, by omega, by go_num, hR7.out, hS7.out, hG7.out⟩
                case measure => simp [intOf]; omega
          · obtain ⟨t', ht'⟩ : ∃ t', t = t' + 1 := ⟨t - 1, by omega⟩
            obtain ⟨gp, hgp⟩ : ∃ gp, gs[t']? = some gp := ⟨_, List.getElem?_eq_getElem (by rw [← hM'.out]; omega)⟩
            obtain ⟨f1, f2, hf1, hf2, hf3⟩ := firsts_rise (by rw [← hgs'.out]; exact hgp) (by rw [← hgs'.out, ← ht']; exact hgt'.out)
            rw [hp0.out] at hf2
            obtain rfl := Option.some.inj hf2
            obtain ⟨pb, pc, hpc, r1, r2, r3⟩ := ho2 t' (natI gp) (by rw [List.getElem?_map, hgp]; rfl)
            rw [natI_length] at hpc r1 r3
            have hgpp : 0 < gp.length := by have := (List.getElem?_eq_some_iff.1 hf1).1; omega
            obtain ⟨hb2, rfl, hh3, hh4⟩ := r3 hgpp
            have hnh2 : some hb2 ≠ some g := by simp; omega
            have e0 := hG5.out.cell hpc hno
            have e1 := hG5.out.cell (hh4 0 (f1 : Nat) (natI_at hf1)) hnh2
            have hsub0 : (t : Int) - 1 = (t' : Int) := by omega
            have i11 : (0 : Int) ≤ (t' : Int) := by omega
            have i12 : (t' : Int) < (M : Int) := by omega
            have i13 : (0 : Int) < (t : Int) := by omega
            obtain ⟨pn, hpn⟩ : ∃ pn, pn = gp.length := ⟨_, rfl⟩
            rw [← hpn] at e0 hgpp r1
            have i14 : (0 : Int) < (pn : Int) := by omega
            have n4 : ¬ ((p0 : Int) ≤ (f1 : Int)) := by omega
            unfold maxLen at r2
            clear ho2 ht' hgp hf1 hf2 hf3 hpc r3 hh4 hpn
            go_upto_region 15 with fail
            refine wp_region_made (by kernel_rfl) (by kernel_rfl) ?_
            intro W hK
            have g_c0 := fun x => carry ((hK.below x)) c0
            have g_cp := fun x => carry ((hK.below x)) cp
            have g_e0 := fun x => carry ((hK.below x)) e0
            have g_e1 := fun x => carry ((hK.below x)) e1
            repeat (go_big_quiet_step ((fail)))
            refine wpQuiet_nil ?_
            intro wq hw'
            have hbq := kept_in hK hw'
            clear g_c0 g_cp g_e0 g_e1
            clear hw' hK W
            replace c0 := carry (hbq) c0
            replace cp := carry (hbq) cp
            replace e0 := carry (hbq) e0
            replace e1 := carry (hbq) e1
            have hR6 := Lib.hid (hR5.out.carry hbq)
            have hS6 := Lib.hid (hS4.out.carry hbq)
            have hG6 := Lib.hid (grown_trans hG5.out (grown_below (row := some g) hbq))
            clear hbq
            clear c0 cp e0 e1 hsub0
            go_wp2_with fail
            go_loopw [11, 13, 14] (fun av j _ wr => ∃ q : Nat, q ≤ gn ∧ j = .int .i64 (q : Nat) ∧ RowI wr u5.heap.size av (natI (preF gs t q)) ∧ St wr b g k F ∧ u5.grownBy wr (some g)) (fun _ j _ _ => gn - (intOf j).toNat)
            case atStart => exact ⟨0, Nat.zero_le _, rfl, hR6.out, hS6.out, hG6.out⟩
            case round =>
              obtain ⟨q, hq, rfl, hR, hS, hG⟩ := hrel
              obtain ⟨W2, hW2⟩ : ∃ V, V = wr := ⟨wr, rfl⟩
              subst hW2
              have hR7 := Lib.hid hR
              have hS7 := Lib.hid hS
              have hG7 := Lib.hid hG
              clear hR hS hG hR6 hS6 hG6
              have c0 := hG7.out.cell hc0.out hno
              by_cases hlt3 : q < gn
              · obtain ⟨x, hx⟩ : ∃ x, gt[q]? = some x := ⟨_, List.getElem?_eq_getElem (by rw [← hgn'.out]; exact hlt3)⟩
                have cx := hG7.out.cell (hcell.out q (x : Nat) (natI_at hx)) hnh
                have cp := hG7.out.cell (hcell.out 0 (p0 : Nat) (natI_at hp0.out)) hnh
                have hfr := Lib.hid (show x ∉ preF gs t q ∧ (preF gs t q).length < k from by rw [hgs'.out]; exact preF_fresh (by rw [← hgs'.out]; exact hgt'.out) hx)
                have hstp := Lib.hid (preF_step hgt'.out hx)
                have hsame := grps_same (by rw [← hgs'.out]; exact hgt'.out) hx
                obtain ⟨hxk, p1, hp1, hp1k, hfx⟩ := hsame
                rw [hp0.out] at hp1
                obtain rfl := Option.some.inj hp1
                have hsm := Lib.hid (show sameF k F x p0 = true from sameF_iff.2 ⟨inB_iff.2 ⟨by omega, by omega⟩, inB_iff.2 ⟨by omega, by omega⟩, hfx⟩)
                have kh := Lib.hid (hasI_any u11 (natI (preF gs t q)) (x : Int) W2 hR7.out.il)
                have hv := Lib.hid (show decide ((x : Int) ∈ natI (preF gs t q)) = false from decide_eq_false (fun h => hfr.out.1 (mem_natI_nat.1 h)))
                have hx' := Lib.hid hx
                have n1 : ¬ ((x : Int) < 0) := by omega
                have n2 : ¬ ((k : Int) ≤ (x : Int)) := by omega
                have i5 : (q : Int) < (gn : Int) := by omega
                have i6 : (0 : Int) ≤ (q : Int) := by omega
                have i7 : (0 : Int) < (gn : Int) := by omega
                clear hx hp1 hfx
                rcases Nat.eq_zero_or_pos q with rfl | hqp
                · clear cp
                  have hx0 : x = p0 := by
                    have := hx'.out
                    rw [hp0.out] at this
                    exact (Option.some.inj this).symm
                  subst hx0
                  rw [show ((0 : Nat) : Int) = 0 from rfl]
                  go_wp2_with (first
                    | (go_at_call 26; with_reducible refine kh.out.mono ?_; rintro e y1 ⟨rfl, rfl⟩; rw [hv.out])
                    | (go_at_call 17; with_reducible refine (same_any b g k F x x W2 hS7.out hk').mono ?_; rintro e y2 ⟨rfl, hS, hg⟩; rw [hsm.out]; have hS8 := Lib.hid hS; have hR8 := Lib.hid (hR7.out.grown hg hog); have hG8 := Lib.hid (grown_trans hG7.out hg); clear hS hg)
                    | (at_builtin; refine wpList_append_own _ rfl _ _ 22 rfl u5.heap.size 3 i0 _ 1 8 Try.underlying22 hi0'.out hz0'.out hz1'.out hz2'.out rfl (by decide) _ (natI (preF gs t 0)).length (ints (natI (preF gs t 0))) rfl (World.ownsRow.alloc hR8.out _) ⟨y2.heap.size, 0, none⟩ 1 1 [.int .i64 (x : Nat)] rfl rfl (cells_new _ _ _ _ (by simp)) (by simp [Value.oneCell']) (by have := hfr.out.2; rw [natI_length]; unfold maxLen; omega) (by have := hfr.out.2; rw [natI_length]; omega) (by have := hG8.out.size; simp; omega) ?_; intro v9 w9 hown9 hg9 _; have hR9 := Lib.hid (show RowI w9 u5.heap.size v9 (natI (preF gs t (0 + 1))) from by rw [hstp.out, natI_snoc]; exact RowI.snoc hown9); have hGa := Lib.hid ((World.grownBy_alloc y2 (.cells #[.int .i64 (x : Nat)] 3) _).trans hg9); have hG9 := Lib.hid (grown_past hG8.out hGa.out (fun j hj => (hR8.out.lt j hj).1)); have hS9 := Lib.hid (hS8.out.grown hGa.out (fun e => by have := (hR8.out.lt _ e.symm).1; omega) (fun e => by have := (hR8.out.lt _ e.symm).1; omega)); clear hown9 hg9))
                  go_roundw
                  case rel => exact ⟨1, by omega, by go_num, hR9.out, hS9.out, hG9.out⟩
                  case measure => simp [intOf]; omega
                · obtain ⟨q', hq'⟩ : ∃ q', q = q' + 1 := ⟨q - 1, by omega⟩
                  obtain ⟨y, hy⟩ : ∃ y, gt[q']? = some y := ⟨_, List.getElem?_eq_getElem (by rw [← hgn'.out]; omega)⟩
                  have cy := hG7.out.cell (hcell.out q' (y : Nat) (natI_at hy)) hnh
                  have hyx : y < x := grps_rise (by rw [← hgs'.out]; exact hgt'.out) hy (by rw [← hq']; exact hx'.out)
                  have hsub : (q : Int) - 1 = (q' : Int) := by omega
                  have n3 : ¬ ((x : Int) ≤ (y : Int)) := by omega
                  have i8 : (0 : Int) ≤ (q' : Int) := by omega
                  have i9 : (q' : Int) < (gn : Int) := by omega
                  have i10 : (0 : Int) < (q : Int) := by omega
                  clear hy hyx hq'
                  go_wp2_with (first
                    | (go_at_call 26; with_reducible refine kh.out.mono ?_; rintro e y1 ⟨rfl, rfl⟩; rw [hv.out])
                    | (go_at_call 17; with_reducible refine (same_any b g k F x p0 W2 hS7.out hk').mono ?_; rintro e y2 ⟨rfl, hS, hg⟩; rw [hsm.out]; have hS8 := Lib.hid hS; have hR8 := Lib.hid (hR7.out.grown hg hog); have hG8 := Lib.hid (grown_trans hG7.out hg); clear hS hg)
                    | (at_builtin; refine wpList_append_own _ rfl _ _ 22 rfl u5.heap.size 3 i0 _ 1 8 Try.underlying22 hi0'.out hz0'.out hz1'.out hz2'.out rfl (by decide) _ (natI (preF gs t q)).length (ints (natI (preF gs t q))) rfl (World.ownsRow.alloc hR8.out _) ⟨y2.heap.size, 0, none⟩ 1 1 [.int .i64 (x : Nat)] rfl rfl (cells_new _ _ _ _ (by simp)) (by simp [Value.oneCell']) (by have := hfr.out.2; rw [natI_length]; unfold maxLen; omega) (by have := hfr.out.2; rw [natI_length]; omega) (by have := hG8.out.size; simp; omega) ?_; intro v9 w9 hown9 hg9 _; have hR9 := Lib.hid (show RowI w9 u5.heap.size v9 (natI (preF gs t (q + 1))) from by rw [hstp.out, natI_snoc]; exact RowI.snoc hown9); have hGa := Lib.hid ((World.grownBy_alloc y2 (.cells #[.int .i64 (x : Nat)] 3) _).trans hg9); have hG9 := Lib.hid (grown_past hG8.out hGa.out (fun j hj => (hR8.out.lt j hj).1)); have hS9 := Lib.hid (hS8.out.grown hGa.out (fun e => by have := (hR8.out.lt _ e.symm).1; omega) (fun e => by have := (hR8.out.lt _ e.symm).1; omega)); clear hown9 hg9))
                  go_roundw
                  case rel => exact ⟨q + 1, by omega, by go_num, hR9.out, hS9.out, hG9.out⟩
                  case measure => simp [intOf]; omega
              · obtain rfl : q = gn := by omega
                have hpe := Lib.hid (show preF gs t q = preF gs (t + 1) 0 from by rw [preF_zero, hgn'.out]; exact preF_end hgt'.out)
                rw [hpe.out] at hR7
                go_wp2_with fail
                go_roundw
                case rel => exact ⟨t + 1, by omega, by go_num, hR7.out, hS7.out, hG7.out⟩
                case measure => simp [intOf]; omega
        · obtain rfl : t = M := by omega
          obtain ⟨ra, rcap, hrv, _⟩ := hR5.out.il.shape
          rw [natI_length, preF_zero, show (gs.take t).flatten.length = k from by rw [hM'.out, List.take_length, hgs'.out, flat_len]] at hrv
          rw [hrv]
          have b1 : ((t : Int) == (t : Int)) = true := by simp
          have b2 : ((k : Int) == (k : Int)) = true := by simp
          have hwE := Lib.hid (hB5.out.grown hG5.out hB5.out.size (fun j hj => by cases hj; exact hgg))
          clear hrv
          go_wp2_with (first
            | (go_at_call 22; with_reducible refine (lives8_any W1).mono ?_; rintro e y4 ⟨rfl, hb10⟩; have hw10 := Lib.hid (below_step hwE.out hb10); clear hb10))
          go_ret
          exact ⟨rfl, hw10.out⟩

set_option maxRecDepth 100000 in
theorem lifted (os : Os) (started : os.Started) (H : Type) (enc : TypeId × Value → H) :
    ReturnsInHanded {} Try.checked os 6 .any (Rows.unionfindPartitionSpec.pre6 enc Try.prog Try.f6 Rows.unionfindPartitionRow.domain false) (Rows.unionfindPartitionSpec.post enc Try.prog Try.f6 false true false false) := by
  refine returnsInHanded_of_change (C := Try.checked) own started (by kernel_rfl) Try.func6
    (ChangeSpec.witness6 (enc := enc) (C := Try.checked) false ⟨#[], #[.int .i64 0, .slice none 0 0], []⟩ 8 (by kernel_rfl) (by kernel_rfl) (by kernel_rfl) (by kernel_rfl)) ?_
  intro W base args ds gs before hval0 hW hcnd _
  have hval : ∀ (j : Nat) t v, Try.f6.params[j]? = some t → args[j]? = some v → Value.okWide Try.prog W .any base t v := hval0
  have hW' := hW
  obtain ⟨p, q, hA0, hV, rfl, hfz, hnd⟩ := hW
  have hA : DataW.TrodAll enc Try.prog W 0 (fun _ => true) true Try.f6.params.toList args.toList ds p := hA0
  rw [Try.params6] at hA hval
  have hAk := hA
  obtain ⟨v0, vs0, d0, ds0, p0, q0, hargs, rfl, hp0, h0, r0⟩ := trodAll_cons hA
  obtain ⟨v1, vs1, d1, ds1, p1, q1, rfl, rfl, hp1, h1, r1⟩ := trodAll_cons r0
  obtain ⟨rfl, rfl, -⟩ := trodAll_nil r1
  obtain rfl : args = #[v0, v1] := by cases args; simp_all
  obtain ⟨rfl, rfl⟩ := trodVars_none hV
  obtain ⟨a0, rfl, -, -, w0⟩ := open_int Try.underlying3 (hval 0 3 v0 rfl rfl) h0
  obtain ⟨x1, q1, c1, rfl⟩ := okWide_slice Try.underlying22 (hval 1 22 v1 rfl rfl)
  obtain ⟨fu1, fh1⟩ := h1
  obtain ⟨s1, Z1, l1, e1, H1⟩ := open_int_cells Try.underlying22 Try.underlying3 (by kernel_rfl) fh1
  simp only [Value.cells, List.cons.injEq, and_true] at e1
  obtain rfl := e1.symm
  clear hA0 hval0
  simp only [List.append_nil] at hW'
  refine (walk W a0 w0 _ Z1 l1 H1).mono fun e W' ⟨he, hb⟩ => ?_
  subst he
  exact ⟨_, rfl, kept_post (pa := p) hW' (fun _ _ _ => (trodAll_cons_mk (shut_bool Try.underlying4 _) trodAll_mk0)) (fun sp hsp => trodAll_stays laid hb (by rw [Try.params6]; decide +kernel) hAk (fun x hx => hW'.lt x hx) hsp) (fun _ => rfl) hb (ok_one (by kernel_rfl) rfl (okWide_bool_mk Try.underlying4 _))⟩

theorem over : Rows.unionfindPartitionRow.holds Try.pinned (OpenSpec.ofChange Rows.unionfindPartitionSpec) :=
  OpenClaim.holds_of_wide 6 Try.f6 rfl rfl rfl rfl rfl rfl rfl ⟨rfl, rfl, rfl, rfl, rfl⟩ rfl rfl rfl rfl rfl (by kernel_rfl) Try.func6 (by kernel_rfl)
    (of_decide_eq_true (by kernel_rfl)) (by unfold Func.isWrapper; first | (rw [if_pos (by decide +kernel)]; kernel_rfl) | (rw [if_neg (by decide +kernel)]; exact ⟨rfl, rfl⟩))
    (fun os started H enc _ => lifted os started H enc)

theorem proved : Rows.UnionfindPartitionSaid :=
  over
#print axioms proved
end Go.Proofs.Ytalglkeabppabaa.unionfindPartition
