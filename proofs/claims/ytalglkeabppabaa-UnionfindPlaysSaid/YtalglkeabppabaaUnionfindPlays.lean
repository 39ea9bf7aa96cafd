/-
  package unionfind, P8.1, P8.2: for a number of elements from 0 to 14 and up to 30 merges, made of any numbers, the results of Union, Same and Groups agree with the reference after every step, and the section's example holds; whatever the arguments are.
-/
import Derived.Test.YtalglkeabppabaaRows
import Derived.WalkKit
import Derived.ProofKit
import Derived.OpenShut
import Derived.Test.YtalglkeabppabaaOpen
import Derived.Test.YtalglkeabppabaaUfX
namespace Go.Proofs.Ytalglkeabppabaa.unionfindPlays
open Go.ChangeShapes Go.WideShapes Go.ChangeAt Go.RowKit
set_option linter.unusedVariables false
set_option linter.unusedSimpArgs false

open Uf
theorem PLn_at {g : Nat} {w : World} {a : Option Addr} {n c : Nat} {E : List (Int × Int)} {i : Nat} {p : Int × Int} (h : PLn g w (.slice a n c) E) (hp : E[i]? = some p) : ∃ g2 off, a = some ⟨g2, off, none⟩ ∧ some g2 ≠ some g ∧ w.cell? ⟨g2, off + i * 2, none⟩ = some (.int .i64 p.1) ∧ w.cell? ⟨g2, off + i * 2 + 1, none⟩ = some (.int .i64 p.2) := by
  obtain ⟨a', cap, e, h1, h2, h3⟩ := h.1.shape
  obtain ⟨rfl, -, -⟩ : a = a' ∧ n = E.length ∧ c = cap := by simpa using e
  obtain ⟨g2, off, rfl, h4, h5⟩ := h3 (by have := (List.getElem?_eq_some_iff.1 hp).1; omega)
  exact ⟨g2, off, rfl, fun e2 => h.2 (by simpa [Value.ownBlock] using e2), (h5 i p hp).1, (h5 i p hp).2⟩
theorem or_ne {s s2 : Value} {n g : Nat} (h : s2 = s ∨ ∀ j, s2.ownBlock = some j → n ≤ j) (hs : s.ownBlock ≠ some g) (hg : g < n) : s2.ownBlock ≠ some g := by
  rcases h with rfl | h
  · exact hs
  · exact fun e => by have := h g e; omega
theorem own : ownKnob Try.prog.godebug = none := by kernel_rfl
theorem laid : laidOutB Try.prog = true := by kernel_rfl

set_option maxRecDepth 100000 in
set_option maxHeartbeats 8000000 in
theorem walk (w : World) (a0 : Int) (w0 : (Lit.int .i64 a0).wf = true) (s1 : Value) (Z1 : Nat → Int) (l1 : Nat) (H1 : IntsAt w s1 1 Z1 l1) (a2 : Int) (w2 : (Lit.int .i64 a2).wf = true) (a3 : Int) (w3 : (Lit.int .i64 a3).wf = true) :
    Calls Try.prog 3 #[.int .i64 a0, s1, .int .i64 a2, .int .i64 a3] w fun e w' => e = .returned (.bool true) ∧ Below w.heap.size w w' := by
  have H1' := Lib.hid H1
  clear H1
  have hk := sz_le a0
  obtain ⟨k, hkk⟩ : ∃ k, k = sz a0 := ⟨_, rfl⟩
  have kz := Lib.hid (fun W => size8_any a0 W w0)
  rw [← hkk] at hk kz
  clear hkk
  obtain ⟨E, hEE⟩ : ∃ E, E = edgesL Z1 l1 := ⟨_, rfl⟩
  have hE0 : E.length ≤ 30 := by rw [hEE, edgesL_len]; omega
  have ke := Lib.hid (fun W (h : IntsAt W s1 1 Z1 l1) => edges_any s1 Z1 l1 W h)
  rw [← hEE] at ke
  clear hEE
  obtain ⟨m, hm⟩ : ∃ m, m = E.length := ⟨_, rfl⟩
  rw [← hm] at hE0
  have hm' := Lib.hid hm
  clear hm
  have hk' : k ≤ 10000 := by omega
  go_enter Try.func3, Try.ntmps3
  go_wp2_with (first
    | (go_at_call 11; with_reducible refine (kz.out _).mono ?_; rintro e u1 ⟨rfl, rfl⟩)
    | (go_at_call 12; with_reducible refine (new_any k w hk').mono ?_; rintro e u1 ⟨b, g, rfl, hS, hbb, hgg, hb1⟩; have hS' := Lib.hid hS; have hb1' := Lib.hid hb1; clear hS hb1)
    | (go_at_call 13; with_reducible refine (refNew_any k u1 hk').mono ?_; rintro e u2 ⟨⟨vL, rfl, hI, hlo⟩, hb2⟩; go_loud (have hI' := Lib.hid (show ILn g u2 vL (labs k idL) from ⟨hI, fun e => by have := hlo g e; have := hS'.out.lt.2.1; omega⟩)); have hS2 := Lib.hid (hS'.out.carry hb2); have hb2' := Lib.hid (below_step hb1'.out hb2); clear hI hlo hb2)
    | (go_at_call 14; with_reducible refine (ke.out u2 (H1'.out.carry hb2'.out)).mono ?_; rintro e u3 ⟨v1, rfl, hP, hlo, hb3⟩; have hPn := (show PLn g u3 v1 E from ⟨hP, fun e => by have := hlo g e; have := hS2.out.lt.2.1; omega⟩); obtain ⟨ea, ecap, rfl, e1, e2, e3⟩ := hP.shape; rw [← hm'.out] at e1 hPn ⊢; have hP' := Lib.hid hPn; have hS3 := Lib.hid (hS2.out.carry hb3); have hI3 := Lib.hid (hI'.out.carry hb3); have hb3' := Lib.hid (below_step hb2'.out hb3); clear hP hPn hlo hb3 e3))
  clear hS' hb1' hI' hS2 hb2'
  go_loopw [11, 13, 14, 15, 16] (fun vw i _ _ _ wr => ∃ t : Nat, t ≤ m ∧ i = .int .i64 (t : Nat) ∧ St wr b g k (playF k idL (E.take t)) ∧ ILn g wr vw (labs k (playF k idL (E.take t))) ∧ PLn g wr (.slice ea m ecap) E ∧ Below w.heap.size w wr) (fun _ i _ _ _ _ => m - (intOf i).toNat)
  case atStart => exact ⟨0, Nat.zero_le _, rfl, hS3.out, hI3.out, hP'.out, hb3'.out⟩
  case round =>
    obtain ⟨t, ht, rfl, hS, hI, hP, hB⟩ := hrel
    obtain ⟨W0, hW0⟩ : ∃ V, V = wr := ⟨wr, rfl⟩
    subst hW0
    have hS0 := Lib.hid hS
    have hI0 := Lib.hid hI
    have hP0 := Lib.hid hP
    have hB0 := Lib.hid hB
    clear hS hI hP hB hS3 hI3 hP' hb3'
    have hbs := hB0.out.size
    by_cases hlt : t < m
    · obtain ⟨p, hp⟩ : ∃ p, E[t]? = some p := ⟨_, List.getElem?_eq_getElem (by rw [← hm'.out]; exact hlt)⟩
      obtain ⟨g2, off, rfl, hgn, c0, c1⟩ := PLn_at hP0.out hp
      obtain ⟨x, y⟩ := p
      simp only at c0 c1
      have hst := Lib.hid (play_succ k idL E hp)
      simp only at hst
      have hpx := Lib.hid hp
      clear hp
      obtain ⟨F, hF⟩ : ∃ F, F = playF k idL (E.take t) := ⟨_, rfl⟩
      rw [← hF] at hS0 hI0 hst
      clear hF
      obtain ⟨C, hC⟩ : ∃ C, C = canU k F x y := ⟨_, rfl⟩
      have hC' := Lib.hid hC
      clear hC
      have i1 : (0 : Int) ≤ (t : Int) := by omega
      have i2 : (t : Int) < (m : Int) := by omega
      have bD : Below W0.heap.size W0 W0.drew := (Below.refl _ W0).drew
      have mk := Lib.hid (fun w' (h : Below W0.heap.size W0 w') => (⟨carry h c0, carry h c1, h⟩ : w'.cell? ⟨g2, off + t * 2, none⟩ = some (.int .i64 x) ∧ w'.cell? ⟨g2, off + t * 2 + 1, none⟩ = some (.int .i64 y) ∧ Below W0.heap.size W0 w'))
      go_upto_region 8 with fail
      go_region_held3 (fun w' => w'.cell? ⟨g2, off + t * 2, none⟩ = some (.int .i64 x) ∧ w'.cell? ⟨g2, off + t * 2 + 1, none⟩ = some (.int .i64 y) ∧ Below W0.heap.size W0 w')
        (first | (with_reducible exact mk.out _ bD) | (with_reducible exact mk.out _ B2))
        (first | (go_at_call 15; with_reducible refine (refUnion_any u11 k _ x y _ (hI0.out.1.carry (by first | exact bD | exact Below.refl _ _)) hk').mono ?_; rintro e w2 ⟨s2, rfl, hI3, hor, hb3⟩; rw [← hC'.out]; have hI3' := Lib.hid hI3; have hor' := Lib.hid hor; have B2 : Below W0.heap.size W0 w2 := below_step (by first | exact bD | exact Below.refl _ _) hb3; have hne := Lib.hid (or_ne (n := W0.heap.size) hor hI0.out.ne hS0.out.lt.2.1); clear hI3 hb3 hor hor'; dsimp only))
      rename_i hHeld
      replace c0 := carry B2 c0
      replace c1 := carry B2 c1
      have hS1 := Lib.hid (hS0.out.carry B2)
      have hI1 := Lib.hid (ILn.mk hI3'.out hne.out)
      have hP1 := Lib.hid (hP0.out.carry B2)
      have hB1 := Lib.hid (below_step hB0.out B2)
      clear hHeld mk bD B2 hS0 hI0 hP0 hB0 hI3' hne
      obtain ⟨W1, hW1⟩ : ∃ V, V = w2 := ⟨w2, rfl⟩
      subst hW1
      have hbs1 := hB1.out.size
      obtain ⟨D, hD⟩ : ∃ D, D = sameF k (uniF k F x y) a2 a3 := ⟨_, rfl⟩
      have hD' := Lib.hid hD
      clear hD
      have bD : W1.grownBy W1.drew (some g) := grown_below ((Below.refl _ W1).drew)
      have mk := Lib.hid (fun w' (h : W1.grownBy w' (some g)) => (⟨h.cell c0 hgn, h.cell c1 hgn, h⟩ : w'.cell? ⟨g2, off + t * 2, none⟩ = some (.int .i64 x) ∧ w'.cell? ⟨g2, off + t * 2 + 1, none⟩ = some (.int .i64 y) ∧ W1.grownBy w' (some g)))
      have kD := Lib.hid (hS1.out.carry ((Below.refl _ W1).drew))
      go_upto_region 10 with fail
      go_region_held3 (fun w' => w'.cell? ⟨g2, off + t * 2, none⟩ = some (.int .i64 x) ∧ w'.cell? ⟨g2, off + t * 2 + 1, none⟩ = some (.int .i64 y) ∧ W1.grownBy w' (some g))
        (first | (with_reducible exact mk.out _ bD) | (with_reducible exact mk.out _ B2) | (with_reducible exact mk.out _ B3) | (with_reducible exact mk.out _ B4) | (with_reducible exact mk.out _ B2.drew) | (with_reducible exact mk.out _ B3.drew))
        (first
          | (go_at_call 18; with_reducible refine (refSame_any s2 k _ a2 a3 _ (by first | exact I3.out.il | exact (I3.out.carry ((Below.refl _ _).drew)).il)).mono ?_; rintro e y4 ⟨rfl, hb4⟩; rw [← hD'.out]; have B4 : W1.grownBy y4 (some g) := grown_trans B3 (by first | exact grown_below hb4 | exact grown_trans (grown_below ((Below.refl _ _).drew)) (grown_below hb4)); have S4 := Lib.hid (S3.out.carry (by first | exact hb4 | exact below_step ((Below.refl _ _).drew) hb4)); have I4 := Lib.hid (I3.out.carry (by first | exact hb4 | exact below_step ((Below.refl _ _).drew) hb4)); have P4 := Lib.hid (P3.out.carry (by first | exact hb4 | exact below_step ((Below.refl _ _).drew) hb4)); clear hb4; dsimp only)
          | (go_at_call 17; with_reducible refine (same_any b g k _ a2 a3 _ (by first | exact S2.out | exact S2.out.carry ((Below.refl _ _).drew)) hk').mono ?_; rintro e y3 ⟨rfl, hS3, hg3⟩; rw [← hD'.out]; have hgr := (show y2.grownBy y3 (some g) from by first | exact hg3 | exact grown_trans (grown_below ((Below.refl _ _).drew)) hg3); have B3 : W1.grownBy y3 (some g) := grown_trans B2 hgr; have S3 := Lib.hid hS3; have I3 := Lib.hid (I2.out.grown hgr); have P3 := Lib.hid (P2.out.grown hgr); clear hS3 hg3 hgr; dsimp only)
          | (go_at_call 16; with_reducible refine (union_any b g k F x y _ (by first | exact kD.out | exact hS1.out) hk').mono ?_; rintro e y2 ⟨rfl, hS2, hg2'⟩; rw [← hC'.out]; have B2 : W1.grownBy y2 (some g) := grown_trans (by first | exact bD | exact grown_refl _ _) hg2'; have S2 := Lib.hid hS2; have I2 := Lib.hid (hI1.out.grown B2); have P2 := Lib.hid (hP1.out.grown B2); clear hS2 hg2'; dsimp only))
      rename_i hHeld
      have hB4 := Lib.hid (hB1.out.grown B4 hB1.out.size (fun j hj => by cases hj; exact hgg))
      clear hHeld mk bD B2 B3 B4 c0 c1 S2 I2 P2 S3 I3 P3 kD hS1 hI1 hP1 hB1
      obtain ⟨W2, hW2⟩ : ∃ V, V = y4 := ⟨y4, rfl⟩
      subst hW2
      go_wp2_with fail
      go_loopw [16] (fun i wr => ∃ z : Int, -1 ≤ z ∧ z ≤ k + 1 ∧ i = .int .i64 z ∧ St wr b g k (uniF k F x y) ∧ ILn g wr s2 (labs k (uniF k F x y)) ∧ PLn g wr (.slice (some ⟨g2, off, none⟩) m ecap) E ∧ Below w.heap.size w wr) (fun i _ => (k + 1 - intOf i).toNat)
      case atStart => exact ⟨-1, by omega, by omega, rfl, S4.out, I4.out, P4.out, hB4.out⟩
      case round =>
        obtain ⟨z, z1, z2, rfl, hS, hI, hP, hB⟩ := hrel
        obtain ⟨W3, hW3⟩ : ∃ V, V = wr := ⟨wr, rfl⟩
        subst hW3
        have hS5 := Lib.hid hS
        have hI5 := Lib.hid hI
        have hP5 := Lib.hid hP
        have hB5 := Lib.hid hB
        clear hS hI hP hB S4 I4 P4 hB4
        have hbs5 := hB5.out.size
        by_cases hlt2 : z ≤ k
        · obtain ⟨g3, off3, heq, _, c0, _⟩ := PLn_at hP5.out hpx.out
          obtain ⟨rfl, rfl⟩ : g2 = g3 ∧ off = off3 := by simpa using heq
          simp only at c0
          clear heq
          obtain ⟨D2, hD2⟩ : ∃ D, D = sameF k (uniF k F x y) z x := ⟨_, rfl⟩
          have hD2' := Lib.hid hD2
          clear hD2
          have bD : W3.grownBy W3.drew (some g) := grown_below ((Below.refl _ W3).drew)
          have mk := Lib.hid (fun w' (h : W3.grownBy w' (some g)) => (⟨h.cell c0 hgn, h⟩ : w'.cell? ⟨g2, off + t * 2, none⟩ = some (.int .i64 x) ∧ W3.grownBy w' (some g)))
          have kD := Lib.hid (hS5.out.carry ((Below.refl _ W3).drew))
          go_upto_region 15 with fail
          go_region_held3 (fun w' => w'.cell? ⟨g2, off + t * 2, none⟩ = some (.int .i64 x) ∧ W3.grownBy w' (some g))
            (first | (with_reducible exact mk.out _ bD) | (with_reducible exact mk.out _ B2) | (with_reducible exact mk.out _ B3) | (with_reducible exact mk.out _ B2.drew))
            (first
              | (go_at_call 18; with_reducible refine (refSame_any s2 k _ z x _ (by first | exact I2.out.il | exact (I2.out.carry ((Below.refl _ _).drew)).il)).mono ?_; rintro e y3 ⟨rfl, hb4⟩; rw [← hD2'.out]; have B3 : W3.grownBy y3 (some g) := grown_trans B2 (by first | exact grown_below hb4 | exact grown_trans (grown_below ((Below.refl _ _).drew)) (grown_below hb4)); have S3 := Lib.hid (S2.out.carry (by first | exact hb4 | exact below_step ((Below.refl _ _).drew) hb4)); have I3 := Lib.hid (I2.out.carry (by first | exact hb4 | exact below_step ((Below.refl _ _).drew) hb4)); have P3 := Lib.hid (P2.out.carry (by first | exact hb4 | exact below_step ((Below.refl _ _).drew) hb4)); clear hb4; dsimp only)
              | (go_at_call 17; with_reducible refine (same_any b g k _ z x _ (by first | exact kD.out | exact hS5.out) hk').mono ?_; rintro e y2 ⟨rfl, hS2, hg2'⟩; rw [← hD2'.out]; have B2 : W3.grownBy y2 (some g) := grown_trans (by first | exact bD | exact grown_refl _ _) hg2'; have S2 := Lib.hid hS2; have I2 := Lib.hid (hI5.out.grown B2); have P2 := Lib.hid (hP5.out.grown B2); clear hS2 hg2'; dsimp only))
          rename_i hHeld
          have hB6 := Lib.hid (hB5.out.grown B3 hB5.out.size (fun j hj => by cases hj; exact hgg))
          clear hHeld mk bD B2 B3 c0 S2 I2 P2 kD hS5 hI5 hP5 hB5
          go_wp2_with fail
          go_roundw
          case rel => exact ⟨z + 1, by omega, by omega, by go_num, S3.out, I3.out, P3.out, hB6.out⟩
          case measure => simp [intOf]; omega
        · go_wp2_with fail
          go_roundw
          case rel => exact ⟨t + 1, by omega, by go_num, by rw [hst.out]; exact hS5.out, by rw [hst.out]; exact hI5.out, hP5.out, hB5.out⟩
          case measure => simp [intOf]; omega
    · obtain rfl : t = m := by omega
      have hfin := Lib.hid (show playF k idL (E.take t) = playF k idL E from by rw [hm'.out, List.take_length])
      rw [hfin.out] at hS0 hI0
      go_wp2_with (first
        | (go_at_call 20; with_reducible refine (groups_any b g k _ W0 hS0.out hk').mono ?_; rintro e y1 ⟨v6, rfl, hG, hS7, hg7⟩; have hG6 := Lib.hid hG.gl; have I7 := Lib.hid (hI0.out.grown hg7); have hw7 := Lib.hid (hB0.out.grown hg7 hB0.out.size (fun j hj => by cases hj; exact hgg)); clear hG hS7 hg7)
        | (go_at_call 21; with_reducible refine (refGroups_any _ k _ y1 I7.out.il hk').mono ?_; rintro e y2 ⟨v7, rfl, hR, _, hb8⟩; have hG7 := Lib.hid (hG6.out.carry hb8); have hR7 := Lib.hid hR; have hw8 := Lib.hid (below_step hw7.out hb8); clear hR hb8)
        | (go_at_call 19; with_reducible refine (equalG_any v6 v7 _ _ y2 hG7.out hR7.out).mono ?_; rintro e y3 ⟨rfl, hb9⟩; rw [decide_eq_true rfl]; have hw9 := Lib.hid (below_step hw8.out hb9); clear hb9)
        | (go_at_call 22; with_reducible refine (lives8_any y3).mono ?_; rintro e y4 ⟨rfl, hb10⟩; have hw10 := Lib.hid (below_step hw9.out hb10); clear hb10))
      go_ret
      exact ⟨rfl, hw10.out⟩

set_option maxRecDepth 100000 in
theorem lifted (os : Os) (started : os.Started) (H : Type) (enc : TypeId × Value → H) :
    ReturnsInHanded {} Try.checked os 3 .any (Rows.unionfindPlaysSpec.pre6 enc Try.prog Try.f3 Rows.unionfindPlaysRow.domain false) (Rows.unionfindPlaysSpec.post enc Try.prog Try.f3 false true false false) := by
  refine returnsInHanded_of_change (C := Try.checked) own started (by kernel_rfl) Try.func3
    (ChangeSpec.witness6 (enc := enc) (C := Try.checked) false ⟨#[], #[.int .i64 0, .slice none 0 0, .int .i64 0, .int .i64 0], []⟩ 8 (by kernel_rfl) (by kernel_rfl) (by kernel_rfl) (by kernel_rfl)) ?_
  intro W base args ds gs before hval0 hW hcnd _
  have hval : ∀ (j : Nat) t v, Try.f3.params[j]? = some t → args[j]? = some v → Value.okWide Try.prog W .any base t v := hval0
  have hW' := hW
  obtain ⟨p, q, hA0, hV, rfl, hfz, hnd⟩ := hW
  have hA : DataW.TrodAll enc Try.prog W 0 (fun _ => true) true Try.f3.params.toList args.toList ds p := hA0
  rw [Try.params3] at hA hval
  have hAk := hA
  obtain ⟨v0, vs0, d0, ds0, p0, q0, hargs, rfl, hp0, h0, r0⟩ := trodAll_cons hA
  obtain ⟨v1, vs1, d1, ds1, p1, q1, rfl, rfl, hp1, h1, r1⟩ := trodAll_cons r0
  obtain ⟨v2, vs2, d2, ds2, p2, q2, rfl, rfl, hp2, h2, r2⟩ := trodAll_cons r1
  obtain ⟨v3, vs3, d3, ds3, p3, q3, rfl, rfl, hp3, h3, r3⟩ := trodAll_cons r2
  obtain ⟨rfl, rfl, -⟩ := trodAll_nil r3
  obtain rfl : args = #[v0, v1, v2, v3] := by cases args; simp_all
  obtain ⟨rfl, rfl⟩ := trodVars_none hV
  obtain ⟨a0, rfl, -, -, w0⟩ := open_int Try.underlying3 (hval 0 3 v0 rfl rfl) h0
  obtain ⟨x1, q1, c1, rfl⟩ := okWide_slice Try.underlying22 (hval 1 22 v1 rfl rfl)
  obtain ⟨fu1, fh1⟩ := h1
  obtain ⟨s1, Z1, l1, e1, H1⟩ := open_int_cells Try.underlying22 Try.underlying3 (by kernel_rfl) fh1
  simp only [Value.cells, List.cons.injEq, and_true] at e1
  obtain rfl := e1.symm
  obtain ⟨a2, rfl, -, -, w2⟩ := open_int Try.underlying3 (hval 2 3 v2 rfl rfl) h2
  obtain ⟨a3, rfl, -, -, w3⟩ := open_int Try.underlying3 (hval 3 3 v3 rfl rfl) h3
  clear hA0 hval0
  simp only [List.append_nil] at hW'
  refine (walk W a0 w0 _ Z1 l1 H1 a2 w2 a3 w3).mono fun e W' ⟨he, hb⟩ => ?_
  subst he
  exact ⟨_, rfl, kept_post (pa := p) hW' (fun _ _ _ => (trodAll_cons_mk (shut_bool Try.underlying4 _) trodAll_mk0)) (fun sp hsp => trodAll_stays laid hb (by rw [Try.params3]; decide +kernel) hAk (fun x hx => hW'.lt x hx) hsp) (fun _ => rfl) hb (ok_one (by kernel_rfl) rfl (okWide_bool_mk Try.underlying4 _))⟩

theorem over : Rows.unionfindPlaysRow.holds Try.pinned (OpenSpec.ofChange Rows.unionfindPlaysSpec) :=
  OpenClaim.holds_of_wide 3 Try.f3 rfl rfl rfl rfl rfl rfl rfl ⟨rfl, rfl, rfl, rfl, rfl⟩ rfl rfl rfl rfl rfl (by kernel_rfl) Try.func3 (by kernel_rfl)
    (of_decide_eq_true (by kernel_rfl)) (by unfold Func.isWrapper; first | (rw [if_pos (by decide +kernel)]; kernel_rfl) | (rw [if_neg (by decide +kernel)]; exact ⟨rfl, rfl⟩))
    (fun os started H enc _ => lifted os started H enc)

theorem proved : Rows.UnionfindPlaysSaid :=
  over
#print axioms proved
end Go.Proofs.Ytalglkeabppabaa.unionfindPlays
