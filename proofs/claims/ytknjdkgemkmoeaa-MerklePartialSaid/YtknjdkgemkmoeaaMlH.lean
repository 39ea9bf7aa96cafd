/- Package merkle: New's walk; Root. -/
import Derived.Test.YtknjdkgemkmoeaaMlG
namespace Go.Proofs.Ytknjdkgemkmoeaa
open Go.ChangeShapes Go.WideShapes Go.ChangeAt Go.RowKit Go.Shelf
set_option linter.unusedSimpArgs false
set_option linter.unusedVariables false
attribute [local go_sem] Oper.semAt_some

theorem slice_news (Y : World) (v : Value) : ∀ j u, ([v] : List Value)[j]? = some u → (Y.alloc (.cells #[v] 28)).cell? ((⟨Y.heap.size, 0, none⟩ : Addr).add j) = some u := fun j u hu => by
  rw [add_plain, Nat.zero_add, World.cell?_alloc_new]; simpa using hu

set_option maxRecDepth 100000 in
set_option maxHeartbeats 8000000 in
theorem new_any (v : Value) (C : List Int) (w : World) (hI : IL w v C) (hl : C.length ≤ 1000) :
    Calls Try.prog 13 #[v] w fun e w' => ∃ b x, e = .returned (.pointer (some ⟨b, 0, none⟩)) ∧ Tr w' b x C (rowsW C) ∧ (∀ r, x.all b (ht C.length) r → w.heap.size ≤ r) ∧ Below w.heap.size w w' := by
  have kC := Lib.hid (cloneC_any v C w hI (by omega))
  have kE := Lib.hid emptySum_any
  have kL := Lib.hid (fun W (hW : Below w.heap.size w W) => leafRow_any v C W (hI.carry hW) hl)
  have kH := Lib.hid (fun W => height_any C.length W (by omega))
  obtain ⟨a, cap, rfl, h1, h2, h3⟩ := hI.shape
  unfold maxLen at h2
  clear h3 hI
  go_enter Try.func13, Try.ntmps13
  go_wp2_with fail
  refine (kC.out).mono ?_
  rintro e w1 ⟨cv, rfl, hcv, hb1⟩
  obtain ⟨ca, cc, rfl, g1, g2, _, _⟩ := (SRow.owned hcv).shape Nat.one_pos
  unfold maxLen at g2
  obtain ⟨cv, hcve⟩ : ∃ cv, cv = Value.slice ca C.length cc := ⟨_, rfl⟩
  have hD0 : Bd w (w1.alloc (.cells #[.slice ca C.length cc, .slice none 0 0] 88)) w1.heap.size C 0 (.slice ca C.length cc) (.slice none 0 0) (fun _ => 0) (fun _ => 0) :=
    ⟨World.alloc_heap_new w1 _, (SRow.owned hcv).carry (alloc_below _ _), World.ownsRow_nil _ _ _ _, fun t ht => absurd ht (Nat.not_lt_zero _), fun s t hs => absurd hs (Nat.not_lt_zero _), ⟨hb1.size, fun r e => (hcv.lt r e).1, fun t ht => absurd ht (Nat.not_lt_zero _)⟩, hb1.trans ((alloc_below w1 _).mono hb1.size)⟩
  clear hcve cv
  clear hcv hb1 kC
  go_wp2_with fail
  generalize w1.alloc (.cells #[.slice ca C.length cc, .slice none 0 0] 88) = V at *
  generalize w1.heap.size = b at *
  refine (kE.out _).mono ?_
  rintro e w2 ⟨rfl, hb2⟩
  replace hD0 := hD0.below hb2
  clear hb2 kE
  go_wp2_with fail
  refine (kL.out _ hD0.bel).mono ?_
  rintro e w3 ⟨g, cp, rfl, hcu, hb3⟩
  have hcu' := own_mono (base' := w.heap.size) hcu hD0.bel.size
  have hgw := (hcu.lt g rfl).1
  replace hD0 := hD0.below hb3
  clear hb3 kL hcu
  have hH := ht_small (n := C.length) (by omega)
  obtain ⟨n, hn⟩ : ∃ n, n = C.length := ⟨_, rfl⟩
  rw [← hn] at kH hcu' g1 h1 hl hH ⊢
  have hn' := Lib.hid hn
  obtain ⟨H, hHd⟩ : ∃ H, H = ht n := ⟨_, rfl⟩
  rw [← hHd] at kH hH
  have hHd' := Lib.hid hHd
  have hD := Lib.hid hD0
  clear hn hHd hD0
  go_wp2_with fail
  refine (kH.out _).mono ?_
  rintro e w4 ⟨rfl, rfl⟩
  clear kH
  go_wp2_with fail
  go_loopw [4, 5, 17] (fun e r i wr => ∃ (k g cp : Nat) (rv : Value) (G cap : Nat → Nat), k ≤ H ∧ i = .int .i64 (k : Nat) ∧ e = .int .u64 ((emptyW k).toNat : Int) ∧ r = .slice (some ⟨g, 0, none⟩) (wd n k) cp ∧
    wr.ownsRow w.heap.size 36 1 (.slice (some ⟨g, 0, none⟩) (wd n k) cp) (wd n k) (u64s (rowW C k (wd n k))) ∧ Bd w wr b C k (.slice ca n cc) rv G cap ∧ (∀ t, t < k → G t ≠ g)) (fun _ _ i _ => H - (intOf i).toNat)
  case atStart => exact ⟨0, g, cp, _, _, _, Nat.zero_le _, rfl, rfl, rfl, hcu', by rw [hn'.out]; exact hD.out, fun t ht => absurd ht (Nat.not_lt_zero _)⟩
  case round =>
    obtain ⟨k, g, cp, rv, G, cap, hk, rfl, rfl, rfl, ho, hB, hd⟩ := hrel
    have hor := Lib.hid ho
    have hBr := Lib.hid hB
    have hdr := Lib.hid hd
    clear ho hB hd hcu' hD hgw
    obtain ⟨i0, hi0, hz0, hz1, hz2⟩ := info_parts info_word
    have hi0' := Lib.hid (And.intro hi0 (And.intro hz0 (And.intro hz1 hz2)))
    obtain ⟨i1, hi1, hy0, hy1, hy2⟩ := info_parts info_words
    have hi1' := Lib.hid (And.intro hi1 (And.intro hy0 (And.intro hy1 hy2)))
    clear hi0 hz0 hz1 hz2 hi1 hy0 hy1 hy2
    have hdl := wd_le n k
    have hmax : wd n k ≤ 1001 := by omega
    clear hdl
    by_cases hlt : k < H
    · have hkh : k < ht n := by rw [← hHd'.out]; exact hlt
      have hpw := pw_up hkh
      have hpd : pw n k = wd n k + wd n k % 2 := by unfold pw; rw [if_pos hkh]
      -- the row made even
      have hpad := Lib.hid (fun h => row_pad C (t := k) (by rw [← hn'.out]; exact hkh) (by rw [← hn'.out]; exact h))
      rw [← hn'.out] at hpad
      have hkp := Lib.hid hkh
      have hpw' := Lib.hid hpw
      clear hkh hpw
      obtain ⟨d, hd0⟩ : ∃ d, d = wd n k := ⟨_, rfl⟩
      obtain ⟨p, hp0⟩ : ∃ p, p = pw n k := ⟨_, rfl⟩
      rw [← hd0] at hor hpad hpd hmax ⊢
      rw [← hp0] at hpd hpad hpw'
      have hdp := Lib.hid (And.intro hd0 (And.intro hp0 hpd))
      have hpb : p ≤ 1002 := by omega
      clear hd0 hp0 hpd
      go_upto_if 22 with fail
      go_cut [5] (fun r W => ∃ g2 c2, r = .slice (some ⟨g2, 0, none⟩) p c2 ∧ W.ownsRow w.heap.size 36 1 (.slice (some ⟨g2, 0, none⟩) p c2) p (u64s (rowW C k p)) ∧ Bd w W b C k (.slice ca n cc) rv G cap ∧ (∀ t, t < k → G t ≠ g2))
      case first =>
        rcases Nat.mod_two_eq_zero_or_one d with hev | hod
        · have hz : ((d : Int) % 2 == 0) = true := by simp only [beq_iff_eq]; omega
          have hz2 : (d : Int) % 2 = 0 := by omega
          obtain rfl : p = d := by have := hdp.out.2.2; omega
          go_wp2
          go_meet
          exact ⟨g, cp, rfl, hor.out, hBr.out, hdr.out⟩
        · have hz : ((d : Int) % 2 == 0) = false := by simp only [beq_eq_false_iff_ne, ne_eq]; omega
          have hz2 : ¬ (d : Int) % 2 = 0 := by omega
          have hpd1 : p = d + 1 := by have := hdp.out.2.2; omega
          have hp2 := hpad.out hod
          generalize emptyW k = z at *
          have hp3 := Lib.hid hp2
          have hpd2 := Lib.hid hpd1
          have hsz := Lib.hid hBr.out.bel.size
          clear hp2 hpd1
          go_wp2_with (at_builtin; refine wpList_append_lies _ rfl _ _ 28 rfl w.heap.size 36 i0 _ 1 8 Try.underlying28 hi0'.out.1 hi0'.out.2.1 hi0'.out.2.2.1 hi0'.out.2.2.2 rfl (by decide) (.slice (some ⟨g, 0, none⟩) d cp) d (u64s (rowW C k d)) rfl (hor.out.alloc _) ⟨wr.heap.size, 0, none⟩ 1 1 (u64s [z]) rfl rfl (word_news wr z) (u64s_one _) Nat.one_pos (by unfold maxLen; omega) (by omega) (size_more wr _ hsz.out) _ rfl ?_; intro g2 cap2 w2 hown2 hgrow2 hloc2 hlt2; have hown3 := Lib.hid hown2; have hgrow3 := Lib.hid hgrow2; have hloc3 := Lib.hid hloc2; clear hown2 hgrow2 hloc2)
          go_meet
          refine ⟨g2, cap2, by rw [hpd2.out], ?_, hBr.out.pad hor.out hdr.out hgrow3.out, fun t ht => ?_⟩
          · rw [← hp3.out, hpd2.out, u64s_append]; exact hown3.out
          · rcases hloc3.out with h | h
            · have h1 : g = g2 := by simpa [Value.ownBlock] using h
              rw [← h1]; exact hdr.out t ht
            · have := (hBr.out.ro t ht).lt
              rw [World.size_alloc] at h
              omega
      obtain ⟨g2, c2, rfl, ho2, hB2, hd2⟩ := hcut
      obtain ⟨X, hX⟩ : ∃ V, V = wc := ⟨wc, rfl⟩
      subst hX
      clear hor hBr hdr hpad
      have hrr := Lib.hid hB2.rr
      have c1 : X.cell? ⟨b, 1, none⟩ = some rv := by simp [World.cell?, hB2.sb]
      have hbl : b < X.heap.size := (Array.getElem?_eq_some_iff.1 hB2.sb).1
      obtain ⟨ra, rc, rfl, _, _, _, _⟩ := (SRow.owned hB2.rr).shape Nat.one_pos
      have hsz := Lib.hid hB2.bel.size
      have hBx := Lib.hid hB2
      have ho2' := Lib.hid ho2
      have hd2' := Lib.hid hd2
      clear hB2 ho2 hd2
      obtain ⟨q, hq⟩ : ∃ q, q = wd n (k + 1) := ⟨_, rfl⟩
      rw [← hq] at hpw'
      have hq' := Lib.hid hq
      clear hq
      obtain rfl : p = 2 * q := hpw'.out
      go_upto_region 8 with fail
      go_upto_region 9 with (at_builtin; refine wpList_append_lies _ rfl _ _ 86 rfl w.heap.size 28 i1 _ 1 24 Try.underlying86 hi1'.out.1 hi1'.out.2.1 hi1'.out.2.2.1 hi1'.out.2.2.2 rfl (by decide) (.slice ra k rc) k (rowsV G cap C.length k) rfl (hrr.out.alloc _) ⟨X.heap.size, 0, none⟩ 1 1 [.slice (some ⟨g2, 0, none⟩) (2 * q) c2] rfl rfl (slice_news X _) (by simp [Value.oneCell']) Nat.one_pos (by unfold maxLen; omega) (by omega) (size_more X _ hsz.out) _ rfl ?_; intro g3 cap3 w2 hown2 hgrow2 hloc2 hlt2; have hown3 := Lib.hid hown2; have hgrow3 := Lib.hid hgrow2; have hsb2 := hBx.out.sbg hgrow2; have k1 := hsb2.1; have kf := hsb2.2; clear hown2 hgrow2 hloc2 hsb2)
      have hkn : pw C.length k = 2 * q := by rw [← hn'.out]; have := hdp.out; omega
      have hP := hBx.out.push (g := g2) (cp := c2) (by rw [hkn]; show X.ownsRow _ _ _ _ _ (u64s (rowW C k (pw C.length k))); rw [hkn]; exact ho2'.out) hd2'.out (by rw [hkn]; exact hown3.out) hgrow3.out
      generalize w2.setCell ⟨b, 1, none⟩ (.slice (some ⟨g3, 0, none⟩) (k + 1) cap3) = U at *
      have hR := hP.ro k (Nat.lt_succ_self k)
      rw [if_pos rfl, if_pos rfl, show rowsW C k = rw' (nodeW C k) (2 * q) from by show rowW C k (pw C.length k) = _; rw [hkn]; rfl] at hR
      have kA := Lib.hid (rowAbove_any (nodeW C k) q g2 c2 U hR (by omega))
      have hP' := Lib.hid hP
      clear hR hP ho2' hd2' hown3 hgrow3 k1 kf hBx hrr c1 hsz
      have kP := Lib.hid (fun W => pair_any (emptyW k) (emptyW k) W)
      have hek := Lib.hid (show emptyW (k + 1) = pairW (emptyW k) (emptyW k) from rfl)
      generalize ((emptyW k).toNat : Int) = z at *
      go_wp2_with fail
      refine (kA.out).mono ?_
      rintro e w3 ⟨g4, c4, rfl, ho4, hb4⟩
      go_wp2_with fail
      refine (kP.out _).mono ?_
      rintro e w5 ⟨rfl, hb5⟩
      go_wp2
      go_roundw
      case rel =>
        refine ⟨k + 1, g4, c4, _, _, _, hlt, by go_num, by rw [hek.out], by rw [← hq'.out], ?_, (hP'.out.below hb4).below hb5, fun t ht => ?_⟩
        · rw [← hq'.out]
          exact own_mono (base' := w.heap.size) (own_other ho4 (grown_of_below hb5) fun r e => by cases e) hP'.out.bel.size
        · have h1 := (hP'.out.ro t ht).lt
          have h2 := (ho4.lt g4 rfl).1
          omega
      case measure => simp [intOf]; omega
    · obtain rfl : k = H := by omega
      have hkh : ¬ k < ht n := by rw [← hHd'.out]; exact hlt
      have hpd : pw n k = wd n k := by unfold pw; rw [if_neg hkh]
      have c1 : wr.cell? ⟨b, 1, none⟩ = some rv := by simp [World.cell?, hBr.out.sb]
      have hbl : b < wr.heap.size := (Array.getElem?_eq_some_iff.1 hBr.out.sb).1
      have hrr := Lib.hid hBr.out.rr
      obtain ⟨ra, rc, rfl, _, _, _, _⟩ := (SRow.owned hBr.out.rr).shape Nat.one_pos
      have hsz := Lib.hid hBr.out.bel.size
      rw [← hpd] at hor ⊢
      obtain ⟨p, hp0⟩ : ∃ p, p = pw n k := ⟨_, rfl⟩
      rw [← hpd, ← hp0] at hmax
      rw [← hp0] at hor ⊢
      have hp0' := Lib.hid hp0
      clear hp0 hpd hkh
      go_wp2_with (at_builtin; refine wpList_append_lies _ rfl _ _ 86 rfl w.heap.size 28 i1 _ 1 24 Try.underlying86 hi1'.out.1 hi1'.out.2.1 hi1'.out.2.2.1 hi1'.out.2.2.2 rfl (by decide) (.slice ra k rc) k (rowsV G cap C.length k) rfl (hrr.out.alloc _) ⟨wr.heap.size, 0, none⟩ 1 1 [.slice (some ⟨g, 0, none⟩) p cp] rfl rfl (slice_news wr _) (by simp [Value.oneCell']) Nat.one_pos (by unfold maxLen; omega) (by omega) (size_more wr _ hsz.out) _ rfl ?_; intro g3 cap3 w2 hown2 hgrow2 hloc2 hlt2; have hown3 := Lib.hid hown2; have hgrow3 := Lib.hid hgrow2; have hsb2 := hBr.out.sbg hgrow2; have k1 := hsb2.1; have kf := hsb2.2; clear hown2 hgrow2 hloc2 hsb2)
      have hkn : pw C.length k = p := by rw [← hn'.out]; exact hp0'.out.symm
      have hP := hBr.out.push (g := g) (cp := cp) (by rw [hkn]; show wr.ownsRow _ _ _ _ _ (u64s (rowW C k (pw C.length k))); rw [hkn]; exact hor.out) hdr.out (by rw [hkn]; exact hown3.out) hgrow3.out
      have hkH : k = ht C.length := by rw [← hn'.out]; exact hHd'.out
      go_ret
      subst hkH
      obtain ⟨t1, t2⟩ := hP.done
      exact ⟨b, _, rfl, t1, t2, hP.bel⟩

end Go.Proofs.Ytknjdkgemkmoeaa
