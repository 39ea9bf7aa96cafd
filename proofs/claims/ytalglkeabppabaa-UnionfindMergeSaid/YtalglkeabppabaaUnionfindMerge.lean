/-
  package unionfind, P8.3, P8.5: for a number of elements from 0 to 14 and up to 30 edges, made of any numbers, one more edge either leaves the islands as they are or replaces two of them by their union, and the section's example holds; whatever the arguments are.
-/
import Derived.Test.YtalglkeabppabaaRows
import Derived.WalkKit
import Derived.ProofKit
import Derived.OpenShut
import Derived.Test.YtalglkeabppabaaOpen
import Derived.Test.YtalglkeabppabaaUfM
namespace Go.Proofs.Ytalglkeabppabaa.unionfindMerge
open Go.ChangeShapes Go.WideShapes Go.ChangeAt Go.RowKit
set_option linter.unusedVariables false
set_option linter.unusedSimpArgs false

open Uf
theorem own : ownKnob Try.prog.godebug = none := by kernel_rfl
theorem laid : laidOutB Try.prog = true := by kernel_rfl

set_option maxRecDepth 100000 in
set_option maxHeartbeats 8000000 in
theorem walk (w : World) (a0 : Int) (w0 : (Lit.int .i64 a0).wf = true) (s1 : Value) (Z1 : Nat → Int) (l1 : Nat) (H1 : IntsAt w s1 1 Z1 l1) (a2 : Int) (w2 : (Lit.int .i64 a2).wf = true) (a3 : Int) (w3 : (Lit.int .i64 a3).wf = true) :
    Calls Try.prog 9 #[.int .i64 a0, s1, .int .i64 a2, .int .i64 a3] w fun e w' => e = .returned (.bool true) ∧ Below w.heap.size w w' := by
  have H1' := Lib.hid H1
  clear H1
  have hk := sz_le a0
  obtain ⟨k, hkk⟩ : ∃ k, k = sz a0 := ⟨_, rfl⟩
  have kz := Lib.hid (fun W => size8_any a0 W w0)
  rw [← hkk] at hk kz
  clear hkk
  obtain ⟨E, hEE⟩ : ∃ E, E = edgesL Z1 l1 := ⟨_, rfl⟩
  have hE0 : E.length ≤ 30 := by rw [hEE, edgesL_len]; omega
  have ke := Lib.hid (fun W (h : IntsAt W s1 1 Z1 l1) => edgesM_any s1 Z1 l1 W h)
  rw [← hEE] at ke
  clear hEE
  obtain ⟨m, hm⟩ : ∃ m, m = E.length := ⟨_, rfl⟩
  rw [← hm] at hE0
  have hm' := Lib.hid hm
  have hl1 := Lib.hid (show E.length ≤ 10000 from by rw [← hm]; omega)
  clear hm
  have hk' : k ≤ 10000 := by omega
  obtain ⟨b1, b2⟩ := i64_bd w2
  obtain ⟨b3, b4⟩ := i64_bd w3
  have kx := Lib.hid (fun W => around_any a2 15 W b1 b2 (by omega))
  have ky := Lib.hid (fun W => around_any a3 15 W b3 b4 (by omega))
  clear b1 b2 b3 b4
  generalize arnd a2 15 = X at *
  generalize arnd a3 15 = Y at *
  obtain ⟨i0, hi0, hz0, hz1, hz2⟩ := info_parts infoP
  have hi0' := Lib.hid hi0; clear hi0
  have hz0' := Lib.hid hz0; clear hz0
  have hz1' := Lib.hid hz1; clear hz1
  have hz2' := Lib.hid hz2; clear hz2
  have hl2 := Lib.hid (show (E ++ [(X, Y)]).length ≤ 10000 from by rw [List.length_append]; have := hl1.out; have := hm'.out; simp only [List.length_cons, List.length_nil]; omega)
  go_enter Try.func9, Try.ntmps9
  go_wp2_with (first
    | (go_at_call 11; with_reducible refine (kz.out _).mono ?_; rintro e u1 ⟨rfl, rfl⟩)
    | (go_at_call 14; with_reducible refine (ke.out _ H1'.out).mono ?_; rintro e u1 ⟨v1, rfl, hP, hnil, hb1⟩; obtain ⟨ea, ecap, rfl, e1, e2, e3⟩ := hP.shape; rw [← hm'.out] at e1 e3 hP hnil ⊢; have hP' := Lib.hid hP; have hb1' := Lib.hid hb1; have e3' := Lib.hid e3; have hnil' := Lib.hid (fun (h : m = 0) => (show ea = none ∧ ecap = 0 from by have := hnil h; simp only [Value.slice.injEq] at this; exact ⟨this.1, this.2.2⟩)); clear hP hb1 e3 hnil)
    | (go_at_call 27; with_reducible refine (kx.out _).mono ?_; rintro e u2 ⟨rfl, rfl⟩)
    | (go_at_call 27; with_reducible refine (ky.out _).mono ?_; rintro e u2 ⟨rfl, rfl⟩)
    | (go_at_call 23; with_reducible refine (islands_any k _ E u1 hP'.out hk' hl1.out).mono ?_; rintro e u3 ⟨v3, rfl, hG, hb3⟩; have hG' := Lib.hid hG.gl; have hb3' := Lib.hid hb3; have hN := Lib.hid (fun (h0 : 0 < m) => (show ∃ ad, ea = some ad ∧ ∀ (j : Nat) (u : Value), (flatP E)[j]? = some u → u1.cell? (ad.add j) = some u from by obtain ⟨g, off, e, _, hc⟩ := e3'.out h0; exact ⟨_, e, flatP_news hc⟩)); clear hG hb3)
    | (at_builtin; refine wpList_append_own_opt rfl _ _ 27 rfl u3.heap.size 31 i0 _ 2 16 Try.underlying27 hi0'.out hz0'.out hz1'.out hz2'.out rfl (by decide) (.slice (some ⟨u3.heap.size, 0, none⟩) 0 0) 0 [] rfl (World.ownsRow_made u3 #[] 0 (Nat.le_refl _) (Nat.zero_le _) rfl) ea m ecap (flatP E) rfl (by rw [flatP_length, ← hm'.out]) hnil'.out (fun h0 => (by obtain ⟨ad, e, hc⟩ := hN.out h0; exact ⟨ad, e, fun j u hu => carry (below_step hb3'.out (alloc_below _ _)) (hc j u hu)⟩)) (flatP_one E) (by unfold maxLen; omega) (by omega) (by simp) ?_; intro v4 w4 hown4 hg4; rw [Nat.zero_add, List.nil_append] at hown4; have hown4' := Lib.hid hown4; have hb4' := Lib.hid (show Below u3.heap.size u3 w4 from (alloc_below u3 _).grown hg4 (by simp) (fun j hj => by cases hj; exact Nat.le_refl _)); clear hown4 hg4)
    | (at_builtin; refine wpList_append_own _ rfl _ _ 27 rfl u3.heap.size 31 i0 _ 2 16 Try.underlying27 hi0'.out hz0'.out hz1'.out hz2'.out rfl (by decide) v4 m (flatP E) rfl (World.ownsRow.alloc hown4'.out _) ⟨w4.heap.size, 0, none⟩ 1 1 [.int .i64 X, .int .i64 Y] rfl rfl (cells_new _ _ _ _ (by simp)) (two_one _ _) (by unfold maxLen; omega) (by omega) (by have := hb4'.out.size; simp; omega) ?_; intro v5 w5 hown5 hg5 _; have hP5 := Lib.hid (show PL w5 v5 (E ++ [(X, Y)]) from by rw [show flatP E ++ [.int .i64 X, .int .i64 Y] = flatP (E ++ [(X, Y)]) from by rw [flatP_append]; rfl] at hown5; exact PL.owned hown5); have hb5' := Lib.hid (show Below u3.heap.size u3 w5 from (below_step hb4'.out (alloc_below w4 _)).grown hg5 (by have := hb4'.out.size; simp; omega) (fun j hj => (World.ownsRow.lt hown4'.out j hj).1)); clear hown5 hg5)
    | (go_at_call 23; with_reducible refine (islands_any k _ (E ++ [(X, Y)]) w5 hP5.out hk' hl2.out).mono ?_; rintro e u6 ⟨v6, rfl, hG, hb6⟩; have hN6 := Lib.hid hG.gl; have hb6' := Lib.hid (below_step hb5'.out hb6); clear hG hb6))
  obtain ⟨f, hf⟩ : ∃ f, f = playF k idL E := ⟨_, rfl⟩
  have hO := (hG'.out.carry hb6'.out)
  rw [show isl k E = grps k f from by rw [hf]; rfl] at hO
  have hN := hN6.out
  rw [show isl k (E ++ [(X, Y)]) = grps k (uniF k f X Y) from by rw [hf, ← play_snoc k E (X, Y)]; rfl] at hN
  have hend := Lib.hid (merge_end k f X Y)
  have hb7 := Lib.hid (below_step (below_step hb1'.out hb3'.out) hb6'.out)
  clear hf hG' hN6 hb6' hb5' hP5 hown4' hb4' hb3' hP' e3' hnil' hl1 hl2 hb1' kx ky kz ke H1'
  obtain ⟨gs, hgs⟩ : ∃ gs, gs = grps k f := ⟨_, rfl⟩
  obtain ⟨G, hG⟩ : ∃ G, G = grps k (uniF k f X Y) := ⟨_, rfl⟩
  rw [← hgs] at hO
  rw [← hG] at hN
  have hgs' := Lib.hid hgs
  have hGG := Lib.hid hG
  clear hgs hG
  obtain ⟨oa, ocap, rfl, o1, o2, o3⟩ := hO.shape
  obtain ⟨na, ncap, rfl, n1, n2, n3⟩ := hN.shape
  simp only [List.length_map] at o1 o3 n1 n3 ⊢
  obtain ⟨M, hM⟩ : ∃ M, M = gs.length := ⟨_, rfl⟩
  obtain ⟨N, hN0⟩ : ∃ N, N = G.length := ⟨_, rfl⟩
  rw [← hM] at o1 o3 ⊢
  rw [← hN0] at n1 n3 ⊢
  unfold maxLen at o2 n2
  have hM' := Lib.hid hM
  have hN' := Lib.hid hN0
  have hMk := Lib.hid (show M ≤ 14 from by rw [hM, hgs'.out, grps_length]; have := heads_len k f; omega)
  have o3' := Lib.hid o3
  have n3' := Lib.hid n3
  clear hM hN0 o3 n3 hO hN
  go_loopw [15, 16, 17, 18] (fun jn i _ _ wr => ∃ t : Nat, t ≤ M ∧ i = .int .i64 (t : Nat) ∧ jn = .int .i64 (lostN k f G t : Nat) ∧ Below u6.heap.size u6 wr) (fun _ i _ _ _ => M - (intOf i).toNat)
  case atStart => exact ⟨0, Nat.zero_le _, rfl, rfl, Below.refl _ _⟩
  case round =>
    obtain ⟨t, ht, rfl, rfl, hB⟩ := hrel
    obtain ⟨W0, hW0⟩ : ∃ V, V = wr := ⟨wr, rfl⟩
    subst hW0
    have hB0 := Lib.hid hB
    clear hB
    have hjn := Lib.hid (lostN_le k f G t)
    by_cases hlt : t < M
    · obtain ⟨og, ooff, rfl, ho1, ho2⟩ := o3'.out (by omega)
      obtain ⟨p, hp⟩ : ∃ p, gs[t]? = some p := ⟨_, List.getElem?_eq_getElem (by rw [← hM'.out]; exact hlt)⟩
      obtain ⟨ob, on, oc, c0, hI⟩ := ho2 t (natI p) (by rw [List.getElem?_map, hp]; rfl)
      have hI' := Lib.hid hI
      have hp' := Lib.hid hp
      have hst := Lib.hid (show lostN k f G (t + 1) = lostN k f G t + (if p ∈ G then 0 else 1) from lostN_step (by rw [← hgs'.out]; exact hp))
      clear hp hI ho2
      have hc0 := Lib.hid c0
      clear c0
      go_wp2_with fail
      go_loopw [17, 18] (fun fd j wr => ∃ q : Nat, q ≤ N ∧ j = .int .i64 (q : Nat) ∧ fd = .bool (decide (p ∈ G.take q)) ∧ Below u6.heap.size u6 wr) (fun _ j _ => N - (intOf j).toNat)
      case atStart => exact ⟨0, Nat.zero_le _, rfl, by simp, hB0.out⟩
      case round =>
        obtain ⟨q, hq, rfl, hfd, hB⟩ := hrel
        obtain ⟨W1, hW1⟩ : ∃ V, V = wr := ⟨wr, rfl⟩
        subst hW1
        have hB1 := Lib.hid hB
        clear hB
        by_cases hlt2 : q < N
        · obtain ⟨ng, noff, rfl, hn1, hn2⟩ := n3'.out (by omega)
          obtain ⟨h, hh⟩ : ∃ h, G[q]? = some h := ⟨_, List.getElem?_eq_getElem (by rw [← hN'.out]; exact hlt2)⟩
          obtain ⟨nb, nn, nc, d0, hJ⟩ := hn2 q (natI h) (by rw [List.getElem?_map, hh]; rfl)
          have hts := Lib.hid (take_mem_succ p hh)
          replace d0 := carry hB1.out d0
          have c0 := carry hB1.out hc0.out
          have ii := Lib.hid (And.intro (hI'.out.carry hB1.out) (hJ.carry hB1.out))
          clear hh hJ hn2
          have kk := Lib.hid (fun W (hW : Below W1.heap.size W1 W) => sameI_any (.slice ob on oc) (.slice nb nn nc) (natI p) (natI h) W (ii.out.1.carry hW) (ii.out.2.carry hW))
          rw [natI_dec] at kk
          have i1 : (0 : Int) ≤ (q : Int) := by omega
          have i2 : (q : Int) < (N : Int) := by omega
          have i3 : (0 : Int) ≤ (t : Int) := by omega
          have i4 : (t : Int) < (M : Int) := by omega
          cases hd : decide (p ∈ G.take q) with
          | true =>
            rw [hd] at hfd hts
            subst hfd
            clear hd
            have hts2 := Lib.hid (show decide (p ∈ G.take (q + 1)) = true from by rw [hts.out]; rfl)
            go_upto_region 15 with fail
            refine wp_region_made (by kernel_rfl) (by kernel_rfl) ?_
            intro W hK
            have g_c0 := fun x => carry ((hK.below x)) c0
            have g_d0 := fun x => carry ((hK.below x)) d0
            repeat (go_big_quiet_step ((fail)))
            refine wpQuiet_nil ?_
            intro wq hw'
            have hbq := kept_in hK hw'
            clear g_c0 g_d0
            clear hw' hK W
            replace c0 := carry (hbq) c0
            replace d0 := carry (hbq) d0
            go_wp2_with fail
            go_roundw
            case rel => exact ⟨q + 1, by omega, by go_num, by rw [hts2.out], below_step hB1.out hbq⟩
            case measure => simp [intOf]; omega
          | false =>
            rw [hd] at hfd hts
            subst hfd
            clear hd
            have hts2 := Lib.hid (show decide (p ∈ G.take (q + 1)) = decide (p = h) from by rw [hts.out]; simp)
            generalize decide (p = h) = BB at *
            go_upto_region 15 with fail
            refine wp_region_made (by kernel_rfl) (by kernel_rfl) ?_
            intro W hK
            have g_c0 := fun x => carry ((hK.below x)) c0
            have g_d0 := fun x => carry ((hK.below x)) d0
            repeat (go_big_quiet_step ((go_at_call 28; with_reducible exact met_made (kk.out _ (hK.below _)))))
            refine wpQuiet_nil ?_
            intro wq hw'
            have hbq := kept_in hK hw'
            clear g_c0 g_d0
            clear hw' hK W
            replace c0 := carry (hbq) c0
            replace d0 := carry (hbq) d0
            go_wp2_with fail
            go_roundw
            case rel => exact ⟨q + 1, by omega, by go_num, by rw [hts2.out], below_step hB1.out hbq⟩
            case measure => simp [intOf]; omega
        · obtain rfl : q = N := by omega
          have htk := Lib.hid (show G.take q = G from by rw [hN'.out, List.take_length])
          rw [htk.out] at hfd
          by_cases hin : p ∈ G
          · rw [decide_eq_true hin] at hfd
            subst hfd
            have hl := Lib.hid (show lostN k f G (t + 1) = lostN k f G t from by rw [hst.out, if_pos hin]; rfl)
            clear hin
            go_wp2_with fail
            go_roundw
            case rel => exact ⟨t + 1, by omega, by go_num, by rw [hl.out], hB1.out⟩
            case measure => simp [intOf]; omega
          · rw [decide_eq_false hin] at hfd
            subst hfd
            have hl := Lib.hid (show lostN k f G (t + 1) = lostN k f G t + 1 from by rw [hst.out, if_neg hin])
            have hdiff := Lib.hid (show decide (X ∈ natI p) ≠ decide (Y ∈ natI p) from by
              rcases hend.out with ⟨h1, h2, h3⟩ | ⟨h1, h2, h3, h4⟩
              · refine absurd ?_ hin
                rw [hGG.out, h2, ← hgs'.out]
                exact List.mem_of_getElem? hp'.out
              · exact h4 t p (by rw [← hgs'.out]; exact hp'.out) (by rw [← hGG.out]; exact hin))
            clear hin
            have c0 := carry hB1.out hc0.out
            have ii := Lib.hid (hI'.out.carry hB1.out)
            have kX := Lib.hid (fun W (hW : Below W1.heap.size W1 W) => hasI_any (.slice ob on oc) (natI p) X W (ii.out.carry hW))
            have kY := Lib.hid (fun W (hW : Below W1.heap.size W1 W) => hasI_any (.slice ob on oc) (natI p) Y W (ii.out.carry hW))
            have i3 : (0 : Int) ≤ (t : Int) := by omega
            have i4 : (t : Int) < (M : Int) := by omega
            generalize decide (X ∈ natI p) = BX at *
            generalize decide (Y ∈ natI p) = BY at *
            have hjb := hjn.out
            generalize lostN k f G t = J at *
            have hbb : (BX = true ∧ BY = false) ∨ (BX = false ∧ BY = true) := by
              have := hdiff.out
              cases BX <;> cases BY <;> simp at this ⊢
            rcases hbb with ⟨rfl, rfl⟩ | ⟨rfl, rfl⟩
            · go_upto_region 18 with fail
              refine wp_region_made (by kernel_rfl) (by kernel_rfl) ?_
              intro W hK
              have g_c0 := fun x => carry ((hK.below x)) c0
              repeat (go_big_quiet_step ((first | (go_at_call 26; with_reducible exact met_same (kX.out _ (hK.below _))) | (go_at_call 26; with_reducible exact met_same (kY.out _ (hK.below _))))))
              refine wpQuiet_nil ?_
              intro wq hw'
              have hbq := kept_in hK hw'
              clear g_c0
              clear hw' hK W
              replace c0 := carry (hbq) c0
              go_wp2_with fail
              go_roundw
              case rel => exact ⟨t + 1, by omega, by go_num, by rw [hl.out]; go_num, below_step hB1.out hbq⟩
              case measure => simp [intOf]; omega
            · go_upto_region 18 with fail
              refine wp_region_made (by kernel_rfl) (by kernel_rfl) ?_
              intro W hK
              have g_c0 := fun x => carry ((hK.below x)) c0
              repeat (go_big_quiet_step ((first | (go_at_call 26; with_reducible exact met_same (kX.out _ (hK.below _))) | (go_at_call 26; with_reducible exact met_same (kY.out _ (hK.below _))))))
              refine wpQuiet_nil ?_
              intro wq hw'
              have hbq := kept_in hK hw'
              clear g_c0
              clear hw' hK W
              replace c0 := carry (hbq) c0
              go_wp2_with fail
              go_roundw
              case rel => exact ⟨t + 1, by omega, by go_num, by rw [hl.out]; go_num, below_step hB1.out hbq⟩
              case measure => simp [intOf]; omega
    · obtain rfl : t = M := by omega
      have hB1 := Lib.hid hB0.out
      rcases hend.out with ⟨_, h2, h3⟩ | ⟨_, h2, h3, _⟩
      · rw [← hGG.out, ← hgs'.out, ← hM'.out] at h3
        rw [← hGG.out, ← hgs'.out] at h2
        have hNM : N = t := by rw [hN'.out, hM'.out, h2]
        rw [h3]
        subst hNM
        clear h2 h3 hend hjn
        have b1 : ((N : Int) == (N : Int)) = true := by simp
        go_wp2_with (first
          | (go_at_call 22; with_reducible refine (lives8_any W0).mono ?_; rintro e y4 ⟨rfl, hb10⟩; have hw10 := Lib.hid (below_step (below_step hb7.out hB1.out) hb10); clear hb10))
        go_ret
        exact ⟨rfl, hw10.out⟩
      · rw [← hGG.out, ← hgs'.out, ← hM'.out] at h3
        rw [← hGG.out, ← hgs'.out, ← hN'.out, ← hM'.out] at h2
        rw [h3]
        subst h2
        clear h3 hend hjn
        have b1 : ((N : Int) == ((N + 1 : Nat) : Int) - 1) = true := by simp
        have b2 : ((N + 1 : Nat) : Int) - 1 = (N : Int) := by omega
        have b3 : ((N : Int) == (N : Int)) = true := by simp
        go_wp2_with (first
          | (go_at_call 22; with_reducible refine (lives8_any W0).mono ?_; rintro e y4 ⟨rfl, hb10⟩; have hw10 := Lib.hid (below_step (below_step hb7.out hB1.out) hb10); clear hb10))
        go_ret
        exact ⟨rfl, hw10.out⟩

set_option maxRecDepth 100000 in
theorem lifted (os : Os) (started : os.Started) (H : Type) (enc : TypeId × Value → H) :
    ReturnsInHanded {} Try.checked os 9 .any (Rows.unionfindMergeSpec.pre6 enc Try.prog Try.f9 Rows.unionfindMergeRow.domain false) (Rows.unionfindMergeSpec.post enc Try.prog Try.f9 false true false false) := by
  refine returnsInHanded_of_change (C := Try.checked) own started (by kernel_rfl) Try.func9
    (ChangeSpec.witness6 (enc := enc) (C := Try.checked) false ⟨#[], #[.int .i64 0, .slice none 0 0, .int .i64 0, .int .i64 0], []⟩ 8 (by kernel_rfl) (by kernel_rfl) (by kernel_rfl) (by kernel_rfl)) ?_
  intro W base args ds gs before hval0 hW hcnd _
  have hval : ∀ (j : Nat) t v, Try.f9.params[j]? = some t → args[j]? = some v → Value.okWide Try.prog W .any base t v := hval0
  have hW' := hW
  obtain ⟨p, q, hA0, hV, rfl, hfz, hnd⟩ := hW
  have hA : DataW.TrodAll enc Try.prog W 0 (fun _ => true) true Try.f9.params.toList args.toList ds p := hA0
  rw [Try.params9] at hA hval
  have hAk := hA
  obtain ⟨v0, vs0, d0, ds0, p0, q0, hargs, rfl, hp0, h0, r0⟩ := trodAll_cons hA
  obtain ⟨v1, vs1, d1, ds1, p1, q1, rfl, rfl, hp1, h1, r1⟩ := trodAll_cons r0
  obtain ⟨v2, vs2, d2, ds2, p2, q2, rfl, rfl, hp2, h2, r2⟩ := trodAll_cons r1
  obtain ⟨v3, vs3, d3, ds3, p3, q3, rfl, rfl, hp3, h3, r3⟩ := trodAll_cons r2
  obtain ⟨rfl, rfl, -⟩ := trodAll_nil r3
  obtain rfl : args = #[v0, v1, v2, v3] := by cases args; simp_all
  obtain ⟨rfl, rfl⟩ := trodVars_none hV
  obtain ⟨a0, rfl, -, -, w0⟩ := open_int Try.underlying3 (hval 0 3 v0 rfl rfl) h0
  obtain ⟨x1, q1, c1, rfl⟩ := okWide_slice Try.underlying22 (hval 1 22 v1 rfl rfl)
  obtain ⟨fu1, fh1⟩ := h1
  obtain ⟨s1, Z1, l1, e1, H1⟩ := open_int_cells Try.underlying22 Try.underlying3 (by kernel_rfl) fh1
  simp only [Value.cells, List.cons.injEq, and_true] at e1
  obtain rfl := e1.symm
  obtain ⟨a2, rfl, -, -, w2⟩ := open_int Try.underlying3 (hval 2 3 v2 rfl rfl) h2
  obtain ⟨a3, rfl, -, -, w3⟩ := open_int Try.underlying3 (hval 3 3 v3 rfl rfl) h3
  clear hA0 hval0
  simp only [List.append_nil] at hW'
  refine (walk W a0 w0 _ Z1 l1 H1 a2 w2 a3 w3).mono fun e W' ⟨he, hb⟩ => ?_
  subst he
  exact ⟨_, rfl, kept_post (pa := p) hW' (fun _ _ _ => (trodAll_cons_mk (shut_bool Try.underlying4 _) trodAll_mk0)) (fun sp hsp => trodAll_stays laid hb (by rw [Try.params9]; decide +kernel) hAk (fun x hx => hW'.lt x hx) hsp) (fun _ => rfl) hb (ok_one (by kernel_rfl) rfl (okWide_bool_mk Try.underlying4 _))⟩

theorem over : Rows.unionfindMergeRow.holds Try.pinned (OpenSpec.ofChange Rows.unionfindMergeSpec) :=
  OpenClaim.holds_of_wide 9 Try.f9 rfl rfl rfl rfl rfl rfl rfl ⟨rfl, rfl, rfl, rfl, rfl⟩ rfl rfl rfl rfl rfl (by kernel_rfl) Try.func9 (by kernel_rfl)
    (of_decide_eq_true (by kernel_rfl)) (by unfold Func.isWrapper; first | (rw [if_pos (by decide +kernel)]; kernel_rfl) | (rw [if_neg (by decide +kernel)]; exact ⟨rfl, rfl⟩))
    (fun os started H enc _ => lifted os started H enc)

theorem proved : Rows.UnionfindMergeSaid :=
  over
#print axioms proved
end Go.Proofs.Ytalglkeabppabaa.unionfindMerge
