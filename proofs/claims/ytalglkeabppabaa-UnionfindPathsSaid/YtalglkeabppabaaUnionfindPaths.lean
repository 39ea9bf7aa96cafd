/-
  package unionfind, P8.3, P8.5: for a number of elements from 0 to 14 and up to 30 edges, made of any numbers, two vertices are in one island if and only if a path of edges connects them, and the section's example holds; whatever the arguments are.
-/
import Derived.Test.YtalglkeabppabaaRows
import Derived.WalkKit
import Derived.ProofKit
import Derived.OpenShut
import Derived.Test.YtalglkeabppabaaOpen
import Derived.Test.YtalglkeabppabaaUfO
namespace Go.Proofs.Ytalglkeabppabaa.unionfindPaths
open Go.ChangeShapes Go.WideShapes Go.ChangeAt Go.RowKit
set_option linter.unusedVariables false
set_option linter.unusedSimpArgs false

open Uf
theorem own : ownKnob Try.prog.godebug = none := by kernel_rfl
theorem laid : laidOutB Try.prog = true := by kernel_rfl

set_option maxRecDepth 100000 in
set_option maxHeartbeats 8000000 in
theorem walk (w : World) (a0 : Int) (w0 : (Lit.int .i64 a0).wf = true) (s1 : Value) (Z1 : Nat → Int) (l1 : Nat) (H1 : IntsAt w s1 1 Z1 l1) (a2 : Int) (w2 : (Lit.int .i64 a2).wf = true) :
    Calls Try.prog 8 #[.int .i64 a0, s1, .int .i64 a2] w fun e w' => e = .returned (.bool true) ∧ Below w.heap.size w w' := by
  have H1' := Lib.hid H1
  clear H1
  have hk := sz_le a0
  obtain ⟨k, hkk⟩ : ∃ k, k = sz a0 := ⟨_, rfl⟩
  have kz := Lib.hid (fun W => size8_any a0 W w0)
  rw [← hkk] at hk kz
  clear hkk
  by_cases hk0 : k = 0
  · subst hk0
    rw [show ((0 : Nat) : Int) = 0 from rfl] at kz
    have kI := islands_any 0 (.slice none 0 0) [] w (PL.nil w) (by omega) (by decide)
    rw [show ((0 : Nat) : Int) = 0 from rfl, show (isl 0 []).map natI = [] from rfl] at kI
    have kI' := Lib.hid kI
    clear kI
    go_enter Try.func8, Try.ntmps8
    go_wp2_with (first
      | (go_at_call 11; with_reducible refine (kz.out _).mono ?_; rintro e u1 ⟨rfl, rfl⟩)
      | (go_at_call 23; with_reducible refine kI'.out.mono ?_; rintro e u2 ⟨v2, rfl, hG, hb2⟩; obtain ⟨a, cap, rfl, _⟩ := hG.gl.shape; have hb2' := Lib.hid hb2; clear hG hb2)
      | (go_at_call 22; with_reducible refine (lives8_any u2).mono ?_; rintro e u3 ⟨rfl, hb3⟩; have hb3' := Lib.hid (below_step hb2'.out hb3); clear hb3))
    go_ret
    exact ⟨rfl, hb3'.out⟩
  have hkp : 0 < k := by omega
  have b0 : ((k : Int) == 0) = false := by simp only [beq_eq_false_iff_ne, ne_eq]; omega
  clear hk0
  obtain ⟨E, hEE⟩ : ∃ E, E = edgesL Z1 l1 := ⟨_, rfl⟩
  have hE0 : E.length ≤ 30 := by rw [hEE, edgesL_len]; omega
  have ke := Lib.hid (fun W (h : IntsAt W s1 1 Z1 l1) => edges_any s1 Z1 l1 W h)
  rw [← hEE] at ke
  clear hEE
  obtain ⟨m, hm⟩ : ∃ m, m = E.length := ⟨_, rfl⟩
  rw [← hm] at hE0
  have hm' := Lib.hid hm
  have hl1 := Lib.hid (show E.length ≤ 10000 from by rw [← hm]; omega)
  clear hm
  have hk' : k ≤ 10000 := by omega
  obtain ⟨b1, b2⟩ := i64_bd w2
  have kx := Lib.hid (fun W => around_any a2 (k : Int) W b1 b2 (by omega))
  have hsb := arnd_bd a2 (m := (k : Int)) (by omega)
  obtain ⟨s, hs⟩ : ∃ s : Nat, arnd a2 (k : Int) = (s : Int) := ⟨(arnd a2 (k : Int)).toNat, by omega⟩
  have hsk : s < k := by omega
  rw [hs] at kx
  clear hs hsb b1 b2
  obtain ⟨i0, hi0, hz0, hz1, hz2⟩ := info_parts infoU
  have hi0' := Lib.hid hi0; clear hi0
  have hz0' := Lib.hid hz0; clear hz0
  have hz1' := Lib.hid hz1; clear hz1
  have hz2' := Lib.hid hz2; clear hz2
  go_enter Try.func8, Try.ntmps8
  go_wp2_with (first
    | (go_at_call 11; with_reducible refine (kz.out _).mono ?_; rintro e u1 ⟨rfl, rfl⟩)
    | (go_at_call 14; with_reducible refine (ke.out _ H1'.out).mono ?_; rintro e u1 ⟨v1, rfl, hP, _, hb1⟩; obtain ⟨ea, ecap, rfl, e1, e2, e3⟩ := hP.shape; rw [← hm'.out] at e1 e3 hP ⊢; have hP' := Lib.hid hP; have hb1' := Lib.hid hb1; have e3' := Lib.hid e3; clear hP hb1 e3)
    | (go_at_call 27; with_reducible refine (kx.out _).mono ?_; rintro e u2 ⟨rfl, rfl⟩))
  have hR0 := Lib.hid (one_row u1 u1.heap.size (s : Int) (Nat.le_refl _))
  have hA0 := Lib.hid (alloc_below u1 (.cells #[.int .i64 (s : Int)] 3))
  clear H1' ke kz kx
  go_loopw [10, 11, 12, 13, 14] (fun rv i _ _ _ wr => ∃ (n : Nat) (r : List Nat), n ≤ r.length ∧ i = .int .i64 (n : Nat) ∧ RowI wr u1.heap.size rv (natI r) ∧ Good k E s r ∧ (∀ q u, q < n → r[q]? = some u → Led k E r u) ∧ Below u1.heap.size u1 wr) (fun _ i _ _ _ _ => k - (intOf i).toNat)
  case atStart => exact ⟨0, [s], Nat.zero_le _, rfl, hR0.out, Good.start hsk, fun q u h => absurd h (Nat.not_lt_zero _), hA0.out⟩
  case round =>
    obtain ⟨n, r0, hn, rfl, hR, hgd, hled, hB⟩ := hrel
    obtain ⟨W0, hW0⟩ : ∃ V, V = wr := ⟨wr, rfl⟩
    subst hW0
    have hR1 := Lib.hid hR
    have hG1 := Lib.hid hgd
    have hL1 := Lib.hid hled
    have hB1 := Lib.hid hB
    clear hR hgd hled hB hR0 hA0
    obtain ⟨ra, rcap, hrv, r1, r2, r3⟩ := hR1.out.il.shape
    rw [natI_length] at hrv r1
    unfold maxLen at r2
    by_cases hlt : n < r0.length
    · have hnk : n < k := by have := hG1.out.len; omega
      obtain ⟨u, hu⟩ : ∃ u, r0[n]? = some u := ⟨_, List.getElem?_eq_getElem hlt⟩
      have hum := Lib.hid (List.mem_of_getElem? hu)
      have hu' := Lib.hid hu
      rw [hrv] at hR1 ⊢
      obtain ⟨rl, hrl⟩ : ∃ rl, rl = r0.length := ⟨_, rfl⟩
      rw [← hrl] at hlt hR1 r1 ⊢
      have hrl' := Lib.hid hrl
      clear hu hrv r1 r2 r3 hrl
      go_wp2_with fail
      go_loopw [10, 12, 13, 14] (fun rv j _ _ wr => ∃ (q : Nat) (ext : List Nat), q ≤ m ∧ j = .int .i64 (q : Nat) ∧ RowI wr u1.heap.size rv (natI (r0 ++ ext)) ∧ Good k E s (r0 ++ ext) ∧ Led k (E.take q) (r0 ++ ext) u ∧ Below u1.heap.size u1 wr) (fun _ j _ _ _ => m - (intOf j).toNat)
      case atStart => exact ⟨0, [], Nat.zero_le _, rfl, by rw [List.append_nil]; exact hR1.out, by rw [List.append_nil]; exact hG1.out, by rw [List.take_zero]; exact led_nil _ _ _, hB1.out⟩
      case round =>
        obtain ⟨q, ext, hq, rfl, hR, hgd, hled, hB⟩ := hrel
        obtain ⟨W1, hW1⟩ : ∃ V, V = wr := ⟨wr, rfl⟩
        subst hW1
        have hR2 := Lib.hid hR
        have hG2 := Lib.hid hgd
        have hL2 := Lib.hid hled
        have hB2 := Lib.hid hB
        clear hR hgd hled hB
        by_cases hlt2 : q < m
        · obtain ⟨eg, eoff, rfl, he1, he2⟩ := e3'.out (by omega)
          obtain ⟨p, hp⟩ : ∃ p, E[q]? = some p := ⟨_, List.getElem?_eq_getElem (by rw [← hm'.out]; exact hlt2)⟩
          obtain ⟨a, b⟩ := p
          obtain ⟨d0, d1⟩ := he2 q (a, b) hp
          simp only at d0 d1
          have hp' := Lib.hid hp
          have hd := Lib.hid (And.intro d0 d1)
          have hmem := Lib.hid (List.mem_of_getElem? hp)
          clear hp d0 d1 he2
          go_wp2_with fail
          go_loopw [10, 13, 14] (fun rv e _ wr => ∃ (z : Nat) (ext : List Nat), z ≤ 2 ∧ e = .int .i64 (z : Nat) ∧ RowI wr u1.heap.size rv (natI (r0 ++ ext)) ∧ Good k E s (r0 ++ ext) ∧ Led k (E.take q) (r0 ++ ext) u ∧ (1 ≤ z → Half k (r0 ++ ext) u a b) ∧ (2 ≤ z → Half k (r0 ++ ext) u b a) ∧ Below u1.heap.size u1 wr) (fun _ e _ _ => 2 - (intOf e).toNat)
          case atStart => exact ⟨0, ext, by omega, rfl, hR2.out, hG2.out, hL2.out, fun h => absurd h (by omega), fun h => absurd h (by omega), hB2.out⟩
          case round =>
            obtain ⟨z, ext3, hz, rfl, hR, hgd, hled, hh1, hh2, hB⟩ := hrel
            obtain ⟨W2, hW2⟩ : ∃ V, V = wr := ⟨wr, rfl⟩
            subst hW2
            have hR3 := Lib.hid hR
            have hG3 := Lib.hid hgd
            have hL3 := Lib.hid hled
            have hB3 := Lib.hid hB
            have hH := Lib.hid (And.intro hh1 hh2)
            clear hR hgd hled hB hh1 hh2 hR2 hG2 hL2 hB2
            obtain ⟨ra3, rcap3, hrv3, t1, t2, t3⟩ := hR3.out.il.shape
            rw [natI_length] at hrv3 t1 t3
            unfold maxLen at t2
            have hlen3 : n < (r0 ++ ext3).length := by rw [List.length_append, ← hrl'.out]; omega
            obtain ⟨rg, roff, hra, _, hrc⟩ := t3 (by omega)
            have hun := Lib.hid (show (r0 ++ ext3)[n]? = some u from by rw [List.getElem?_append_left (by rw [← hrl'.out]; exact hlt)]; exact hu'.out)
            have cR := hrc n (u : Nat) (natI_at hun.out)
            have humem := Lib.hid (List.mem_of_getElem? hun.out)
            have hxk := Lib.hid (hG3.out.len)
            subst hra
            rw [hrv3] at hR3 ⊢
            obtain ⟨rl3, hrl3⟩ : ∃ rl3, rl3 = (r0 ++ ext3).length := ⟨_, rfl⟩
            rw [← hrl3] at hR3 t1 hlen3 hxk ⊢
            have hrl3' := Lib.hid hrl3
            clear hrv3 t3 hrc hrl3
            have c0 := carry hB3.out hd.out.1
            have c1 := carry hB3.out hd.out.2
            have i1 : (0 : Int) ≤ (q : Int) := by omega
            have i2 : (q : Int) < (m : Int) := by omega
            have i3 : (0 : Int) ≤ (n : Int) := by omega
            have i4 : (n : Int) < (rl3 : Int) := by omega
            have kh := Lib.hid (fun (x : Int) W (hW : Below W2.heap.size W2 W) => hasI_any (.slice (some ⟨rg, roff, none⟩) rl3 rcap3) (natI (r0 ++ ext3)) x W (hR3.out.il.carry hW))
            have hxk' : rl3 ≤ k := hxk.out
            have hcs : z = 0 ∨ z = 1 ∨ z = 2 := by omega
            rcases hcs with rfl | rfl | rfl
            · rw [show ((0 : Nat) : Int) = 0 from rfl]
              by_cases hPu : a = (u : Int)
              · by_cases q0 : 0 ≤ b
                · by_cases q1 : b < k
                  · by_cases hQr : b ∈ natI (r0 ++ ext3)
                    · have hv := Lib.hid (decide_eq_true hQr)
                      have kq := Lib.hid (fun W hW => kh.out b W hW)
                      rw [hv.out] at kq
                      have hhalf := Lib.hid (show Half k (r0 ++ ext3) u a b from fun h1 h2 h3 => (mem_natI.1 hQr).2)
                      have bP : (a == (u : Int)) = true := by simpa using hPu
                      have d0 : decide (0 ≤ b) = true := by simpa using q0
                      have hPu' := Lib.hid hPu
                      clear hQr hPu
                      go_upto_region 17 with fail
                      refine wp_region_made (by kernel_rfl) (by kernel_rfl) ?_
                      intro W hK
                      have g_c0 := fun x => carry ((hK.below x)) c0
                      have g_c1 := fun x => carry ((hK.below x)) c1
                      have g_cR := fun x => carry ((hK.below x)) cR
                      repeat (go_big_quiet_step ((go_at_call 26; with_reducible exact met_same (kq.out _ (hK.below _)))))
                      refine wpQuiet_nil ?_
                      intro wq hw'
                      have hbq := kept_in hK hw'
                      clear g_c0 g_c1 g_cR
                      clear hw' hK W
                      replace c0 := carry (hbq) c0
                      replace c1 := carry (hbq) c1
                      replace cR := carry (hbq) cR
                      have hR4 := Lib.hid (hR3.out.carry hbq)
                      go_wp2_with fail
                      go_roundw
                      case rel => exact ⟨1, ext3, by omega, by go_num, hR4.out, hG3.out, hL3.out, fun _ => hhalf.out, fun h => absurd h (by omega), below_step hB3.out hbq⟩
                      case measure => simp [intOf]
                    · have hv := Lib.hid (decide_eq_false hQr)
                      have kq := Lib.hid (fun W hW => kh.out b W hW)
                      rw [hv.out] at kq
                      obtain ⟨x, hx⟩ : ∃ x : Nat, b = (x : Int) := ⟨b.toNat, by omega⟩
                      have hxr := Lib.hid (show x ∉ r0 ++ ext3 from fun h => hQr (by rw [hx]; exact mem_natI_nat.2 h))
                      have hxk2 : x < k := by omega
                      have hgood := Lib.hid (show Good k E s (r0 ++ (ext3 ++ [x])) from by
                        rw [← List.append_assoc]
                        have hpb : inB k a = true := inB_iff.2 ⟨by omega, by have := (hG3.out.ok u humem.out).1; omega⟩
                        have hqb : inB k b = true := inB_iff.2 ⟨q0, q1⟩
                        have hc := (Conn.edge a b hmem.out hpb hqb)
                        rw [show a.toNat = u from by omega, show b.toNat = x from by omega] at hc
                        exact hG3.out.add humem.out hxk2 hxr.out hc)
                      have hled4 := Lib.hid (show Led k (E.take q) (r0 ++ (ext3 ++ [x])) u from by rw [← List.append_assoc]; exact hL3.out.mono (fun y hy => List.mem_append_left _ hy))
                      have hhalf := Lib.hid (show Half k (r0 ++ (ext3 ++ [x])) u a b from fun h1 h2 h3 => by rw [show b.toNat = x from by omega]; simp)
                      have hext := Lib.hid (show natI (r0 ++ (ext3 ++ [x])) = natI (r0 ++ ext3) ++ [(x : Int)] from by rw [← List.append_assoc, natI_snoc])
                      have bP : (a == (u : Int)) = true := by simpa using hPu
                      have d0 : decide (0 ≤ b) = true := by simpa using q0
                      have hPu' := Lib.hid hPu
                      have hlx := Lib.hid (show (r0 ++ ext3).length = rl3 from hrl3'.out.symm)
                      clear hQr hPu
                      have hx' := Lib.hid hx
                      clear hx
                      go_upto_region 17 with fail
                      refine wp_region_made (by kernel_rfl) (by kernel_rfl) ?_
                      intro W hK
                      have g_c0 := fun x => carry ((hK.below x)) c0
                      have g_c1 := fun x => carry ((hK.below x)) c1
                      have g_cR := fun x => carry ((hK.below x)) cR
                      repeat (go_big_quiet_step ((go_at_call 26; with_reducible exact met_same (kq.out _ (hK.below _)))))
                      refine wpQuiet_nil ?_
                      intro wq hw'
                      have hbq := kept_in hK hw'
                      clear g_c0 g_c1 g_cR
                      clear hw' hK W
                      replace c0 := carry (hbq) c0
                      replace c1 := carry (hbq) c1
                      replace cR := carry (hbq) cR
                      have hR4 := Lib.hid (hR3.out.carry hbq)
                      have hBq := Lib.hid (below_step hB3.out hbq)
                      clear hbq c0 c1 cR
                      go_wp2_with (at_builtin; refine wpList_append_own _ rfl _ _ 22 rfl u1.heap.size 3 i0 _ 1 8 Try.underlying22 hi0'.out hz0'.out hz1'.out hz2'.out rfl (by decide) _ (natI (r0 ++ ext3)).length (ints (natI (r0 ++ ext3))) rfl (World.ownsRow.alloc hR4.out _) ⟨wq.heap.size, 0, none⟩ 1 1 [.int .i64 b] rfl rfl (cells_new _ _ _ _ (by simp)) (by simp [Value.oneCell']) (by rw [natI_length, hlx.out]; unfold maxLen; omega) (by rw [natI_length, hlx.out]; omega) (by have := hBq.out.size; simp; omega) ?_; intro v9 w9 hown9 hg9 _; have hR9 := Lib.hid (show RowI w9 u1.heap.size v9 (natI (r0 ++ (ext3 ++ [x]))) from by rw [hext.out, ← hx'.out]; exact RowI.snoc hown9); have hB9 := Lib.hid (show Below u1.heap.size u1 w9 from (below_step hBq.out (alloc_below wq _)).grown hg9 (by have := hBq.out.size; simp; omega) (fun j hj => (hR4.out.lt j hj).1)); clear hown9 hg9)
                      go_roundw
                      case rel => exact ⟨1, ext3 ++ [x], by omega, by go_num, hR9.out, hgood.out, hled4.out, fun _ => hhalf.out, fun h => absurd h (by omega), hB9.out⟩
                      case measure => simp [intOf]
                  · have hhalf := Lib.hid (show Half k (r0 ++ ext3) u a b from fun h1 h2 h3 => absurd (inB_iff.1 h2).2 q1)
                    have bP : (a == (u : Int)) = true := by simpa using hPu
                    have d0 : decide (0 ≤ b) = true := by simpa using q0
                    have hPu' := Lib.hid hPu
                    clear hPu
                    go_upto_region 17 with fail
                    refine wp_region_made (by kernel_rfl) (by kernel_rfl) ?_
                    intro W hK
                    have g_c0 := fun x => carry ((hK.below x)) c0
                    have g_c1 := fun x => carry ((hK.below x)) c1
                    have g_cR := fun x => carry ((hK.below x)) cR
                    repeat (go_big_quiet_step ((fail)))
                    refine wpQuiet_nil ?_
                    intro wq hw'
                    have hbq := kept_in hK hw'
                    clear g_c0 g_c1 g_cR
                    clear hw' hK W
                    replace c0 := carry (hbq) c0
                    replace c1 := carry (hbq) c1
                    replace cR := carry (hbq) cR
                    have hR4 := Lib.hid (hR3.out.carry hbq)
                    go_wp2_with fail
                    go_roundw
                    case rel => exact ⟨1, ext3, by omega, by go_num, hR4.out, hG3.out, hL3.out, fun _ => hhalf.out, fun h => absurd h (by omega), below_step hB3.out hbq⟩
                    case measure => simp [intOf]
                · have hhalf := Lib.hid (show Half k (r0 ++ ext3) u a b from fun h1 h2 h3 => absurd (inB_iff.1 h2).1 q0)
                  have bP : (a == (u : Int)) = true := by simpa using hPu
                  have d0 : decide (0 ≤ b) = false := by simpa using q0
                  have hPu' := Lib.hid hPu
                  clear hPu
                  go_upto_region 17 with fail
                  refine wp_region_made (by kernel_rfl) (by kernel_rfl) ?_
                  intro W hK
                  have g_c0 := fun x => carry ((hK.below x)) c0
                  have g_c1 := fun x => carry ((hK.below x)) c1
                  have g_cR := fun x => carry ((hK.below x)) cR
                  repeat (go_big_quiet_step ((fail)))
                  refine wpQuiet_nil ?_
                  intro wq hw'
                  have hbq := kept_in hK hw'
                  clear g_c0 g_c1 g_cR
                  clear hw' hK W
                  replace c0 := carry (hbq) c0
                  replace c1 := carry (hbq) c1
                  replace cR := carry (hbq) cR
                  have hR4 := Lib.hid (hR3.out.carry hbq)
                  go_wp2_with fail
                  go_roundw
                  case rel => exact ⟨1, ext3, by omega, by go_num, hR4.out, hG3.out, hL3.out, fun _ => hhalf.out, fun h => absurd h (by omega), below_step hB3.out hbq⟩
                  case measure => simp [intOf]
              · have hhalf := Lib.hid (show Half k (r0 ++ ext3) u a b from fun h1 h2 h3 => absurd (show a = (u : Int) from by have := (inB_iff.1 h1).1; omega) hPu)
                have bP : (a == (u : Int)) = false := by simpa using hPu
                have hPu' := Lib.hid hPu
                clear hPu
                go_upto_region 17 with fail
                refine wp_region_made (by kernel_rfl) (by kernel_rfl) ?_
                intro W hK
                have g_c0 := fun x => carry ((hK.below x)) c0
                have g_c1 := fun x => carry ((hK.below x)) c1
                have g_cR := fun x => carry ((hK.below x)) cR
                repeat (go_big_quiet_step ((fail)))
                refine wpQuiet_nil ?_
                intro wq hw'
                have hbq := kept_in hK hw'
                clear g_c0 g_c1 g_cR
                clear hw' hK W
                replace c0 := carry (hbq) c0
                replace c1 := carry (hbq) c1
                replace cR := carry (hbq) cR
                have hR4 := Lib.hid (hR3.out.carry hbq)
                go_wp2_with fail
                go_roundw
                case rel => exact ⟨1, ext3, by omega, by go_num, hR4.out, hG3.out, hL3.out, fun _ => hhalf.out, fun h => absurd h (by omega), below_step hB3.out hbq⟩
                case measure => simp [intOf]
            · rw [show ((1 : Nat) : Int) = 1 from rfl]
              by_cases hPu : b = (u : Int)
              · by_cases q0 : 0 ≤ a
                · by_cases q1 : a < k
                  · by_cases hQr : a ∈ natI (r0 ++ ext3)
                    · have hv := Lib.hid (decide_eq_true hQr)
                      have kq := Lib.hid (fun W hW => kh.out a W hW)
                      rw [hv.out] at kq
                      have hhalf := Lib.hid (show Half k (r0 ++ ext3) u b a from fun h1 h2 h3 => (mem_natI.1 hQr).2)
                      have bP : (b == (u : Int)) = true := by simpa using hPu
                      have d0 : decide (0 ≤ a) = true := by simpa using q0
                      have hPu' := Lib.hid hPu
                      clear hQr hPu
                      go_upto_region 17 with fail
                      refine wp_region_made (by kernel_rfl) (by kernel_rfl) ?_
                      intro W hK
                      have g_c0 := fun x => carry ((hK.below x)) c0
                      have g_c1 := fun x => carry ((hK.below x)) c1
                      have g_cR := fun x => carry ((hK.below x)) cR
                      repeat (go_big_quiet_step ((go_at_call 26; with_reducible exact met_same (kq.out _ (hK.below _)))))
                      refine wpQuiet_nil ?_
                      intro wq hw'
                      have hbq := kept_in hK hw'
                      clear g_c0 g_c1 g_cR
                      clear hw' hK W
                      replace c0 := carry (hbq) c0
                      replace c1 := carry (hbq) c1
                      replace cR := carry (hbq) cR
                      have hR4 := Lib.hid (hR3.out.carry hbq)
                      go_wp2_with fail
                      go_roundw
                      case rel => exact ⟨2, ext3, by omega, by go_num, hR4.out, hG3.out, hL3.out, fun _ => (hH.out.1 (by omega)), fun _ => hhalf.out, below_step hB3.out hbq⟩
                      case measure => simp [intOf]
                    · have hv := Lib.hid (decide_eq_false hQr)
                      have kq := Lib.hid (fun W hW => kh.out a W hW)
                      rw [hv.out] at kq
                      obtain ⟨x, hx⟩ : ∃ x : Nat, a = (x : Int) := ⟨a.toNat, by omega⟩
                      have hxr := Lib.hid (show x ∉ r0 ++ ext3 from fun h => hQr (by rw [hx]; exact mem_natI_nat.2 h))
                      have hxk2 : x < k := by omega
                      have hgood := Lib.hid (show Good k E s (r0 ++ (ext3 ++ [x])) from by
                        rw [← List.append_assoc]
                        have hpb : inB k b = true := inB_iff.2 ⟨by omega, by have := (hG3.out.ok u humem.out).1; omega⟩
                        have hqb : inB k a = true := inB_iff.2 ⟨q0, q1⟩
                        have hc := (Conn.edge a b hmem.out hqb hpb).symm
                        rw [show b.toNat = u from by omega, show a.toNat = x from by omega] at hc
                        exact hG3.out.add humem.out hxk2 hxr.out hc)
                      have hled4 := Lib.hid (show Led k (E.take q) (r0 ++ (ext3 ++ [x])) u from by rw [← List.append_assoc]; exact hL3.out.mono (fun y hy => List.mem_append_left _ hy))
                      have hhalf := Lib.hid (show Half k (r0 ++ (ext3 ++ [x])) u b a from fun h1 h2 h3 => by rw [show a.toNat = x from by omega]; simp)
                      have hext := Lib.hid (show natI (r0 ++ (ext3 ++ [x])) = natI (r0 ++ ext3) ++ [(x : Int)] from by rw [← List.append_assoc, natI_snoc])
                      have bP : (b == (u : Int)) = true := by simpa using hPu
                      have d0 : decide (0 ≤ a) = true := by simpa using q0
                      have hPu' := Lib.hid hPu
                      have hlx := Lib.hid (show (r0 ++ ext3).length = rl3 from hrl3'.out.symm)
                      clear hQr hPu
                      have hx' := Lib.hid hx
                      clear hx
                      go_upto_region 17 with fail
                      refine wp_region_made (by kernel_rfl) (by kernel_rfl) ?_
                      intro W hK
                      have g_c0 := fun x => carry ((hK.below x)) c0
                      have g_c1 := fun x => carry ((hK.below x)) c1
                      have g_cR := fun x => carry ((hK.below x)) cR
                      repeat (go_big_quiet_step ((go_at_call 26; with_reducible exact met_same (kq.out _ (hK.below _)))))
                      refine wpQuiet_nil ?_
                      intro wq hw'
                      have hbq := kept_in hK hw'
                      clear g_c0 g_c1 g_cR
                      clear hw' hK W
                      replace c0 := carry (hbq) c0
                      replace c1 := carry (hbq) c1
                      replace cR := carry (hbq) cR
                      have hR4 := Lib.hid (hR3.out.carry hbq)
                      have hBq := Lib.hid (below_step hB3.out hbq)
                      clear hbq c0 c1 cR
                      go_wp2_with (at_builtin; refine wpList_append_own _ rfl _ _ 22 rfl u1.heap.size 3 i0 _ 1 8 Try.underlying22 hi0'.out hz0'.out hz1'.out hz2'.out rfl (by decide) _ (natI (r0 ++ ext3)).length (ints (natI (r0 ++ ext3))) rfl (World.ownsRow.alloc hR4.out _) ⟨wq.heap.size, 0, none⟩ 1 1 [.int .i64 a] rfl rfl (cells_new _ _ _ _ (by simp)) (by simp [Value.oneCell']) (by rw [natI_length, hlx.out]; unfold maxLen; omega) (by rw [natI_length, hlx.out]; omega) (by have := hBq.out.size; simp; omega) ?_; intro v9 w9 hown9 hg9 _; have hR9 := Lib.hid (show RowI w9 u1.heap.size v9 (natI (r0 ++ (ext3 ++ [x]))) from by rw [hext.out, ← hx'.out]; exact RowI.snoc hown9); have hB9 := Lib.hid (show Below u1.heap.size u1 w9 from (below_step hBq.out (alloc_below wq _)).grown hg9 (by have := hBq.out.size; simp; omega) (fun j hj => (hR4.out.lt j hj).1)); clear hown9 hg9)
                      go_roundw
                      case rel => exact ⟨2, ext3 ++ [x], by omega, by go_num, hR9.out, hgood.out, hled4.out, fun _ => (hH.out.1 (by omega)).mono (fun x hx => by rw [← List.append_assoc]; exact List.mem_append_left _ hx), fun _ => hhalf.out, hB9.out⟩
                      case measure => simp [intOf]
                  · have hhalf := Lib.hid (show Half k (r0 ++ ext3) u b a from fun h1 h2 h3 => absurd (inB_iff.1 h2).2 q1)
                    have bP : (b == (u : Int)) = true := by simpa using hPu
                    have d0 : decide (0 ≤ a) = true := by simpa using q0
                    have hPu' := Lib.hid hPu
                    clear hPu
                    go_upto_region 17 with fail
                    refine wp_region_made (by kernel_rfl) (by kernel_rfl) ?_
                    intro W hK
                    have g_c0 := fun x => carry ((hK.below x)) c0
                    have g_c1 := fun x => carry ((hK.below x)) c1
                    have g_cR := fun x => carry ((hK.below x)) cR
                    repeat (go_big_quiet_step ((fail)))
                    refine wpQuiet_nil ?_
                    intro wq hw'
                    have hbq := kept_in hK hw'
                    clear g_c0 g_c1 g_cR
                    clear hw' hK W
                    replace c0 := carry (hbq) c0
                    replace c1 := carry (hbq) c1
                    replace cR := carry (hbq) cR
                    have hR4 := Lib.hid (hR3.out.carry hbq)
                    go_wp2_with fail
                    go_roundw
                    case rel => exact ⟨2, ext3, by omega, by go_num, hR4.out, hG3.out, hL3.out, fun _ => (hH.out.1 (by omega)), fun _ => hhalf.out, below_step hB3.out hbq⟩
                    case measure => simp [intOf]
                · have hhalf := Lib.hid (show Half k (r0 ++ ext3) u b a from fun h1 h2 h3 => absurd (inB_iff.1 h2).1 q0)
                  have bP : (b == (u : Int)) = true := by simpa using hPu
                  have d0 : decide (0 ≤ a) = false := by simpa using q0
                  have hPu' := Lib.hid hPu
                  clear hPu
                  go_upto_region 17 with fail
                  refine wp_region_made (by kernel_rfl) (by kernel_rfl) ?_
                  intro W hK
                  have g_c0 := fun x => carry ((hK.below x)) c0
                  have g_c1 := fun x => carry ((hK.below x)) c1
                  have g_cR := fun x => carry ((hK.below x)) cR
                  repeat (go_big_quiet_step ((fail)))
                  refine wpQuiet_nil ?_
                  intro wq hw'
                  have hbq := kept_in hK hw'
                  clear g_c0 g_c1 g_cR
                  clear hw' hK W
                  replace c0 := carry (hbq) c0
                  replace c1 := carry (hbq) c1
                  replace cR := carry (hbq) cR
                  have hR4 := Lib.hid (hR3.out.carry hbq)
                  go_wp2_with fail
                  go_roundw
                  case rel => exact ⟨2, ext3, by omega, by go_num, hR4.out, hG3.out, hL3.out, fun _ => (hH.out.1 (by omega)), fun _ => hhalf.out, below_step hB3.out hbq⟩
                  case measure => simp [intOf]
              · have hhalf := Lib.hid (show Half k (r0 ++ ext3) u b a from fun h1 h2 h3 => absurd (show b = (u : Int) from by have := (inB_iff.1 h1).1; omega) hPu)
                have bP : (b == (u : Int)) = false := by simpa using hPu
                have hPu' := Lib.hid hPu
                clear hPu
                go_upto_region 17 with fail
                refine wp_region_made (by kernel_rfl) (by kernel_rfl) ?_
                intro W hK
                have g_c0 := fun x => carry ((hK.below x)) c0
                have g_c1 := fun x => carry ((hK.below x)) c1
                have g_cR := fun x => carry ((hK.below x)) cR
                repeat (go_big_quiet_step ((fail)))
                refine wpQuiet_nil ?_
                intro wq hw'
                have hbq := kept_in hK hw'
                clear g_c0 g_c1 g_cR
                clear hw' hK W
                replace c0 := carry (hbq) c0
                replace c1 := carry (hbq) c1
                replace cR := carry (hbq) cR
                have hR4 := Lib.hid (hR3.out.carry hbq)
                go_wp2_with fail
                go_roundw
                case rel => exact ⟨2, ext3, by omega, by go_num, hR4.out, hG3.out, hL3.out, fun _ => (hH.out.1 (by omega)), fun _ => hhalf.out, below_step hB3.out hbq⟩
                case measure => simp [intOf]
            · rw [show ((2 : Nat) : Int) = 2 from rfl]
              have hled5 := Lib.hid (led_snoc hp'.out hL3.out (hH.out.1 (by omega)) (hH.out.2 (by omega)))
              clear c0 c1 cR kh
              go_wp2_with fail
              go_roundw
              case rel => exact ⟨q + 1, ext3, by omega, by go_num, hR3.out, hG3.out, hled5.out, hB3.out⟩
              case measure => simp [intOf]; omega
        · obtain rfl : q = m := by omega
          have htk := Lib.hid (show E.take q = E from by rw [hm'.out, List.take_length])
          have hled6 := Lib.hid (show ∀ q' u', q' < n + 1 → (r0 ++ ext)[q']? = some u' → Led k E (r0 ++ ext) u' from fun q' u' hq' hu2 => by
            rw [List.getElem?_append_left (by rw [← hrl'.out]; omega)] at hu2
            by_cases e : q' = n
            · subst e
              rw [hu'.out] at hu2
              cases hu2
              have := hL2.out
              rwa [htk.out] at this
            · exact (hL1.out q' u' (by omega) hu2).mono (fun y hy => List.mem_append_left _ hy))
          have hln := Lib.hid (show n + 1 ≤ (r0 ++ ext).length from by rw [List.length_append, ← hrl'.out]; omega)
          go_wp2_with fail
          go_roundw
          case rel => exact ⟨n + 1, r0 ++ ext, hln.out, by go_num, hR2.out, hG2.out, hled6.out, hB2.out⟩
          case measure => simp [intOf]; omega
    · have hnr : n = r0.length := by omega
      have hall := led_all (k := k) (E := E) (r := r0) (fun u hu => by
        obtain ⟨q, hq, e⟩ := List.getElem_of_mem hu
        exact hL1.out q u (by omega) (by rw [← e]; exact List.getElem?_eq_getElem hq))
      obtain ⟨f, hf⟩ : ∃ f, f = playF k idL E := ⟨_, rfl⟩
      have hreach := Lib.hid (reach_len hG1.out.mem hG1.out.nd hG1.out.ok hall)
      rw [← hf] at hreach
      have hisl := Lib.hid (show isl k E = grps k f from by rw [hf]; rfl)
      have hrk := Lib.hid hG1.out.len
      clear hall hf hnr
      obtain ⟨rl, hrl⟩ : ∃ rl, rl = r0.length := ⟨_, rfl⟩
      rw [hrv] at hR1 ⊢
      rw [← hrl] at hR1 r1 hlt hn ⊢
      have hrl' := Lib.hid hrl
      have hrk' : rl ≤ 14 := by have := hrk.out; omega
      have r3' := Lib.hid r3
      clear hrv r3 hrl
      obtain rfl : n = rl := by omega
      have hP2 := Lib.hid (hP'.out.carry hB1.out)
      go_wp2_with (first
        | (go_at_call 23; with_reducible refine (islands_any k _ E W0 hP2.out hk' hl1.out).mono ?_; rintro e u3 ⟨v3, rfl, hG, hb3⟩; rw [hisl.out] at hG; obtain ⟨oa, ocap, rfl, o1, o2, o3⟩ := hG.gl.shape; simp only [List.length_map] at o1 o3 ⊢; have o3' := Lib.hid o3; have hb3' := Lib.hid hb3; clear hG hb3 o3))
      obtain ⟨gs, hgs⟩ : ∃ gs, gs = grps k f := ⟨_, rfl⟩
      rw [← hgs] at o1 o3' ⊢
      have hgs' := Lib.hid hgs
      clear hgs
      obtain ⟨M, hM⟩ : ∃ M, M = gs.length := ⟨_, rfl⟩
      rw [← hM] at o1 o3' ⊢
      have hM' := Lib.hid hM
      clear hM
      unfold maxLen at o2
      go_loopw [16, 17] (fun i _ wr => ∃ t : Nat, t ≤ M ∧ i = .int .i64 (t : Nat) ∧ (∀ q g, q < t → gs[q]? = some g → s ∉ g) ∧ Below u3.heap.size u3 wr) (fun i _ _ => M - (intOf i).toNat)
      case atStart => exact ⟨0, Nat.zero_le _, rfl, fun q g h => absurd h (Nat.not_lt_zero _), Below.refl _ _⟩
      case round =>
        obtain ⟨t, ht, rfl, hno, hB⟩ := hrel
        obtain ⟨W3, hW3⟩ : ∃ V, V = wr := ⟨wr, rfl⟩
        subst hW3
        have hB3 := Lib.hid hB
        have hno' := Lib.hid hno
        clear hB hno
        by_cases hlt3 : t < M
        · obtain ⟨og, ooff, rfl, ho1, ho2⟩ := o3'.out (by omega)
          obtain ⟨g, hg⟩ : ∃ g, gs[t]? = some g := ⟨_, List.getElem?_eq_getElem (by rw [← hM'.out]; exact hlt3)⟩
          obtain ⟨ob, on, oc, c0, hI⟩ := ho2 t (natI g) (by rw [List.getElem?_map, hg]; rfl)
          have hon : on = g.length := by
            obtain ⟨a', cap', e, _⟩ := hI.shape
            rw [natI_length] at e
            simp only [Value.slice.injEq] at e
            exact e.2.1
          have hg' := Lib.hid hg
          have hc0 := Lib.hid c0
          have hI' := Lib.hid hI
          clear hg ho2 hI
          replace c0 := carry hB3.out c0
          have hI3 := Lib.hid (hI'.out.carry hB3.out)
          have kh := Lib.hid (hasI_any (.slice ob on oc) (natI g) (s : Int) W3 hI3.out)
          by_cases hin : s ∈ g
          · have hv := Lib.hid (show decide ((s : Int) ∈ natI g) = true from decide_eq_true (mem_natI_nat.2 hin))
            have hcl := Lib.hid (show g = cls k f s from group_other (by rw [← hgs'.out]; exact hg'.out) hin)
            have hon2 : on = n := by rw [hon, hcl.out, ← hreach.out.2]; exact hrl'.out.symm
            clear hin hon
            subst hon2
            have b1 : ((on : Int) == (on : Int)) = true := by simp
            go_wp2_with (first
              | (go_at_call 26; with_reducible refine kh.out.mono ?_; rintro e u5 ⟨rfl, rfl⟩; rw [hv.out]))
            clear c0
            go_loopw [17] (fun j wr => ∃ q : Nat, q ≤ on ∧ j = .int .i64 (q : Nat) ∧ Below u3.heap.size u3 wr) (fun j _ => on - (intOf j).toNat)
            case atStart => exact ⟨0, Nat.zero_le _, rfl, hB3.out⟩
            case round =>
              obtain ⟨q, hq, rfl, hB⟩ := hrel
              obtain ⟨W4, hW4⟩ : ∃ V, V = wr := ⟨wr, rfl⟩
              subst hW4
              have hB4 := Lib.hid hB
              clear hB
              by_cases hlt4 : q < on
              · obtain ⟨rg, roff, rfl, _, hrc⟩ := r3'.out (by rw [natI_length, ← hrl'.out]; omega)
                obtain ⟨x, hx⟩ : ∃ x, r0[q]? = some x := ⟨_, List.getElem?_eq_getElem (by rw [← hrl'.out]; exact hlt4)⟩
                have hxg := Lib.hid (show decide ((x : Int) ∈ natI g) = true from decide_eq_true (mem_natI_nat.2 (by rw [hcl.out]; exact (hreach.out.1 x).1 (List.mem_of_getElem? hx))))
                have cR := carry hB4.out (carry hb3'.out (hrc q (x : Nat) (natI_at hx)))
                have c0 := carry hB4.out hc0.out
                have kq := Lib.hid (fun W (hW : Below W4.heap.size W4 W) => hasI_any (.slice ob on oc) (natI g) (x : Int) W ((hI'.out.carry hB4.out).carry hW))
                rw [hxg.out] at kq
                clear hx hrc
                have i1 : (0 : Int) ≤ (q : Int) := by omega
                have i2 : (q : Int) < (on : Int) := by omega
                have i3 : (0 : Int) ≤ (t : Int) := by omega
                have i4 : (t : Int) < (M : Int) := by omega
                go_upto_region 29 with fail
                refine wp_region_made (by kernel_rfl) (by kernel_rfl) ?_
                intro W hK
                have g_c0 := fun x => carry ((hK.below x)) c0
                have g_cR := fun x => carry ((hK.below x)) cR
                repeat (go_big_quiet_step ((go_at_call 26; with_reducible exact met_same (kq.out _ (hK.below _)))))
                refine wpQuiet_nil ?_
                intro wq hw'
                have hbq := kept_in hK hw'
                clear g_c0 g_cR
                clear hw' hK W
                replace c0 := carry (hbq) c0
                replace cR := carry (hbq) cR
                go_wp2_with fail
                go_roundw
                case rel => exact ⟨q + 1, by omega, by go_num, below_step hB4.out hbq⟩
                case measure => simp [intOf]; omega
              · obtain rfl : q = on := by omega
                have hwE := Lib.hid (below_step (below_step (below_step hb1'.out hB1.out) hb3'.out) hB4.out)
                go_wp2_with (first
                  | (go_at_call 22; with_reducible refine (lives8_any W4).mono ?_; rintro e y4 ⟨rfl, hb10⟩; have hw10 := Lib.hid (below_step hwE.out hb10); clear hb10))
                go_ret
                exact ⟨rfl, hw10.out⟩
          · have hv := Lib.hid (show decide ((s : Int) ∈ natI g) = false from decide_eq_false (fun h => hin (mem_natI_nat.1 h)))
            have hno2 := Lib.hid (show ∀ q g, q < t + 1 → gs[q]? = some g → s ∉ g from fun q g' hq hg2 => by
              by_cases e : q = t
              · subst e
                rw [hg'.out] at hg2
                cases hg2
                exact hin
              · exact hno'.out q g' (by omega) hg2)
            clear hin hon
            go_wp2_with (first
              | (go_at_call 26; with_reducible refine kh.out.mono ?_; rintro e u5 ⟨rfl, rfl⟩; rw [hv.out]))
            go_roundw
            case rel => exact ⟨t + 1, by omega, by go_num, hno2.out, hB3.out⟩
            case measure => simp [intOf]; omega
        · exfalso
          obtain ⟨t0, h1, h2⟩ := group_of f hsk
          rw [← hgs'.out] at h1 h2
          exact hno'.out t0 _ (by have := hM'.out; omega) h2 (mem_cls.2 ⟨hsk, rfl⟩)

set_option maxRecDepth 100000 in
theorem lifted (os : Os) (started : os.Started) (H : Type) (enc : TypeId × Value → H) :
    ReturnsInHanded {} Try.checked os 8 .any (Rows.unionfindPathsSpec.pre6 enc Try.prog Try.f8 Rows.unionfindPathsRow.domain false) (Rows.unionfindPathsSpec.post enc Try.prog Try.f8 false true false false) := by
  refine returnsInHanded_of_change (C := Try.checked) own started (by kernel_rfl) Try.func8
    (ChangeSpec.witness6 (enc := enc) (C := Try.checked) false ⟨#[], #[.int .i64 0, .slice none 0 0, .int .i64 0], []⟩ 8 (by kernel_rfl) (by kernel_rfl) (by kernel_rfl) (by kernel_rfl)) ?_
  intro W base args ds gs before hval0 hW hcnd _
  have hval : ∀ (j : Nat) t v, Try.f8.params[j]? = some t → args[j]? = some v → Value.okWide Try.prog W .any base t v := hval0
  have hW' := hW
  obtain ⟨p, q, hA0, hV, rfl, hfz, hnd⟩ := hW
  have hA : DataW.TrodAll enc Try.prog W 0 (fun _ => true) true Try.f8.params.toList args.toList ds p := hA0
  rw [Try.params8] at hA hval
  have hAk := hA
  obtain ⟨v0, vs0, d0, ds0, p0, q0, hargs, rfl, hp0, h0, r0⟩ := trodAll_cons hA
  obtain ⟨v1, vs1, d1, ds1, p1, q1, rfl, rfl, hp1, h1, r1⟩ := trodAll_cons r0
  obtain ⟨v2, vs2, d2, ds2, p2, q2, rfl, rfl, hp2, h2, r2⟩ := trodAll_cons r1
  obtain ⟨rfl, rfl, -⟩ := trodAll_nil r2
  obtain rfl : args = #[v0, v1, v2] := by cases args; simp_all
  obtain ⟨rfl, rfl⟩ := trodVars_none hV
  obtain ⟨a0, rfl, -, -, w0⟩ := open_int Try.underlying3 (hval 0 3 v0 rfl rfl) h0
  obtain ⟨x1, q1, c1, rfl⟩ := okWide_slice Try.underlying22 (hval 1 22 v1 rfl rfl)
  obtain ⟨fu1, fh1⟩ := h1
  obtain ⟨s1, Z1, l1, e1, H1⟩ := open_int_cells Try.underlying22 Try.underlying3 (by kernel_rfl) fh1
  simp only [Value.cells, List.cons.injEq, and_true] at e1
  obtain rfl := e1.symm
  obtain ⟨a2, rfl, -, -, w2⟩ := open_int Try.underlying3 (hval 2 3 v2 rfl rfl) h2
  clear hA0 hval0
  simp only [List.append_nil] at hW'
  refine (walk W a0 w0 _ Z1 l1 H1 a2 w2).mono fun e W' ⟨he, hb⟩ => ?_
  subst he
  exact ⟨_, rfl, kept_post (pa := p) hW' (fun _ _ _ => (trodAll_cons_mk (shut_bool Try.underlying4 _) trodAll_mk0)) (fun sp hsp => trodAll_stays laid hb (by rw [Try.params8]; decide +kernel) hAk (fun x hx => hW'.lt x hx) hsp) (fun _ => rfl) hb (ok_one (by kernel_rfl) rfl (okWide_bool_mk Try.underlying4 _))⟩

theorem over : Rows.unionfindPathsRow.holds Try.pinned (OpenSpec.ofChange Rows.unionfindPathsSpec) :=
  OpenClaim.holds_of_wide 8 Try.f8 rfl rfl rfl rfl rfl rfl rfl ⟨rfl, rfl, rfl, rfl, rfl⟩ rfl rfl rfl rfl rfl (by kernel_rfl) Try.func8 (by kernel_rfl)
    (of_decide_eq_true (by kernel_rfl)) (by unfold Func.isWrapper; first | (rw [if_pos (by decide +kernel)]; kernel_rfl) | (rw [if_neg (by decide +kernel)]; exact ⟨rfl, rfl⟩))
    (fun os started H enc _ => lifted os started H enc)

theorem proved : Rows.UnionfindPathsSaid :=
  over
#print axioms proved
end Go.Proofs.Ytalglkeabppabaa.unionfindPaths
