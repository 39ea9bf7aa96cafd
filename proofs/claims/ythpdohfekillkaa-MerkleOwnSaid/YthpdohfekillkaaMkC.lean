/- The reference of merkle: Verify. -/
import Derived.Test.YthpdohfekillkaaMkB
namespace Go.Proofs.Ythpdohfekillkaa
open Go.ChangeShapes Go.WideShapes Go.ChangeAt Go.RowKit Go.Shelf
set_option linter.unusedSimpArgs false
set_option linter.unusedVariables false

set_option maxRecDepth 100000 in
set_option maxHeartbeats 8000000 in
theorem refVerify_any (root : W64) (n : Nat) (i v : Int) (pv : Value) (l : List W64) (w : World) (h : VL w pv (u64s l)) (hn : n ≤ 65536) (hl : l.length ≤ 1000) :
    Calls Try.prog 24 #[.int .u64 (root.toNat : Int), .int .i64 (n : Nat), .agg #[.int .i64 i, .int .i64 v, pv]] w fun e w' => e = .returned (.bool (verW root n i v l)) ∧ Below w.heap.size w w' := by
  obtain ⟨a, cap, rfl, h1, h2, h3⟩ := WL.shape h
  clear h
  unfold maxLen at h2
  have hc := Lib.hid h3
  clear h3
  obtain ⟨m, hm⟩ : ∃ m, m = l.length := ⟨_, rfl⟩
  rw [← hm] at h1 hc hl ⊢
  have hm' := Lib.hid hm
  clear hm
  have hB0 := Lib.hid (alloc_below w (.cells #[.int .i64 i, .int .i64 v, .slice a m cap] 33))
  obtain ⟨c0, c1, c2⟩ := lf_cells w i v (.slice a m cap) 33
  have kH := Lib.hid (fun W => refHeight_any n W hn)
  have h16 := ht_small hn
  have hv := Lib.hid (show verW root n i v l = (decide (0 ≤ i) && decide (i < n) && decide (l.length = ht n) && decide (up i.toNat (leafV i v) l = root)) from rfl)
  obtain ⟨H, hH⟩ : ∃ H, H = ht n := ⟨_, rfl⟩
  rw [← hH] at kH h16 hv
  clear hH
  have key : i < 0 ∨ (0 ≤ i ∧ (n : Int) ≤ i) ∨ (0 ≤ i ∧ i < n ∧ m ≠ H) ∨ (0 ≤ i ∧ i < n ∧ m = H) := by omega
  rcases key with k0 | ⟨k0, k1⟩ | ⟨k0, k1, k2⟩ | ⟨k0, k1, k2⟩
  · have hy := Lib.hid (show verW root n i v l = false from by rw [hv.out, decide_eq_false (show ¬ 0 ≤ i by omega)]; rfl)
    rw [hy.out]
    clear hv hy
    go_enter Try.func24, Try.ntmps24
    go_wp2_with fail
    generalize w.alloc (.cells #[.int .i64 i, .int .i64 v, .slice a m cap] 33) = V at *
    refine wp_region_made (by kernel_rfl) (by kernel_rfl) ?_
    intro W hK
    have g_c0 := fun x => carry ((hK.below x)) c0
    have g_c1 := fun x => carry ((hK.below x)) c1
    have g_c2 := fun x => carry ((hK.below x)) c2
    repeat (go_big_quiet_step ((go_at_call 25; with_reducible exact met_same (kH.out _))))
    refine wpQuiet_nil ?_
    intro wq hw'
    have hbq := kept_in hK hw'
    clear g_c0 g_c1 g_c2
    clear hw' hK W
    replace c0 := carry (hbq) c0
    replace c1 := carry (hbq) c1
    replace c2 := carry (hbq) c2
    go_wp2
    go_ret
    exact ⟨rfl, below_step hB0.out hbq⟩
  · have hy := Lib.hid (show verW root n i v l = false from by rw [hv.out, decide_eq_false (show ¬ i < n by omega), Bool.and_false]; rfl)
    rw [hy.out]
    have k0' : decide (i < 0) = false := decide_eq_false (by omega)
    have k1' : decide ((n : Int) ≤ i) = true := decide_eq_true k1
    clear hv hy
    go_enter Try.func24, Try.ntmps24
    go_wp2_with fail
    generalize w.alloc (.cells #[.int .i64 i, .int .i64 v, .slice a m cap] 33) = V at *
    refine wp_region_made (by kernel_rfl) (by kernel_rfl) ?_
    intro W hK
    have g_c0 := fun x => carry ((hK.below x)) c0
    have g_c1 := fun x => carry ((hK.below x)) c1
    have g_c2 := fun x => carry ((hK.below x)) c2
    repeat (go_big_quiet_step ((go_at_call 25; with_reducible exact met_same (kH.out _))))
    refine wpQuiet_nil ?_
    intro wq hw'
    have hbq := kept_in hK hw'
    clear g_c0 g_c1 g_c2
    clear hw' hK W
    replace c0 := carry (hbq) c0
    replace c1 := carry (hbq) c1
    replace c2 := carry (hbq) c2
    go_wp2
    go_ret
    exact ⟨rfl, below_step hB0.out hbq⟩
  · have hy := Lib.hid (show verW root n i v l = false from by rw [hv.out, decide_eq_false (show ¬ l.length = H by rw [← hm'.out]; exact k2), Bool.and_false]; rfl)
    rw [hy.out]
    have k0' : decide (i < 0) = false := decide_eq_false (by omega)
    have k1' : decide ((n : Int) ≤ i) = false := decide_eq_false (by omega)
    have k2' : ((m : Int) == (H : Int)) = false := by simp only [beq_eq_false_iff_ne, ne_eq]; omega
    clear hv hy
    go_enter Try.func24, Try.ntmps24
    go_wp2_with fail
    generalize w.alloc (.cells #[.int .i64 i, .int .i64 v, .slice a m cap] 33) = V at *
    refine wp_region_made (by kernel_rfl) (by kernel_rfl) ?_
    intro W hK
    have g_c0 := fun x => carry ((hK.below x)) c0
    have g_c1 := fun x => carry ((hK.below x)) c1
    have g_c2 := fun x => carry ((hK.below x)) c2
    repeat (go_big_quiet_step ((go_at_call 25; with_reducible exact met_same (kH.out _))))
    refine wpQuiet_nil ?_
    intro wq hw'
    have hbq := kept_in hK hw'
    clear g_c0 g_c1 g_c2
    clear hw' hK W
    replace c0 := carry (hbq) c0
    replace c1 := carry (hbq) c1
    replace c2 := carry (hbq) c2
    go_wp2
    go_ret
    exact ⟨rfl, below_step hB0.out hbq⟩
  · have hy := Lib.hid (show verW root n i v l = decide (up i.toNat (leafV i v) l = root) from by rw [hv.out, decide_eq_true k0, decide_eq_true k1, decide_eq_true (show l.length = H by rw [← hm'.out]; exact k2)]; simp)
    rw [hy.out]
    obtain ⟨j, rfl⟩ : ∃ j : Nat, i = (j : Int) := ⟨i.toNat, by omega⟩
    rw [Int.toNat_natCast] at hy ⊢
    subst k2
    have k0' : decide ((j : Int) < 0) = false := decide_eq_false (by omega)
    have k1' : decide ((n : Int) ≤ (j : Int)) = false := decide_eq_false (by omega)
    have k3' : decide (n ≤ j) = false := decide_eq_false (by omega)
    have k4' : ¬ n ≤ j := by omega
    have k2' : ((m : Int) == (m : Int)) = true := bq_self _
    have hj : j < 65536 := by omega
    have kL := Lib.hid (fun (W : World) => refLeafSum (j : Int) v W)
    obtain ⟨x0, hx0⟩ : ∃ x0, x0 = leafV (j : Int) v := ⟨_, rfl⟩
    rw [← hx0] at kL hy ⊢
    clear hv hx0 k0 k1
    go_enter Try.func24, Try.ntmps24
    go_wp2_with fail
    generalize w.alloc (.cells #[.int .i64 (j : Int), .int .i64 v, .slice a m cap] 33) = V at *
    refine wp_region_made (by kernel_rfl) (by kernel_rfl) ?_
    intro W hK
    have g_c0 := fun x => carry ((hK.below x)) c0
    have g_c1 := fun x => carry ((hK.below x)) c1
    have g_c2 := fun x => carry ((hK.below x)) c2
    repeat (go_big_quiet_step ((go_at_call 25; with_reducible exact met_same (kH.out _))))
    refine wpQuiet_nil ?_
    intro wq hw'
    have hbq := kept_in hK hw'
    clear g_c0 g_c1 g_c2
    clear hw' hK W
    replace c0 := carry (hbq) c0
    replace c1 := carry (hbq) c1
    replace c2 := carry (hbq) c2
    have hB1 := Lib.hid (below_step hB0.out hbq)
    clear hbq hB0 kH
    go_wp2_with fail
    refine (kL.out _).mono ?_
    rintro e w1 ⟨rfl, hb1⟩
    replace hb1 := below_step (alloc_below wq (.cells #[.int .i64 (j : Int), .int .i64 v] 3)) hb1
    have hB2 := Lib.hid (below_step hB1.out hb1)
    replace c0 := carry (hb1) c0
    replace c1 := carry (hb1) c1
    replace c2 := carry (hb1) c2
    clear hb1 kL
    go_wp2_with fail
    go_loopw [7, 8, 9] (fun hs q i wr => ∃ t p : Nat, t ≤ m ∧ p = j / 2 ^ t ∧ i = .int .i64 (t : Nat) ∧ q = .int .i64 (p : Nat) ∧ hs = .int .u64 ((up j x0 (l.take t)).toNat : Int) ∧ Below w1.heap.size w1 wr) (fun _ _ i _ => m - (intOf i).toNat)
    case atStart => exact ⟨0, j, Nat.zero_le _, by rw [Nat.pow_zero, Nat.div_one], rfl, rfl, rfl, Below.refl _ _⟩
    case round =>
      obtain ⟨t, p, ht, hp, rfl, rfl, rfl, hb⟩ := hrel
      have hp' := Lib.hid hp
      have hpj : p ≤ j := by rw [hp]; exact Nat.div_le_self _ _
      clear hp
      have hb' := Lib.hid hb
      replace c0 := carry hb c0
      replace c1 := carry hb c1
      replace c2 := carry hb c2
      have hBr := Lib.hid (below_step hB2.out hb)
      clear hb
      by_cases hlt : t < m
      · obtain ⟨g, off, rfl, hg, hcc⟩ := hc.out (by omega)
        obtain ⟨x, hx⟩ : ∃ z, l[t]? = some z := ⟨_, List.getElem?_eq_getElem (by rw [← hm'.out]; exact hlt)⟩
        have cx := carry hBr.out (hcc t x hx)
        have hup : up j x0 (l.take (t + 1)) = parW p (up j x0 (l.take t)) x := by
          rw [List.take_add_one, hx, Option.toList_some, up_snoc, List.length_take, Nat.min_eq_left (by rw [← hm'.out]; omega), ← hp'.out]
        have hq := Lib.hid (show p / 2 = j / 2 ^ (t + 1) from by rw [Nat.pow_succ, ← Nat.div_div_eq_div_mul, hp'.out])
        have hq2 := Lib.hid (show ((p / 2 : Nat) : Int) = (p : Int) / 2 from by omega)
        clear hcc hx
        obtain ⟨z1, hz1⟩ : ∃ z1, z1 = up j x0 (l.take (t + 1)) := ⟨_, rfl⟩
        rw [← hz1] at hup
        have hz1' := Lib.hid hz1
        clear hz1
        generalize up j x0 (l.take t) = z0 at *
        by_cases hev : p % 2 = 0
        · have hpe : (p : Int) % 2 = 0 := by omega
          have hpe2 : ((p : Int) % 2 == 0) = true := by simp only [beq_iff_eq]; exact hpe
          have K := fun W => refPair_any z0 x W
          rw [show pairW z0 x = z1 from by rw [hup]; unfold parW; rw [if_pos hev]] at K
          have hK := Lib.hid K
          clear K hup hev
          generalize (z0.toNat : Int) = n0 at *
          generalize (x.toNat : Int) = nx at *
          go_wp2_with fail
          refine (hK.out _).mono ?_
          rintro e w2 ⟨rfl, hb2⟩
          go_wp2
          go_roundw
          case rel => exact ⟨t + 1, p / 2, hlt, hq.out, by go_num, by rw [hq2.out], by rw [hz1'.out], below_step hb'.out hb2⟩
          case measure => simp [intOf]; omega
        · have hpe : ¬ (p : Int) % 2 = 0 := by omega
          have hpe2 : ((p : Int) % 2 == 0) = false := by simp only [beq_eq_false_iff_ne, ne_eq]; exact hpe
          have K := fun W => refPair_any x z0 W
          rw [show pairW x z0 = z1 from by rw [hup]; unfold parW; rw [if_neg hev]] at K
          have hK := Lib.hid K
          clear K hup hev
          generalize (z0.toNat : Int) = n0 at *
          generalize (x.toNat : Int) = nx at *
          go_wp2_with fail
          refine (hK.out _).mono ?_
          rintro e w2 ⟨rfl, hb2⟩
          go_wp2
          go_roundw
          case rel => exact ⟨t + 1, p / 2, hlt, hq.out, by go_num, by rw [hq2.out], by rw [hz1'.out], below_step hb'.out hb2⟩
          case measure => simp [intOf]; omega
      · obtain rfl : t = m := by omega
        have hdec := Lib.hid (show decide (up j x0 l = root) = (((up j x0 (l.take t)).toNat : Int) == (root.toNat : Int)) from by rw [bq_toNat, hm'.out, List.take_length])
        generalize ((up j x0 (l.take t)).toNat : Int) = n0 at *
        go_wp2
        go_ret
        exact ⟨by rw [hdec.out]; rfl, hBr.out⟩
end Go.Proofs.Ythpdohfekillkaa
