/-
  package broadphase, P4.4: for up to twenty boxes on a small grid made of any numbers, any three that Pairs reports as pairwise overlapping have a point in common; and the section's examples hold; whatever the argument is.
-/
import Derived.Test.YtbgafimiodfkaaaRows
import Derived.WalkKit
import Derived.ProofKit
import Derived.OpenShut
import Derived.Test.YtbgafimiodfkaaaOpen
import Derived.Test.YtbgafimiodfkaaaBroadN
import Derived.WalkLawsBesides
import Derived.Deep.DeepCutAuto
import Derived.Deep.CutBlock
namespace Go.Proofs.Ytbgafimiodfkaaa.broadphaseHelly
open Go.ChangeShapes Go.WideShapes Go.ChangeAt Go.RowKit
set_option linter.unusedVariables false
set_option linter.unusedSimpArgs false

open Bo
theorem own : ownKnob Try.prog.godebug = none := by kernel_rfl
theorem laid : laidOutB Try.prog = true := by kernel_rfl

set_option maxRecDepth 100000 in
set_option maxHeartbeats 8000000 in
theorem walk (w : World) (s0 : Value) (Z0 : Nat → Int) (l0 : Nat) (H0 : IntsAt w s0 1 Z0 l0) :
    Calls Try.prog 6 #[s0] w fun e w' => e = .returned (.bool true) ∧ Below w.heap.size w w' := by
  have H0' := Lib.hid H0
  obtain ⟨a, cap, rfl, k1, k2, k3, k4⟩ := H0
  clear k1 k2 k3 k4
  go_enter Try.func6, Try.ntmps6
  go_wp2_with fail
  refine (boxes_any _ _ _ _ H0'.out).mono ?_
  rintro e Wa ⟨⟨vm, bm, rfl, m1, m2, m3, m4⟩, hb1⟩
  have hB1 := Lib.hid hb1
  have hn20 := m1
  have hgr := Lib.hid m3
  have hat := Lib.hid m4.at
  obtain ⟨xb, cb, rfl, hbx⟩ := slice_boxes m4.at
  have hbx' := Lib.hid hbx
  clear m1 m2 m3 m4 hb1 H0' hbx
  go_wp2_with fail
  refine (pairsG_any _ bm _ hat.out (by omega)).mono ?_
  rintro e Wb ⟨⟨vp, rfl, hvp⟩, hb2⟩
  have hB2 := Lib.hid (below_step hB1.out hb2)
  have hab := Lib.hid hb2
  have hpt := Lib.hid hvp
  obtain ⟨xp, cp, rfl, hpx⟩ := slice_pairs hvp
  obtain ⟨ps, hps⟩ : ∃ ps, ps = pairs bm := ⟨_, rfl⟩
  have hps' := Lib.hid hps
  rw [← hps] at hpt
  rw [← hps]
  rw [← hps] at hpx
  have hpx' := Lib.hid hpx
  clear hvp hb2 hB1 hat hpx hps
  obtain ⟨Z, hZ, hz⟩ := zeroMeet
  have hZ' := Lib.hid hZ
  clear hZ
  go_wp2_with fail
  go_loopw [6] (fun i T => ∃ k : Nat, k ≤ ps.length ∧ i = .int .i64 k ∧ Below Wb.heap.size Wb T ∧ Meet T Wb.heap.size (inP ps k)) (fun i _ => ps.length - (intOf i).toNat)
  case atStart => exact ⟨0, Nat.zero_le _, rfl, alloc_below _ _, by rw [inP_none, hZ'.out]; exact Meet.new Wb _⟩
  case round =>
    obtain ⟨k, hk, rfl, hB, hM⟩ := hrel
    by_cases hlt : k < ps.length
    · obtain ⟨g, off, rfl, hR⟩ := hpx'.out.resolve_left (by intro h; rw [h] at hlt; simp at hlt)
      have hl1 := hR.le
      have hl2 := hR.max
      unfold maxLen at hl2
      obtain ⟨c0, c1⟩ := row_pair (hR.carry hB) hlt
      have hbd := pair_bounds (bs := bm) (k := k) (by rw [← hps'.out]; exact hlt)
      rw [← hps'.out] at hbd
      have hyes := inP_here hlt
      have hno := inP_else hlt
      generalize (atP ps k).1 = A at *
      generalize (atP ps k).2 = D at *
      have z0 : (0 : Int) ≤ (A : Int) := by omega
      have z1 : (D : Int) < (bm.length : Int) := by omega
      have z2 : (A : Int) < (D : Int) := by omega
      have hA20 : A < 20 := by omega
      have hD20 : D < 20 := by omega
      obtain ⟨n1, n2⟩ := hM A D hA20 hD20
      have hM' := Lib.hid (hM.set (g := inP ps (k + 1)) hA20 hD20 hyes hno)
      have hB' := Lib.hid hB
      have hs := hB.size
      clear hyes hno hM hB hR hpx' hpt hk
      go_wp2_with fail
      go_roundw
      case rel => exact ⟨k + 1, by omega, by go_num, hB'.out.setCell (p := ⟨Wb.heap.size, A * 20 + D, none⟩) (Nat.le_refl _) _, hM'.out⟩
      case measure => simp [intOf]; omega
    · obtain rfl : k = ps.length := by omega
      obtain ⟨T, hT0⟩ : ∃ T, T = wr := ⟨_, rfl⟩
      subst hT0
      have gT := Lib.hid (below_step hB2.out hB)
      have hWT := Lib.hid (below_step hab.out hB)
      have hBs : Wb.heap.size < T.heap.size := block_lt_of_cell (hM 0 0 (by omega) (by omega)).1
      have hMT := Lib.hid hM
      clear hB hM hlt hk hpx' hpt hz hZ' hab
      go_wp2_with fail
      go_loopw [9] (fun s wi => ∃ i : Nat, i ≤ bm.length ∧ s = .int .i64 i ∧ Below T.heap.size T wi) (fun s _ => bm.length - (intOf s).toNat)
      case atStart => exact ⟨0, Nat.zero_le _, rfl, Below.refl _ _⟩
      case round =>
        obtain ⟨i, hi, rfl, hB⟩ := hrel
        by_cases hlt : i < bm.length
        · have hBi := Lib.hid hB
          clear hB
          go_wp2_with fail
          go_loopw [10] (fun s wk => ∃ k : Nat, i + 1 ≤ k ∧ k ≤ bm.length ∧ s = .int .i64 k ∧ Below T.heap.size T wk) (fun s _ => bm.length - (intOf s).toNat)
          case atStart => exact ⟨i + 1, Nat.le_refl _, hlt, by go_num, hBi.out⟩
          case round =>
            obtain ⟨k, hk1, hk2, rfl, hB⟩ := hrel
            clear hBi
            by_cases hltk : k < bm.length
            · have hBk := Lib.hid hB
              clear hB
              go_wp2_with fail
              go_loopw [11] (fun s wn => ∃ n : Nat, k + 1 ≤ n ∧ n ≤ bm.length ∧ s = .int .i64 n ∧ Below T.heap.size T wn) (fun s _ => bm.length - (intOf s).toNat)
              case atStart => exact ⟨k + 1, Nat.le_refl _, hltk, by go_num, hBk.out⟩
              case round =>
                obtain ⟨n, hn1, hn2, rfl, hB⟩ := hrel
                clear hBk
                by_cases hltn : n < bm.length
                · skip
                  have hMn := hMT.out.carry hBs hB
                  obtain ⟨e0, f0⟩ := hMn i k (by omega) (by omega)
                  obtain ⟨e1, f1⟩ := hMn i n (by omega) (by omega)
                  obtain ⟨e2, f2⟩ := hMn k n (by omega) (by omega)
                  have o1 : inP ps ps.length i k = true → Ov (at' bm i) (at' bm k) := fun h => inP_full (by omega) (by omega) (by rw [← hps'.out]; exact h)
                  have o2 : inP ps ps.length i n = true → Ov (at' bm i) (at' bm n) := fun h => inP_full (by omega) (by omega) (by rw [← hps'.out]; exact h)
                  have o3 : inP ps ps.length k n = true → Ov (at' bm k) (at' bm n) := fun h => inP_full (by omega) (by omega) (by rw [← hps'.out]; exact h)
                  generalize inP ps ps.length i k = p1 at *
                  generalize inP ps ps.length i n = p2 at *
                  generalize inP ps ps.length k n = p3 at *
                  have hB' := Lib.hid hB
                  have ho := Lib.hid (And.intro o1 (And.intro o2 o3))
                  clear hMn f0 f1 f2 o1 o2 o3 hB
                  go_upto_region 21 with fail
                  go_cut [95] (fun c v => (∃ q : Bool, c = .bool q ∧ (q = true ∨ (q = false ∧ p1 = true ∧ p2 = true ∧ p3 = true))) ∧ v = wr)
                  case first =>
                    cases p1 <;> cases p2 <;> cases p3
                    all_goals
                      go_wp2_with fail
                      go_meet
                      first
                        | exact ⟨⟨true, rfl, Or.inl rfl⟩, rfl⟩
                        | exact ⟨⟨false, rfl, Or.inr (by simp)⟩, rfl⟩
                  obtain ⟨⟨q, rfl, hq⟩, rfl⟩ := hcut
                  rcases hq with rfl | ⟨rfl, rfl, rfl, rfl⟩
                  · clear e0 e1 e2 ho
                    go_wp2_with fail
                    go_roundw
                    case rel => exact ⟨n + 1, by omega, by omega, by go_num, hB'.out⟩
                    case measure => simp [intOf]; omega
                  · obtain ⟨g, off, rfl, hR⟩ := hbx'.out.resolve_left (by intro h; rw [h] at hlt; simp at hlt)
                    have hl1 := hR.le
                    have hl2 := hR.max
                    unfold maxLen at hl2
                    have hRn := hR.carry (below_step hWT.out hB'.out)
                    obtain ⟨a0, a1, a2, a3⟩ := row_box hRn (i := i) hlt
                    obtain ⟨b0, b1, b2, b3⟩ := row_box hRn (i := k) hltk
                    obtain ⟨d0, d1, d2, d3⟩ := row_box hRn (i := n) hltn
                    have hh := helly (hgr.out.proper i hlt) (hgr.out.proper k hltk) (hgr.out.proper n hltn) (ho.out.1 rfl) (ho.out.2.1 rfl) (ho.out.2.2 rfl) (x := max (max (at' bm i).x0 (at' bm k).x0) (at' bm n).x0) (y := max (max (at' bm i).y0 (at' bm k).y0) (at' bm n).y0) rfl rfl
                    generalize at' bm i = A at *
                    generalize at' bm k = D at *
                    generalize at' bm n = E at *
                    have hh' := Lib.hid hh
                    clear hh ho e0 e1 e2 hR hRn hbx'
                    go_upto_region 22 with fail
                    go_cut [12] (fun v wv => v = .int .i64 (max (max A.x0 D.x0) E.x0) ∧ Below wc.heap.size wc wv)
                    case first =>
                      refine wp_region_made (by kernel_rfl) (by kernel_rfl) ?_
                      intro W hK
                      have g_a0 := fun x => carry ((hK.below x)) a0
                      have g_a1 := fun x => carry ((hK.below x)) a1
                      have g_a2 := fun x => carry ((hK.below x)) a2
                      have g_a3 := fun x => carry ((hK.below x)) a3
                      have g_b0 := fun x => carry ((hK.below x)) b0
                      have g_b1 := fun x => carry ((hK.below x)) b1
                      have g_b2 := fun x => carry ((hK.below x)) b2
                      have g_b3 := fun x => carry ((hK.below x)) b3
                      have g_d0 := fun x => carry ((hK.below x)) d0
                      have g_d1 := fun x => carry ((hK.below x)) d1
                      have g_d2 := fun x => carry ((hK.below x)) d2
                      have g_d3 := fun x => carry ((hK.below x)) d3
                      repeat (go_big_quiet_step ((fail)))
                      refine wpQuiet_nil ?_
                      intro wq hw'
                      have hbq := kept_in hK hw'
                      clear g_a0 g_a1 g_a2 g_a3 g_b0 g_b1 g_b2 g_b3 g_d0 g_d1 g_d2 g_d3
                      clear hw' hK W
                      replace a0 := carry (hbq) a0
                      replace a1 := carry (hbq) a1
                      replace a2 := carry (hbq) a2
                      replace a3 := carry (hbq) a3
                      replace b0 := carry (hbq) b0
                      replace b1 := carry (hbq) b1
                      replace b2 := carry (hbq) b2
                      replace b3 := carry (hbq) b3
                      replace d0 := carry (hbq) d0
                      replace d1 := carry (hbq) d1
                      replace d2 := carry (hbq) d2
                      replace d3 := carry (hbq) d3
                      go_wp2_with fail
                      all_goals
                        go_meet
                        exact ⟨congrArg (Value.int .i64) (by omega), hbq⟩
                    obtain ⟨rfl, hbq⟩ := hcut
                    replace a0 := carry (hbq) a0
                    replace a1 := carry (hbq) a1
                    replace a2 := carry (hbq) a2
                    replace a3 := carry (hbq) a3
                    replace b0 := carry (hbq) b0
                    replace b1 := carry (hbq) b1
                    replace b2 := carry (hbq) b2
                    replace b3 := carry (hbq) b3
                    replace d0 := carry (hbq) d0
                    replace d1 := carry (hbq) d1
                    replace d2 := carry (hbq) d2
                    replace d3 := carry (hbq) d3
                    have hs1 := Lib.hid hbq
                    clear hbq
                    generalize max (max A.x0 D.x0) E.x0 = X at *
                    go_upto_region 23 with fail
                    go_cut [13] (fun v wv => v = .int .i64 (max (max A.y0 D.y0) E.y0) ∧ Below wc.heap.size wc wv)
                    case first =>
                      refine wp_region_made (by kernel_rfl) (by kernel_rfl) ?_
                      intro W hK
                      have g_a0 := fun x => carry ((hK.below x)) a0
                      have g_a1 := fun x => carry ((hK.below x)) a1
                      have g_a2 := fun x => carry ((hK.below x)) a2
                      have g_a3 := fun x => carry ((hK.below x)) a3
                      have g_b0 := fun x => carry ((hK.below x)) b0
                      have g_b1 := fun x => carry ((hK.below x)) b1
                      have g_b2 := fun x => carry ((hK.below x)) b2
                      have g_b3 := fun x => carry ((hK.below x)) b3
                      have g_d0 := fun x => carry ((hK.below x)) d0
                      have g_d1 := fun x => carry ((hK.below x)) d1
                      have g_d2 := fun x => carry ((hK.below x)) d2
                      have g_d3 := fun x => carry ((hK.below x)) d3
                      repeat (go_big_quiet_step ((fail)))
                      refine wpQuiet_nil ?_
                      intro wq hw'
                      have hbq := kept_in hK hw'
                      clear g_a0 g_a1 g_a2 g_a3 g_b0 g_b1 g_b2 g_b3 g_d0 g_d1 g_d2 g_d3
                      clear hw' hK W
                      replace a0 := carry (hbq) a0
                      replace a1 := carry (hbq) a1
                      replace a2 := carry (hbq) a2
                      replace a3 := carry (hbq) a3
                      replace b0 := carry (hbq) b0
                      replace b1 := carry (hbq) b1
                      replace b2 := carry (hbq) b2
                      replace b3 := carry (hbq) b3
                      replace d0 := carry (hbq) d0
                      replace d1 := carry (hbq) d1
                      replace d2 := carry (hbq) d2
                      replace d3 := carry (hbq) d3
                      go_wp2_with fail
                      all_goals
                        go_meet
                        exact ⟨congrArg (Value.int .i64) (by omega), hbq⟩
                    obtain ⟨rfl, hbq⟩ := hcut
                    replace a0 := carry (hbq) a0
                    replace a1 := carry (hbq) a1
                    replace a2 := carry (hbq) a2
                    replace a3 := carry (hbq) a3
                    replace b0 := carry (hbq) b0
                    replace b1 := carry (hbq) b1
                    replace b2 := carry (hbq) b2
                    replace b3 := carry (hbq) b3
                    replace d0 := carry (hbq) d0
                    replace d1 := carry (hbq) d1
                    replace d2 := carry (hbq) d2
                    replace d3 := carry (hbq) d3
                    have hs2 := Lib.hid hbq
                    clear hbq
                    generalize max (max A.y0 D.y0) E.y0 = Y at *
                    have t0 : (wc.alloc (.cells #[.int .i64 X, .int .i64 Y, .int .i64 X, .int .i64 Y] 23)).cell? ⟨wc.heap.size, 0, none⟩ = some (.int .i64 X) := World.cell?_alloc_new (w := wc) #[.int .i64 X, .int .i64 Y, .int .i64 X, .int .i64 Y] 23 0
                    have t1 : (wc.alloc (.cells #[.int .i64 X, .int .i64 Y, .int .i64 X, .int .i64 Y] 23)).cell? ⟨wc.heap.size, 1, none⟩ = some (.int .i64 Y) := World.cell?_alloc_new (w := wc) #[.int .i64 X, .int .i64 Y, .int .i64 X, .int .i64 Y] 23 1
                    have t2 : (wc.alloc (.cells #[.int .i64 X, .int .i64 Y, .int .i64 X, .int .i64 Y] 23)).cell? ⟨wc.heap.size, 2, none⟩ = some (.int .i64 X) := World.cell?_alloc_new (w := wc) #[.int .i64 X, .int .i64 Y, .int .i64 X, .int .i64 Y] 23 2
                    have t3 : (wc.alloc (.cells #[.int .i64 X, .int .i64 Y, .int .i64 X, .int .i64 Y] 23)).cell? ⟨wc.heap.size, 3, none⟩ = some (.int .i64 Y) := World.cell?_alloc_new (w := wc) #[.int .i64 X, .int .i64 Y, .int .i64 X, .int .i64 Y] 23 3
                    replace a0 := carry (alloc_below wc (.cells #[.int .i64 X, .int .i64 Y, .int .i64 X, .int .i64 Y] 23)) a0
                    replace a1 := carry (alloc_below wc (.cells #[.int .i64 X, .int .i64 Y, .int .i64 X, .int .i64 Y] 23)) a1
                    replace a2 := carry (alloc_below wc (.cells #[.int .i64 X, .int .i64 Y, .int .i64 X, .int .i64 Y] 23)) a2
                    replace a3 := carry (alloc_below wc (.cells #[.int .i64 X, .int .i64 Y, .int .i64 X, .int .i64 Y] 23)) a3
                    replace b0 := carry (alloc_below wc (.cells #[.int .i64 X, .int .i64 Y, .int .i64 X, .int .i64 Y] 23)) b0
                    replace b1 := carry (alloc_below wc (.cells #[.int .i64 X, .int .i64 Y, .int .i64 X, .int .i64 Y] 23)) b1
                    replace b2 := carry (alloc_below wc (.cells #[.int .i64 X, .int .i64 Y, .int .i64 X, .int .i64 Y] 23)) b2
                    replace b3 := carry (alloc_below wc (.cells #[.int .i64 X, .int .i64 Y, .int .i64 X, .int .i64 Y] 23)) b3
                    replace d0 := carry (alloc_below wc (.cells #[.int .i64 X, .int .i64 Y, .int .i64 X, .int .i64 Y] 23)) d0
                    replace d1 := carry (alloc_below wc (.cells #[.int .i64 X, .int .i64 Y, .int .i64 X, .int .i64 Y] 23)) d1
                    replace d2 := carry (alloc_below wc (.cells #[.int .i64 X, .int .i64 Y, .int .i64 X, .int .i64 Y] 23)) d2
                    replace d3 := carry (alloc_below wc (.cells #[.int .i64 X, .int .i64 Y, .int .i64 X, .int .i64 Y] 23)) d3
                    have hs3 := Lib.hid (alloc_below wc (.cells #[.int .i64 X, .int .i64 Y, .int .i64 X, .int .i64 Y] 23))
                    have k1 := fun W => overlap4 A.x0 A.y0 A.x1 A.y1 X Y X Y W
                    have k2 := fun W => overlap4 D.x0 D.y0 D.x1 D.y1 X Y X Y W
                    have k3 := fun W => overlap4 E.x0 E.y0 E.x1 E.y1 X Y X Y W
                    have e1 : ov ⟨A.x0, A.y0, A.x1, A.y1⟩ ⟨X, Y, X, Y⟩ = true := hh'.out.1
                    have e2 : ov ⟨D.x0, D.y0, D.x1, D.y1⟩ ⟨X, Y, X, Y⟩ = true := hh'.out.2.1
                    have e3 : ov ⟨E.x0, E.y0, E.x1, E.y1⟩ ⟨X, Y, X, Y⟩ = true := hh'.out.2.2
                    rw [e1] at k1
                    rw [e2] at k2
                    rw [e3] at k3
                    have hk := Lib.hid (And.intro k1 (And.intro k2 k3))
                    clear k1 k2 k3 e1 e2 e3 hh'
                    go_upto_region 25 with fail
                    generalize wc.alloc (.cells #[.int .i64 X, .int .i64 Y, .int .i64 X, .int .i64 Y] 23) = W3 at *
                    refine wp_region_made (by kernel_rfl) (by kernel_rfl) ?_
                    intro W hK
                    have g_a0 := fun x => carry ((hK.below x)) a0
                    have g_a1 := fun x => carry ((hK.below x)) a1
                    have g_a2 := fun x => carry ((hK.below x)) a2
                    have g_a3 := fun x => carry ((hK.below x)) a3
                    have g_b0 := fun x => carry ((hK.below x)) b0
                    have g_b1 := fun x => carry ((hK.below x)) b1
                    have g_b2 := fun x => carry ((hK.below x)) b2
                    have g_b3 := fun x => carry ((hK.below x)) b3
                    have g_d0 := fun x => carry ((hK.below x)) d0
                    have g_d1 := fun x => carry ((hK.below x)) d1
                    have g_d2 := fun x => carry ((hK.below x)) d2
                    have g_d3 := fun x => carry ((hK.below x)) d3
                    have g_t0 := fun x => carry ((hK.below x)) t0
                    have g_t1 := fun x => carry ((hK.below x)) t1
                    have g_t2 := fun x => carry ((hK.below x)) t2
                    have g_t3 := fun x => carry ((hK.below x)) t3
                    repeat (go_big_quiet_step ((first | (go_at_call 11; with_reducible exact met_made (hk.out.1 _)) | (go_at_call 11; with_reducible exact met_made (hk.out.2.1 _)) | (go_at_call 11; with_reducible exact met_made (hk.out.2.2 _)))))
                    refine wpQuiet_nil ?_
                    intro wq hw'
                    have hbq := kept_in hK hw'
                    clear g_a0 g_a1 g_a2 g_a3 g_b0 g_b1 g_b2 g_b3 g_d0 g_d1 g_d2 g_d3 g_t0 g_t1 g_t2 g_t3
                    clear hw' hK W
                    replace a0 := carry (hbq) a0
                    replace a1 := carry (hbq) a1
                    replace a2 := carry (hbq) a2
                    replace a3 := carry (hbq) a3
                    replace b0 := carry (hbq) b0
                    replace b1 := carry (hbq) b1
                    replace b2 := carry (hbq) b2
                    replace b3 := carry (hbq) b3
                    replace d0 := carry (hbq) d0
                    replace d1 := carry (hbq) d1
                    replace d2 := carry (hbq) d2
                    replace d3 := carry (hbq) d3
                    replace t0 := carry (hbq) t0
                    replace t1 := carry (hbq) t1
                    replace t2 := carry (hbq) t2
                    replace t3 := carry (hbq) t3
                    have hs4 := Lib.hid hbq
                    clear hbq
                    go_wp2_with fail
                    go_roundw
                    case rel => exact ⟨n + 1, by omega, by omega, by go_num, below_step (below_step (below_step (below_step hB'.out hs1.out) hs2.out) hs3.out) hs4.out⟩
                    case measure => simp [intOf]; omega
                · obtain rfl : n = bm.length := by omega
                  have hBn := Lib.hid hB
                  clear hB hltn
                  go_wp2_with fail
                  go_roundw
                  case rel => exact ⟨k + 1, by omega, by omega, by go_num, hBn.out⟩
                  case measure => simp [intOf]; omega
            · obtain rfl : k = bm.length := by omega
              have hBk := Lib.hid hB
              clear hB hltk
              go_wp2_with fail
              go_roundw
              case rel => exact ⟨i + 1, by omega, by go_num, hBk.out⟩
              case measure => simp [intOf]; omega
        · obtain rfl : i = bm.length := by omega
          have gW := Lib.hid hB
          clear hB hlt
          go_wp2_with fail
          refine (lives4_any _).mono ?_
          rintro e We ⟨rfl, hb9⟩
          go_wp2
          go_ret
          exact ⟨rfl, below_step (below_step gT.out gW.out) hb9⟩

set_option maxRecDepth 100000 in
theorem lifted (os : Os) (started : os.Started) (H : Type) (enc : TypeId × Value → H) :
    ReturnsInHanded {} Try.checked os 6 .any (Rows.broadphaseHellySpec.pre6 enc Try.prog Try.f6 Rows.broadphaseHellyRow.domain false) (Rows.broadphaseHellySpec.post enc Try.prog Try.f6 false true false false) := by
  refine returnsInHanded_of_change (C := Try.checked) own started (by kernel_rfl) Try.func6
    (ChangeSpec.witness6 (enc := enc) (C := Try.checked) false ⟨#[], #[.slice none 0 0], []⟩ 8 (by kernel_rfl) (by kernel_rfl) (by kernel_rfl) (by kernel_rfl)) ?_
  intro W base args ds gs before hval0 hW hcnd _
  have hval : ∀ (j : Nat) t v, Try.f6.params[j]? = some t → args[j]? = some v → Value.okWide Try.prog W .any base t v := hval0
  have hW' := hW
  obtain ⟨p, q, hA0, hV, rfl, hfz, hnd⟩ := hW
  have hA : DataW.TrodAll enc Try.prog W 0 (fun _ => true) true Try.f6.params.toList args.toList ds p := hA0
  rw [Try.params6] at hA hval
  have hAk := hA
  obtain ⟨v0, vs0, d0, ds0, p0, q0, hargs, rfl, hp0, h0, r0⟩ := trodAll_cons hA
  obtain ⟨rfl, rfl, -⟩ := trodAll_nil r0
  obtain rfl : args = #[v0] := by cases args; simp_all
  obtain ⟨rfl, rfl⟩ := trodVars_none hV
  obtain ⟨x0, q0, c0, rfl⟩ := okWide_slice Try.underlying28 (hval 0 28 v0 rfl rfl)
  obtain ⟨fu0, fh0⟩ := h0
  obtain ⟨s0, Z0, l0, e0, H0⟩ := open_int_cells Try.underlying28 Try.underlying3 (by kernel_rfl) fh0
  simp only [Value.cells, List.cons.injEq, and_true] at e0
  obtain rfl := e0.symm
  clear hA0 hval0
  simp only [List.append_nil] at hW'
  refine (walk W _ Z0 l0 H0).mono fun e W' ⟨he, hb⟩ => ?_
  subst he
  exact ⟨_, rfl, kept_post (pa := p) hW' (fun _ _ _ => (trodAll_cons_mk (shut_bool Try.underlying4 _) trodAll_mk0)) (fun sp hsp => trodAll_stays laid hb (by rw [Try.params6]; decide +kernel) hAk (fun x hx => hW'.lt x hx) hsp) (fun _ => rfl) hb (ok_one (by kernel_rfl) rfl (okWide_bool_mk Try.underlying4 _))⟩

theorem over : Rows.broadphaseHellyRow.holds Try.pinned (OpenSpec.ofChange Rows.broadphaseHellySpec) :=
  OpenClaim.holds_of_wide 6 Try.f6 rfl rfl rfl rfl rfl rfl rfl ⟨rfl, rfl, rfl, rfl, rfl⟩ rfl rfl rfl rfl rfl (by kernel_rfl) Try.func6 (by kernel_rfl)
    (of_decide_eq_true (by kernel_rfl)) (by unfold Func.isWrapper; first | (rw [if_pos (by decide +kernel)]; kernel_rfl) | (rw [if_neg (by decide +kernel)]; exact ⟨rfl, rfl⟩))
    (fun os started H enc _ => lifted os started H enc)

theorem proved : Rows.BroadphaseHellySaid :=
  over
#print axioms proved
end Go.Proofs.Ytbgafimiodfkaaa.broadphaseHelly
