/- The reference's Valid. -/
import Derived.Test.YtknjdkgemkmoeaaShapeL
namespace Go.Proofs.Ytknjdkgemkmoeaa
open Go.ChangeShapes Go.WideShapes Go.ChangeAt Go.RowKit
open Fxm
set_option linter.unusedSimpArgs false
set_option linter.unusedVariables false

set_option maxRecDepth 100000 in
theorem refValidE_any (r : Int) (a : Option Addr) (cap : Nat) (w : World) : Calls Try.prog 74 #[.agg #[.int .i64 r, .slice a 0 cap]] w fun e w' => e = .returned (.bool (pB (ValidC r 0))) ∧ Below w.heap.size w w' := by
  have hcase : r < 1 ∨ (1 ≤ r ∧ 32768 < r) ∨ (1 ≤ r ∧ r ≤ 32768) := by omega
  rcases hcase with h | ⟨h, h'⟩ | ⟨h, h'⟩
  · rw [pB_false (fun k : ValidC r 0 => by have := k.2.1; omega)]
    have hd : decide (1 ≤ r) = false := decide_eq_false (by omega)
    go_enter Try.func74, Try.ntmps74
    go_wp2
    go_ret
    exact ⟨rfl, alloc_below _ _⟩
  · rw [pB_false (fun k : ValidC r 0 => by have := k.2.2; omega)]
    have hd : decide (r ≤ 32768) = false := decide_eq_false (by omega)
    go_enter Try.func74, Try.ntmps74
    go_wp2
    go_ret
    exact ⟨rfl, alloc_below _ _⟩
  · rw [pB_true (show ValidC r 0 from ⟨rfl, h, h'⟩)]
    have hd : decide (r ≤ 32768) = true := decide_eq_true h'
    go_enter Try.func74, Try.ntmps74
    go_wp2
    go_ret
    exact ⟨rfl, alloc_below _ _⟩
set_option maxRecDepth 100000 in
theorem refValidN_any (r : Int) (a : Option Addr) (n cap : Nat) (w : World) (hn : 1 ≤ n) (h : r ≠ 0 ∨ (r = 0 ∧ n < 3) ∨ (r = 0 ∧ 3 ≤ n ∧ 6 < n)) : Calls Try.prog 74 #[.agg #[.int .i64 r, .slice a n cap]] w fun e w' => e = .returned (.bool false) ∧ Below w.heap.size w w' := by
  have hn0 : ((n : Int) == 0) = false := by simp only [beq_eq_false_iff_ne, ne_eq]; omega
  rcases h with h | ⟨rfl, h⟩ | ⟨rfl, h1, h⟩
  · have hb : (r == 0) = false := by simp only [beq_eq_false_iff_ne, ne_eq]; omega
    have hb' : (r != 0) = true := by simp; omega
    go_enter Try.func74, Try.ntmps74
    go_wp2
    go_ret
    exact ⟨rfl, alloc_below _ _⟩
  · have h' : (n : Int) < 3 := by omega
    go_enter Try.func74, Try.ntmps74
    go_wp2
    go_ret
    exact ⟨rfl, alloc_below _ _⟩
  · have h' : ¬ (n : Int) < 3 := by omega
    have h'' : 6 < (n : Int) := by omega
    go_enter Try.func74, Try.ntmps74
    go_wp2
    go_ret
    exact ⟨rfl, alloc_below _ _⟩

set_option maxRecDepth 100000 in
set_option maxHeartbeats 8000000 in
theorem refValidP_any (g off cap : Nat) (vs : List (Int × Int)) (w : World) (hR : RowO w g off cap vs) (hl : 3 ≤ vs.length) (hl2 : vs.length ≤ 6) :
    Calls Try.prog 74 #[.agg #[.int .i64 0, .slice (some ⟨g, off, none⟩) vs.length cap]] w fun e w' => e = .returned (.bool (pB (ValidP 0 vs))) ∧ Below w.heap.size w w' := by
  have hcap := hR.le
  have hmax := hR.max
  unfold maxLen at hmax
  have hb0 := alloc_below w (.cells #[.int .i64 0, .slice (some ⟨g, off, none⟩) vs.length cap] 72)
  have hRw := Lib.hid (hR.carry hb0)
  have q1 : ¬ (vs.length : Int) < 3 := by omega
  have q2 : ¬ 6 < (vs.length : Int) := by omega
  have q3 : ((vs.length : Int) == 0) = false := by simp only [beq_eq_false_iff_ne, ne_eq]; omega
  have hl3 : (vs.length : Int) ≤ 6 := by omega
  have hl4 : 3 ≤ (vs.length : Int) := by omega
  clear hR
  go_enter Try.func74, Try.ntmps74
  obtain ⟨w1, hw1⟩ : ∃ w1, w1 = w.alloc (.cells #[.int .i64 0, .slice (some ⟨g, off, none⟩) vs.length cap] 72) := ⟨_, rfl⟩
  have c2 : w1.cell? ⟨w.heap.size, 1, none⟩ = some (.slice (some ⟨g, off, none⟩) vs.length cap) := by rw [hw1]; simp
  rw [← hw1] at hRw hb0
  go_wp2_with fail
  rw [← hw1]
  clear hw1
  go_loopw [4] (fun i wr => ∃ k : Nat, k ≤ vs.length ∧ i = .int .i64 k ∧ (∀ j, j < k → InR (at' vs j).1 ∧ InR (at' vs j).2) ∧ Below w1.heap.size w1 wr) (fun i _ => vs.length - (intOf i).toNat)
  case atStart => exact ⟨0, Nat.zero_le _, rfl, fun j hj => absurd hj (Nat.not_lt_zero _), Below.refl _ _⟩
  case round =>
    obtain ⟨k, hk, rfl, hall, hbl⟩ := hrel
    have hall' := Lib.hid hall
    clear hall
    have C2 := carry hbl c2
    by_cases hlk : k < vs.length
    · obtain ⟨kx, ky⟩ := (hRw.out.carry hbl).at hlk
      have hlk' : (k : Int) < (vs.length : Int) := by omega
      have hno : ¬ (InR (at' vs k).1 ∧ InR (at' vs k).2) → pB (ValidP 0 vs) = false := fun h => pB_false fun v => h (v.2.2.2.1 k hlk)
      have hin : (InR (at' vs k).1 ∧ InR (at' vs k).2) → ∀ j, j < k + 1 → InR (at' vs j).1 ∧ InR (at' vs j).2 := fun h j hj => by
        rcases Nat.lt_or_ge j k with h' | h'
        · exact hall'.out j h'
        · obtain rfl : j = k := by omega
          exact h
      generalize (at' vs k).1 = z0 at *
      generalize (at' vs k).2 = z1 at *
      have hba := below_step hbl (alloc_below wr (.cells #[.int .i64 z0, .int .i64 z1] 52))
      have hcase : (InR z0 ∧ InR z1) ∨ z0 < -32768 ∨ (¬ z0 < -32768 ∧ 32768 < z0) ∨ (¬ z0 < -32768 ∧ ¬ 32768 < z0 ∧ z1 < -32768) ∨ (¬ z0 < -32768 ∧ ¬ 32768 < z0 ∧ ¬ z1 < -32768 ∧ 32768 < z1) := by unfold InR; omega
      rcases hcase with h | h | ⟨h1, h2⟩ | ⟨h1, h2, h3⟩ | ⟨h1, h2, h3, h4⟩
      · have hin' := Lib.hid (hin h)
        unfold InR at h
        obtain ⟨⟨h1, h2⟩, h3, h4⟩ := h
        have f1 : ¬ z0 < -32768 := by omega
        have f2 : ¬ 32768 < z0 := by omega
        have f3 : ¬ z1 < -32768 := by omega
        have f4 : ¬ 32768 < z1 := by omega
        clear hin hno
        go_wp2
        go_roundw
        case rel => exact ⟨k + 1, by omega, by go_num, hin'.out, hba⟩
        case measure => simp [intOf]; omega
      all_goals
        have hno' := Lib.hid (hno (by unfold InR; omega))
        clear hin hno
        go_wp2
        go_ret
        exact ⟨by rw [hno'.out]; first | done | rfl, below_step hb0 hba⟩
    · obtain rfl : k = vs.length := by omega
      have hS : Small vs := fun i hi => hall'.out i hi
      have hS' := Lib.hid hS
      have hV : pB (ValidP 0 vs) = convexB vs := by
        by_cases hc : Convex vs
        · rw [convex_true hc, pB_true ⟨rfl, hl, hl2, hS, hc⟩]
        · rw [convexB_pB, pB_false hc, pB_false fun h => hc h.2.2.2.2]
      have hV' := Lib.hid hV
      clear hV hall' hS
      go_wp2_with fail
      go_loopw [6] (fun i ws => ∃ c : Nat, c ≤ vs.length ∧ i = .int .i64 c ∧ (∀ j, j < c → EdgeOk vs j) ∧ Below wr.heap.size wr ws) (fun i _ => vs.length - (intOf i).toNat)
      case atStart => exact ⟨0, Nat.zero_le _, rfl, fun j hj => absurd hj (Nat.not_lt_zero _), Below.refl _ _⟩
      case round =>
        obtain ⟨c, hc, rfl, hok, hbs⟩ := hrel
        have hok' := Lib.hid hok
        clear hok
        have hb2 := below_step hbl hbs
        have D2 := carry hb2 c2
        by_cases hlt : c < vs.length
        · obtain ⟨m, hm⟩ : ∃ m, m = (c + 1) % vs.length := ⟨_, rfl⟩
          have hmlt : m < vs.length := by rw [hm]; exact Nat.mod_lt _ (by omega)
          have hmod : ((c : Int) + 1) % (vs.length : Int) = (m : Int) := by rw [hm]; push_cast; rfl
          obtain ⟨vx, vy⟩ := (hRw.out.carry hb2).at hlt
          obtain ⟨ux, uy⟩ := (hRw.out.carry hb2).at hmlt
          have sc := hS'.out c hlt
          have sm := hS'.out m hmlt
          have hEd : EdgeOk vs c ↔ (0 < leftV ((at' vs c).1, (at' vs c).2) ((at' vs m).1, (at' vs m).2) (0, 0) ∧ ∀ j, j < vs.length → j ≠ c → j ≠ m → 0 < leftV ((at' vs c).1, (at' vs c).2) ((at' vs m).1, (at' vs m).2) (at' vs j)) := by
            unfold EdgeOk; rw [← hm]
          clear hm
          have K := fun p0 p1 (z0 : Bq p0) (z1 : Bq p1) w => left_any (at' vs c).1 (at' vs c).2 (at' vs m).1 (at' vs m).2 p0 p1 w (small_bq sc.1) (small_bq sc.2) (small_bq sm.1) (small_bq sm.2) z0 z1
          generalize (at' vs c).1 = v0 at *
          generalize (at' vs c).2 = v1 at *
          generalize (at' vs m).1 = u0 at *
          generalize (at' vs m).2 = u1 at *
          obtain ⟨LF, hLF⟩ : ∃ LF : Int × Int → Int, LF = leftV (v0, v1) (u0, u1) := ⟨_, rfl⟩
          rw [← hLF] at K hEd
          clear hLF
          have hKl := Lib.hid K
          have hEd' := Lib.hid hEd
          obtain ⟨L0, hL0⟩ : ∃ L0, L0 = LF (0, 0) := ⟨_, rfl⟩
          have k0 := hKl.out 0 0 bq_zero bq_zero
          rw [← hL0] at k0
          have hL0' := Lib.hid hL0
          have k0' := Lib.hid k0
          have hclt : (c : Int) < (vs.length : Int) := by omega
          have hmlt' : (m : Int) < (vs.length : Int) := by omega
          clear K hEd k0 hL0
          by_cases hneg : L0 ≤ 0
          · have hn' : decide (L0 ≤ 0) = true := decide_eq_true hneg
            have hno' := Lib.hid (convex_false hlt (fun h => by have := (hEd'.out.1 h).1; rw [← hL0'.out] at this; omega))
            go_wp2_with fail
            refine wp_region_made (by kernel_rfl) (by kernel_rfl) ?_
            intro W hK
            have g_D2 := fun x => carry ((hK.below x)) D2
            have g_vx := fun x => carry ((hK.below x)) vx
            have g_vy := fun x => carry ((hK.below x)) vy
            have g_ux := fun x => carry ((hK.below x)) ux
            have g_uy := fun x => carry ((hK.below x)) uy
            repeat (go_big_quiet_step ((go_at_call 98; with_reducible exact met_made (k0'.out _))))
            refine wpQuiet_nil ?_
            intro wq hw'
            have hbq := kept_in hK hw'
            clear g_D2 g_vx g_vy g_ux g_uy
            clear hw' hK W
            replace D2 := carry (hbq) D2
            replace vx := carry (hbq) vx
            replace vy := carry (hbq) vy
            replace ux := carry (hbq) ux
            replace uy := carry (hbq) uy
            go_wp2
            go_ret
            exact ⟨by rw [hV'.out, hno'.out]; first | done | rfl, below_step hb0 (below_step hb2 hbq)⟩
          · have hn' : decide (L0 ≤ 0) = false := decide_eq_false hneg
            go_wp2_with fail
            refine wp_region_made (by kernel_rfl) (by kernel_rfl) ?_
            intro W hK
            have g_D2 := fun x => carry ((hK.below x)) D2
            have g_vx := fun x => carry ((hK.below x)) vx
            have g_vy := fun x => carry ((hK.below x)) vy
            have g_ux := fun x => carry ((hK.below x)) ux
            have g_uy := fun x => carry ((hK.below x)) uy
            repeat (go_big_quiet_step ((go_at_call 98; with_reducible exact met_made (k0'.out _))))
            refine wpQuiet_nil ?_
            intro wq hw'
            have hbq := kept_in hK hw'
            clear g_D2 g_vx g_vy g_ux g_uy
            clear hw' hK W
            replace D2 := carry (hbq) D2
            replace vx := carry (hbq) vx
            replace vy := carry (hbq) vy
            replace ux := carry (hbq) ux
            replace uy := carry (hbq) uy
            clear hmod
            go_wp2_with fail
            have hb3 := below_step hb2 hbq
            have hb4 := below_step hbs hbq
            clear hbq
            go_loopw [8] (fun i wt => ∃ j : Nat, j ≤ vs.length ∧ i = .int .i64 j ∧ (∀ t, t < j → t ≠ c → t ≠ m → 0 < LF (at' vs t)) ∧ Below wq.heap.size wq wt) (fun i _ => vs.length - (intOf i).toNat)
            case atStart => exact ⟨0, Nat.zero_le _, rfl, fun j hj => absurd hj (Nat.not_lt_zero _), Below.refl _ _⟩
            case round =>
              obtain ⟨j, hj, rfl, hal, hbt⟩ := hrel
              have hal' := Lib.hid hal
              clear hal
              replace D2 := carry hbt D2
              by_cases hlj : j < vs.length
              · replace vx := carry hbt vx
                replace vy := carry hbt vy
                replace ux := carry hbt ux
                replace uy := carry hbt uy
                obtain ⟨kx, ky⟩ := (hRw.out.carry (below_step hb3 hbt)).at hlj
                have sk := hS'.out j hlj
                obtain ⟨z, hz⟩ : ∃ z, z = at' vs j := ⟨_, rfl⟩
                have hz' := Lib.hid hz
                rw [← hz] at kx ky sk
                clear hz
                have k1 := hKl.out z.1 z.2 (small_bq sk.1) (small_bq sk.2)
                obtain ⟨Z, hZ⟩ : ∃ Z, Z = LF z := ⟨_, rfl⟩
                rw [show LF (z.1, z.2) = Z by rw [hZ]] at k1
                have hZ' := Lib.hid hZ
                have k1' := Lib.hid k1
                clear k1 hZ
                generalize z.1 = z0 at *
                generalize z.2 = z1 at *
                have hjlt : (j : Int) < (vs.length : Int) := by omega
                have hcase : j = c ∨ (j ≠ c ∧ j = m) ∨ (j ≠ c ∧ j ≠ m ∧ Z ≤ 0) ∨ (j ≠ c ∧ j ≠ m ∧ ¬ Z ≤ 0) := by omega
                have hgo : (j = c ∨ j = m ∨ 0 < Z) → ∀ t, t < j + 1 → t ≠ c → t ≠ m → 0 < LF (at' vs t) := fun h t h1 h2 h3 => by
                  rcases Nat.lt_or_ge t j with h' | h'
                  · exact hal'.out t h' h2 h3
                  · obtain rfl : t = j := by omega
                    rw [← hz'.out, ← hZ'.out]; omega
                have hgo' := Lib.hid hgo
                clear hgo
                rcases hcase with h | ⟨h, h'⟩ | ⟨h, h', hZn⟩ | ⟨h, h', hZn⟩
                · have b1 : ((j : Int) != (c : Int)) = false := by simp; omega
                  have hr := Lib.hid (hgo'.out (Or.inl h))
                  clear h
                  go_wp2_with fail
                  refine wp_region_made (by kernel_rfl) (by kernel_rfl) ?_
                  intro W hK
                  have g_D2 := fun x => carry ((hK.below x)) D2
                  have g_vx := fun x => carry ((hK.below x)) vx
                  have g_vy := fun x => carry ((hK.below x)) vy
                  have g_ux := fun x => carry ((hK.below x)) ux
                  have g_uy := fun x => carry ((hK.below x)) uy
                  have g_kx := fun x => carry ((hK.below x)) kx
                  have g_ky := fun x => carry ((hK.below x)) ky
                  repeat (go_big_quiet_step (fail))
                  refine wpQuiet_nil ?_
                  intro wq hw'
                  have hbq := kept_in hK hw'
                  clear g_D2 g_vx g_vy g_ux g_uy g_kx g_ky
                  clear hw' hK W
                  replace D2 := carry (hbq) D2
                  replace vx := carry (hbq) vx
                  replace vy := carry (hbq) vy
                  replace ux := carry (hbq) ux
                  replace uy := carry (hbq) uy
                  replace kx := carry (hbq) kx
                  replace ky := carry (hbq) ky
                  go_wp2
                  go_roundw
                  case rel => exact ⟨j + 1, by omega, by go_num, hr.out, below_step hbt hbq⟩
                  case measure => simp [intOf]; omega
                · have b1 : ((j : Int) != (c : Int)) = true := by simp; omega
                  have b2 : ((j : Int) != (m : Int)) = false := by simp; omega
                  have hr := Lib.hid (hgo'.out (Or.inr (Or.inl h')))
                  clear h h'
                  go_wp2_with fail
                  refine wp_region_made (by kernel_rfl) (by kernel_rfl) ?_
                  intro W hK
                  have g_D2 := fun x => carry ((hK.below x)) D2
                  have g_vx := fun x => carry ((hK.below x)) vx
                  have g_vy := fun x => carry ((hK.below x)) vy
                  have g_ux := fun x => carry ((hK.below x)) ux
                  have g_uy := fun x => carry ((hK.below x)) uy
                  have g_kx := fun x => carry ((hK.below x)) kx
                  have g_ky := fun x => carry ((hK.below x)) ky
                  repeat (go_big_quiet_step (fail))
                  refine wpQuiet_nil ?_
                  intro wq hw'
                  have hbq := kept_in hK hw'
                  clear g_D2 g_vx g_vy g_ux g_uy g_kx g_ky
                  clear hw' hK W
                  replace D2 := carry (hbq) D2
                  replace vx := carry (hbq) vx
                  replace vy := carry (hbq) vy
                  replace ux := carry (hbq) ux
                  replace uy := carry (hbq) uy
                  replace kx := carry (hbq) kx
                  replace ky := carry (hbq) ky
                  go_wp2
                  go_roundw
                  case rel => exact ⟨j + 1, by omega, by go_num, hr.out, below_step hbt hbq⟩
                  case measure => simp [intOf]; omega
                · have b1 : ((j : Int) != (c : Int)) = true := by simp; omega
                  have b2 : ((j : Int) != (m : Int)) = true := by simp; omega
                  have hn2 : decide (Z ≤ 0) = true := decide_eq_true hZn
                  have hno' := Lib.hid (convex_false hlt (fun q => by have := (hEd'.out.1 q).2 j hlj h h'; rw [← hz'.out, ← hZ'.out] at this; omega))
                  clear h h'
                  go_wp2_with fail
                  refine wp_region_made (by kernel_rfl) (by kernel_rfl) ?_
                  intro W hK
                  have g_D2 := fun x => carry ((hK.below x)) D2
                  have g_vx := fun x => carry ((hK.below x)) vx
                  have g_vy := fun x => carry ((hK.below x)) vy
                  have g_ux := fun x => carry ((hK.below x)) ux
                  have g_uy := fun x => carry ((hK.below x)) uy
                  have g_kx := fun x => carry ((hK.below x)) kx
                  have g_ky := fun x => carry ((hK.below x)) ky
                  repeat (go_big_quiet_step ((go_at_call 98; with_reducible exact met_made (k1'.out _))))
                  refine wpQuiet_nil ?_
                  intro wq hw'
                  have hbq := kept_in hK hw'
                  clear g_D2 g_vx g_vy g_ux g_uy g_kx g_ky
                  clear hw' hK W
                  replace D2 := carry (hbq) D2
                  replace vx := carry (hbq) vx
                  replace vy := carry (hbq) vy
                  replace ux := carry (hbq) ux
                  replace uy := carry (hbq) uy
                  replace kx := carry (hbq) kx
                  replace ky := carry (hbq) ky
                  go_wp2
                  go_ret
                  exact ⟨by rw [hV'.out, hno'.out]; first | done | rfl, below_step hb0 (below_step hb3 (below_step hbt hbq))⟩
                · have b1 : ((j : Int) != (c : Int)) = true := by simp; omega
                  have b2 : ((j : Int) != (m : Int)) = true := by simp; omega
                  have hn2 : decide (Z ≤ 0) = false := decide_eq_false hZn
                  have hr := Lib.hid (hgo'.out (Or.inr (Or.inr (by omega))))
                  clear h h'
                  go_wp2_with fail
                  refine wp_region_made (by kernel_rfl) (by kernel_rfl) ?_
                  intro W hK
                  have g_D2 := fun x => carry ((hK.below x)) D2
                  have g_vx := fun x => carry ((hK.below x)) vx
                  have g_vy := fun x => carry ((hK.below x)) vy
                  have g_ux := fun x => carry ((hK.below x)) ux
                  have g_uy := fun x => carry ((hK.below x)) uy
                  have g_kx := fun x => carry ((hK.below x)) kx
                  have g_ky := fun x => carry ((hK.below x)) ky
                  repeat (go_big_quiet_step ((go_at_call 98; with_reducible exact met_made (k1'.out _))))
                  refine wpQuiet_nil ?_
                  intro wq hw'
                  have hbq := kept_in hK hw'
                  clear g_D2 g_vx g_vy g_ux g_uy g_kx g_ky
                  clear hw' hK W
                  replace D2 := carry (hbq) D2
                  replace vx := carry (hbq) vx
                  replace vy := carry (hbq) vy
                  replace ux := carry (hbq) ux
                  replace uy := carry (hbq) uy
                  replace kx := carry (hbq) kx
                  replace ky := carry (hbq) ky
                  go_wp2
                  go_roundw
                  case rel => exact ⟨j + 1, by omega, by go_num, hr.out, below_step hbt hbq⟩
                  case measure => simp [intOf]; omega
              · obtain rfl : j = vs.length := by omega
                have hEE := Lib.hid (hEd'.out.2 ⟨by rw [← hL0'.out]; omega, fun t h1 h2 h3 => hal'.out t h1 h2 h3⟩)
                go_wp2
                go_roundw
                case rel => exact ⟨c + 1, by omega, by go_num, fun t ht => by
                  rcases Nat.lt_or_ge t c with h' | h'
                  · exact hok'.out t h'
                  · obtain rfl : t = c := by omega
                    exact hEE.out, below_step hb4 hbt⟩
                case measure => simp [intOf]; omega
        · obtain rfl : c = vs.length := by omega
          have hyes := Lib.hid (convex_true (vs := vs) fun i hi => hok'.out i hi)
          go_wp2
          go_ret
          exact ⟨by rw [hV'.out, hyes.out]; first | done | rfl, below_step hb0 hb2⟩
theorem refValid_any (r : Int) (v : Value) (vs : List (Int × Int)) (w : World) (hP : Poly w v vs) :
    Calls Try.prog 74 #[.agg #[.int .i64 r, v]] w fun e w' => e = .returned (.bool (pB (Valid r vs))) ∧ Below w.heap.size w w' := by
  have h0 : vs = [] → pB (Valid r vs) = pB (ValidC r 0) := fun h => by
    subst h
    by_cases hc : ValidC r 0
    · rw [pB_true hc, pB_true (show Valid r [] from Or.inl hc)]
    · rw [pB_false hc, pB_false (show ¬ Valid r [] from fun k => k.elim hc (fun q => by have := q.2.1; simp at this))]
  have h1 : 1 ≤ vs.length → pB (Valid r vs) = pB (ValidP r vs) := fun h => by
    by_cases hp : ValidP r vs
    · rw [pB_true hp, pB_true (show Valid r vs from Or.inr hp)]
    · rw [pB_false hp, pB_false (show ¬ Valid r vs from fun k => k.elim (fun q => by have := q.1; omega) hp)]
  rcases hP with ⟨h, a, cap, rfl⟩ | ⟨g, off, cap, rfl, hR⟩
  · rw [h0 h]; exact refValidE_any r a cap w
  · by_cases hn : vs.length = 0
    · have e : vs = [] := List.length_eq_zero_iff.1 hn
      rw [h0 e, hn]; exact refValidE_any r _ cap w
    · rw [h1 (by omega)]
      by_cases hg : r = 0 ∧ 3 ≤ vs.length ∧ vs.length ≤ 6
      · obtain ⟨rfl, h3, h6⟩ := hg
        exact refValidP_any g off cap vs w hR h3 h6
      · rw [pB_false (show ¬ ValidP r vs from fun k => hg ⟨k.1, k.2.1, k.2.2.1⟩)]
        exact refValidN_any r _ vs.length cap w (by omega) (by omega)
end Go.Proofs.Ytknjdkgemkmoeaa
