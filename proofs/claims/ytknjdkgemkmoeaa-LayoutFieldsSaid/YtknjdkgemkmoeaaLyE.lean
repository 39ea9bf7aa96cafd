/- Package layout: Validate; Size, Player, Body. -/
import Derived.Test.YtknjdkgemkmoeaaLyD
namespace Go.Proofs.Ytknjdkgemkmoeaa
open Go.ChangeShapes Go.WideShapes Go.ChangeAt Go.RowKit
set_option linter.unusedSimpArgs false
set_option linter.unusedVariables false

set_option maxRecDepth 100000 in
set_option maxHeartbeats 8000000 in
theorem indexFunc_any (a : Option Addr) (n c : Nat) (bs : List Bod) (vs : Nat → List (Int × Int)) (w : World) (hR : SR Bod.enc 9 w a n c bs) (hP : Pls w bs vs) :
    Calls Try.prog 93 #[.slice a n c, .func (.func 70) #[] #[]] w fun e w' =>
      ∃ z : Int, e = .returned (.int .i64 z) ∧ (shpP bs vs → z = -1) ∧ (¬ shpP bs vs → 0 ≤ z) ∧ Below w.heap.size w w' := by
  obtain ⟨hl0, hc1, hc2, hR0⟩ := hR
  have hl := Lib.hid hl0
  have hRR := Lib.hid hR0
  have hPP := Lib.hid hP
  unfold maxLen at hc2
  clear hl0 hR0 hP
  go_enter Try.func93, Try.ntmps93
  go_upto_region 2 with fail
  go_loopw [8] (fun i wr => ∃ k : Nat, k ≤ n ∧ i = .int .i64 (k : Nat) ∧ (∀ (j : Nat) (y : Bod), j < k → bs[j]? = some y → Valid y.r (vs j)) ∧ Below w.heap.size w wr) (fun i _ => n - (intOf i).toNat)
  case atStart => exact ⟨0, Nat.zero_le _, rfl, fun j y h => absurd h (Nat.not_lt_zero _), Below.refl _ _⟩
  case round =>
    obtain ⟨k, hk, rfl, hall, hB⟩ := hrel
    have hall' := Lib.hid hall
    have hB' := Lib.hid hB
    clear hall hB
    by_cases hlt : k < n
    · obtain ⟨g, rfl, hgs, hgc⟩ := hRR.out (by omega)
      obtain ⟨b, hb⟩ : ∃ b, bs[k]? = some b := ⟨_, List.getElem?_eq_getElem (by rw [← hl.out]; exact hlt)⟩
      obtain ⟨c0, c1, c2, c3, c4, c5, c6, c7, c8⟩ := (bod_cells (hgc k b hb)).carry hB'.out
      have hb' := Lib.hid hb
      have k1 := Lib.hid (hasInvalid_any b (vs k) wr ((hPP.out k b hb).carry hB'.out))
      clear hgc hb
      by_cases hv : Valid b.r (vs k)
      · rw [pB_true hv] at k1
        have hn := Lib.hid (show ∀ (j : Nat) (y : Bod), j < k + 1 → bs[j]? = some y → Valid y.r (vs j) from fun j y hj hy => by
          rcases Nat.lt_or_ge j k with h1 | h1
          · exact hall'.out j y h1 hy
          · obtain rfl : j = k := by omega
            rw [hb'.out] at hy; cases hy; exact hv)
        clear hv
        go_wp2_with fail
        with_reducible refine (k1.out).mono ?_
        rintro e V1 ⟨rfl, hb1⟩
        have hB1 := Lib.hid (below_step hB'.out hb1)
        clear c0 c1 c2 c3 c4 c5 c6 c7 c8 hb1
        go_wp2_with fail
        go_roundw
        case rel => exact ⟨k + 1, by omega, by go_num, hn.out, hB1.out⟩
        case measure => simp [intOf]; omega
      · rw [pB_false hv] at k1
        have hn := Lib.hid (show ¬ shpP bs vs from fun h => hv (h k b hb'.out))
        clear hv
        go_wp2_with fail
        with_reducible refine (k1.out).mono ?_
        rintro e V1 ⟨rfl, hb1⟩
        have hB1 := Lib.hid (below_step hB'.out hb1)
        clear c0 c1 c2 c3 c4 c5 c6 c7 c8 hb1
        go_wp2
        go_ret
        exact ⟨_, rfl, fun h => absurd h hn.out, fun _ => by omega, hB1.out⟩
    · have hn := Lib.hid (show shpP bs vs from fun j y hy => hall'.out j y (by have := (List.getElem?_eq_some_iff.1 hy).1; have := hl.out; omega) hy)
      go_wp2
      go_ret
      exact ⟨_, rfl, fun _ => rfl, fun h => absurd hn.out h, hB'.out⟩

theorem containsFunc_any (a : Option Addr) (n c : Nat) (bs : List Bod) (vs : Nat → List (Int × Int)) (w : World) (hR : SR Bod.enc 9 w a n c bs) (hP : Pls w bs vs) :
    Calls Try.prog 69 #[.slice a n c, .func (.func 70) #[] #[]] w fun e w' => e = .returned (.bool (!pB (shpP bs vs))) ∧ Below w.heap.size w w' := by
  have k1 := Lib.hid (indexFunc_any a n c bs vs w hR hP)
  clear hR hP
  by_cases hv : shpP bs vs
  · rw [pB_true hv]
    have hv' := Lib.hid hv
    clear hv
    go_enter Try.func69, Try.ntmps69
    go_wp2_with fail
    with_reducible refine (k1.out).mono ?_
    rintro e V1 ⟨z, rfl, hz, _, hb1⟩
    obtain rfl := hz hv'.out
    go_wp2
    go_ret
    exact ⟨rfl, hb1⟩
  · rw [pB_false hv]
    have hv' := Lib.hid hv
    clear hv
    go_enter Try.func69, Try.ntmps69
    go_wp2_with fail
    with_reducible refine (k1.out).mono ?_
    rintro e V1 ⟨z, rfl, _, hz, hb1⟩
    have hz' := hz hv'.out
    have hz2 : z ≥ 0 := hz'
    clear hz
    go_wp2
    go_ret
    exact ⟨rfl, hb1⟩

/-- What Validate says. -/
noncomputable def valE (S : Su) (bs : List Bod) (vs : Nat → List (Int × Int)) (rs : List R4) (ds : List (Int × Int)) : Int :=
  if pB (shpP bs vs) = true then (if (numB S && (bodsB S bs && roomsB S rs ds)) = true then 0 else 11) else 10

set_option maxHeartbeats 4000000 in
theorem lyValidate_any (S : Su) (bs : List Bod) (vs : Nat → List (Int × Int)) (rs : List R4) (ds : List (Int × Int)) (w : World)
    (hB : SR Bod.enc 9 w S.ba S.bn S.bc bs) (hP : Pls w bs vs) (hR : SR encR 4 w S.ra S.rn S.rc rs) (hD : SR encD 2 w S.da S.dn S.dc ds) :
    Calls Try.prog 27 #[(.agg #[.int .i64 S.pl, .slice S.ba S.bn S.bc, .int .i64 S.x0, .int .i64 S.y0, .int .i64 S.x1, .int .i64 S.y1, .slice S.ra S.rn S.rc, .slice S.da S.dn S.dc, .int .i64 S.fog, .int .i64 S.gx, .int .i64 S.gy, .int .i64 S.push, .int .i64 S.drag, .int .i64 S.rest, .int .i64 S.rounds, .int .i64 S.fuel])] w fun e w' => e = .returned (.int .i64 (valE S bs vs rs ds)) ∧ Below w.heap.size w w' := by
  have hb := alloc_below w (.cells #[.int .i64 S.pl, .slice S.ba S.bn S.bc, .int .i64 S.x0, .int .i64 S.y0, .int .i64 S.x1, .int .i64 S.y1, .slice S.ra S.rn S.rc, .slice S.da S.dn S.dc, .int .i64 S.fog, .int .i64 S.gx, .int .i64 S.gy, .int .i64 S.push, .int .i64 S.drag, .int .i64 S.rest, .int .i64 S.rounds, .int .i64 S.fuel] 54)
  have hb0 := Lib.hid hb
  have hS := SuC.new w S
  have k1 := Lib.hid (containsFunc_any S.ba S.bn S.bc bs vs _ (hB.carry hb) (hP.carry hb))
  have k2 := Lib.hid (hasValidNumbers_any S)
  have k3 := Lib.hid (fun Z (hZ : Below w.heap.size w Z) => hasValidBodies_any S bs Z (hB.carry hZ))
  have k4 := Lib.hid (fun Z (hZ : Below w.heap.size w Z) => hasValidRooms_any S rs ds Z (hR.carry hZ) (hD.carry hZ))
  clear hB hP hR hD hb
  unfold valE
  generalize pB (shpP bs vs) = p1 at *
  generalize numB S = p2 at *
  generalize bodsB S bs = p3 at *
  generalize roomsB S rs ds = p4 at *
  go_enter Try.func27, Try.ntmps27
  go_upto_region 1 with fail
  have hs0 : w.heap.size < (w.alloc (.cells #[.int .i64 S.pl, .slice S.ba S.bn S.bc, .int .i64 S.x0, .int .i64 S.y0, .int .i64 S.x1, .int .i64 S.y1, .slice S.ra S.rn S.rc, .slice S.da S.dn S.dc, .int .i64 S.fog, .int .i64 S.gx, .int .i64 S.gy, .int .i64 S.push, .int .i64 S.drag, .int .i64 S.rest, .int .i64 S.rounds, .int .i64 S.fuel] 54)).heap.size := by rw [World.size_alloc]; omega
  generalize w.alloc (.cells #[.int .i64 S.pl, .slice S.ba S.bn S.bc, .int .i64 S.x0, .int .i64 S.y0, .int .i64 S.x1, .int .i64 S.y1, .slice S.ra S.rn S.rc, .slice S.da S.dn S.dc, .int .i64 S.fog, .int .i64 S.gx, .int .i64 S.gy, .int .i64 S.push, .int .i64 S.drag, .int .i64 S.rest, .int .i64 S.rounds, .int .i64 S.fuel] 54) = W at *
  have hS' := Lib.hid hS
  obtain ⟨h0, h1, ⟨h2, h3, h4, h5⟩, h6, h7, h8, h9, h10, h11, h12, h13, h14, h15⟩ := hS
  cases p1
  · go_wp2_with fail
    with_reducible refine (k1.out).mono ?_
    rintro e V1 ⟨rfl, hb1⟩
    have hB1 := Lib.hid (below_step hb0.out hb1)
    go_wp2
    go_ret
    exact ⟨rfl, hB1.out⟩
  · go_wp2_with fail
    with_reducible refine (k1.out).mono ?_
    rintro e V1 ⟨rfl, hb1⟩
    have hB1 := Lib.hid (below_step hb0.out hb1)
    have hS1 := Lib.hid (hS'.out.carry hb1)
    have hs1 := Nat.lt_of_lt_of_le hs0 hb1.size
    clear h0 h1 h2 h3 h4 h5 h6 h7 h8 h9 h10 h11 h12 h13 h14 h15 hb1
    obtain ⟨h0, h1, ⟨h2, h3, h4, h5⟩, h6, h7, h8, h9, h10, h11, h12, h13, h14, h15⟩ := hS1.out
    go_wp2_with fail
    with_reducible refine (k2.out _).mono ?_
    rintro e V2 ⟨rfl, hb2⟩
    have hB2 := Lib.hid (below_step hB1.out hb2)
    have hS2 := Lib.hid (hS1.out.carry hb2)
    have hs2 := Nat.lt_of_lt_of_le hs1 hb2.size
    clear h0 h1 h2 h3 h4 h5 h6 h7 h8 h9 h10 h11 h12 h13 h14 h15 hb2
    obtain ⟨h0, h1, ⟨h2, h3, h4, h5⟩, h6, h7, h8, h9, h10, h11, h12, h13, h14, h15⟩ := hS2.out
    cases p2
    · go_wp2
      go_ret
      exact ⟨rfl, hB2.out⟩
    · go_wp2_with fail
      with_reducible refine (k3.out _ hB2.out).mono ?_
      rintro e V3 ⟨rfl, hb3⟩
      have hB3 := Lib.hid (below_step hB2.out hb3)
      have hS3 := Lib.hid (hS2.out.carry hb3)
      have hs3 := Nat.lt_of_lt_of_le hs2 hb3.size
      clear h0 h1 h2 h3 h4 h5 h6 h7 h8 h9 h10 h11 h12 h13 h14 h15 hb3
      obtain ⟨h0, h1, ⟨h2, h3, h4, h5⟩, h6, h7, h8, h9, h10, h11, h12, h13, h14, h15⟩ := hS3.out
      cases p3
      · go_wp2
        go_ret
        exact ⟨rfl, hB3.out⟩
      · go_wp2_with fail
        with_reducible refine (k4.out _ hB3.out).mono ?_
        rintro e V4 ⟨rfl, hb4⟩
        have hB4 := Lib.hid (below_step hB3.out hb4)
        cases p4
        · go_wp2
          go_ret
          exact ⟨rfl, hB4.out⟩
        · go_wp2
          go_ret
          exact ⟨rfl, hB4.out⟩
end Go.Proofs.Ytknjdkgemkmoeaa
