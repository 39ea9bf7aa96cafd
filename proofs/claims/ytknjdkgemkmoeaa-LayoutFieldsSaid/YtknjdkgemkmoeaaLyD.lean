/- Package layout: the rooms and the doors of a setup, its shapes. -/
import Derived.Test.YtknjdkgemkmoeaaLyC
namespace Go.Proofs.Ytknjdkgemkmoeaa
open Go.ChangeShapes Go.WideShapes Go.ChangeAt Go.RowKit
set_option linter.unusedSimpArgs false
set_option linter.unusedVariables false

def idxB (i n : Int) : Bool := decide (0 ≤ i) && decide (i < n)
def doorB (n : Nat) (d : Int × Int) : Bool := !(d.1 == d.2) && (idxB d.1 n && idxB d.2 n)
def roomB (r : R4) : Bool := prpB r.1 r.2.1 r.2.2.1 r.2.2.2
def roomsB (S : Su) (rs : List R4) (ds : List (Int × Int)) : Bool := (decide (S.rn ≤ 8) && decide (S.dn ≤ 16)) && (rs.all roomB && ds.all (doorB S.rn))

set_option maxHeartbeats 8000000 in
theorem hasValidRooms_any (S : Su) (rs : List R4) (ds : List (Int × Int)) (w : World) (hR : SR encR 4 w S.ra S.rn S.rc rs) (hD : SR encD 2 w S.da S.dn S.dc ds) :
    Calls Try.prog 73 #[(.agg #[.int .i64 S.pl, .slice S.ba S.bn S.bc, .int .i64 S.x0, .int .i64 S.y0, .int .i64 S.x1, .int .i64 S.y1, .slice S.ra S.rn S.rc, .slice S.da S.dn S.dc, .int .i64 S.fog, .int .i64 S.gx, .int .i64 S.gy, .int .i64 S.push, .int .i64 S.drag, .int .i64 S.rest, .int .i64 S.rounds, .int .i64 S.fuel])] w fun e w' => e = .returned (.bool (roomsB S rs ds)) ∧ Below w.heap.size w w' := by
  have hb0 := Lib.hid (alloc_below w (.cells #[.int .i64 S.pl, .slice S.ba S.bn S.bc, .int .i64 S.x0, .int .i64 S.y0, .int .i64 S.x1, .int .i64 S.y1, .slice S.ra S.rn S.rc, .slice S.da S.dn S.dc, .int .i64 S.fog, .int .i64 S.gx, .int .i64 S.gy, .int .i64 S.push, .int .i64 S.drag, .int .i64 S.rest, .int .i64 S.rounds, .int .i64 S.fuel] 54))
  have hS := SuC.new w S
  have hl := Lib.hid hR.1
  have hc1 := hR.2.1
  have hc2 := hR.2.2.1
  have hm := Lib.hid hD.1
  have hd1 := hD.2.1
  have hd2 := hD.2.2.1
  unfold maxLen at hc2 hd2
  have hRR := Lib.hid hR.2.2.2
  have hDD := Lib.hid hD.2.2.2
  clear hR hD
  go_enter Try.func73, Try.ntmps73
  go_upto_region 1 with fail
  have hS' := Lib.hid hS
  have hs0 : w.heap.size < (w.alloc (.cells #[.int .i64 S.pl, .slice S.ba S.bn S.bc, .int .i64 S.x0, .int .i64 S.y0, .int .i64 S.x1, .int .i64 S.y1, .slice S.ra S.rn S.rc, .slice S.da S.dn S.dc, .int .i64 S.fog, .int .i64 S.gx, .int .i64 S.gy, .int .i64 S.push, .int .i64 S.drag, .int .i64 S.rest, .int .i64 S.rounds, .int .i64 S.fuel] 54)).heap.size := by rw [World.size_alloc]; omega
  generalize w.alloc (.cells #[.int .i64 S.pl, .slice S.ba S.bn S.bc, .int .i64 S.x0, .int .i64 S.y0, .int .i64 S.x1, .int .i64 S.y1, .slice S.ra S.rn S.rc, .slice S.da S.dn S.dc, .int .i64 S.fog, .int .i64 S.gx, .int .i64 S.gy, .int .i64 S.push, .int .i64 S.drag, .int .i64 S.rest, .int .i64 S.rounds, .int .i64 S.fuel] 54) = W at *
  obtain ⟨-, -, -, h6, h7, -⟩ := hS
  by_cases g1 : S.rn ≤ 8
  case neg =>
    have e1 : (S.rn : Int) > 8 := by omega
    have hp := Lib.hid (show roomsB S rs ds = false from by unfold roomsB; rw [decide_eq_false g1]; rfl)
    go_wp2
    go_ret
    exact ⟨by rw [hp.out]; rfl, hb0.out⟩
  have e1 : ¬ (S.rn : Int) > 8 := by omega
  by_cases g2 : S.dn ≤ 16
  case neg =>
    have e2 : (S.dn : Int) > 16 := by omega
    have hp := Lib.hid (show roomsB S rs ds = false from by unfold roomsB; rw [decide_eq_false g2]; simp)
    go_wp2
    go_ret
    exact ⟨by rw [hp.out]; rfl, hb0.out⟩
  have e2 : ¬ (S.dn : Int) > 16 := by omega
  have hp := Lib.hid (show roomsB S rs ds = (rs.all roomB && ds.all (doorB S.rn)) from by unfold roomsB; rw [decide_eq_true g1, decide_eq_true g2]; rfl)
  go_upto_region 4 with fail
  clear h6 h7 e1 e2
  go_loopw [20] (fun i wr => ∃ k : Nat, k ≤ S.rn ∧ i = .int .i64 (k : Nat) ∧ (∀ (j : Nat) (y : R4), j < k → rs[j]? = some y → roomB y = true) ∧ Below W.heap.size W wr) (fun i _ => S.rn - (intOf i).toNat)
  case atStart => exact ⟨0, Nat.zero_le _, rfl, fun j y h => absurd h (Nat.not_lt_zero _), Below.refl _ _⟩
  case round =>
    obtain ⟨k, hk, rfl, hall, hB⟩ := hrel
    have hall' := Lib.hid hall
    have hB' := Lib.hid hB
    clear hall hB
    by_cases hlt : k < S.rn
    · obtain ⟨g, hg, hgs, hgc⟩ := hRR.out (by omega)
      obtain ⟨r, hr⟩ : ∃ r, rs[k]? = some r := ⟨_, List.getElem?_eq_getElem (by rw [← hl.out]; exact hlt)⟩
      have cb := below_step hb0.out hB'.out
      have c0 := carry cb (hgc k r hr 0 _ rfl)
      have c1 := carry cb (hgc k r hr 1 _ rfl)
      have c2 := carry cb (hgc k r hr 2 _ rfl)
      have c3 := carry cb (hgc k r hr 3 _ rfl)
      have hb' := Lib.hid hr
      have k1 := Lib.hid (isProper_any r.1 r.2.1 r.2.2.1 r.2.2.2)
      have hno := Lib.hid (fun h : roomB r = false => hp.out.trans (by rw [all_no hb'.out h, Bool.false_and]))
      have hye := Lib.hid (fun h : roomB r = true => all_snoc hb'.out hall'.out h)
      unfold roomB at hno hye
      generalize prpB r.1 r.2.1 r.2.2.1 r.2.2.2 = p at *
      have hbd := Lib.hid (below_step cb (alloc_below wr (.cells #[.int .i64 r.1, .int .i64 r.2.1, .int .i64 r.2.2.1, .int .i64 r.2.2.2] 48)))
      have hbw := Lib.hid (below_step hB'.out (alloc_below wr (.cells #[.int .i64 r.1, .int .i64 r.2.1, .int .i64 r.2.2.1, .int .i64 r.2.2.2] 48)))
      simp only [Nat.add_zero] at c0
      rw [hg]
      clear hgc hr hg cb
      go_wp2_with fail
      with_reducible refine (k1.out _).mono ?_
      rintro e V1 ⟨rfl, hb1⟩
      have hB1 := Lib.hid (below_step hbd.out hb1)
      have hW1 := Lib.hid (below_step hbw.out hb1)
      clear c0 c1 c2 c3 hb1
      cases p
      · have hn := Lib.hid (hno.out rfl)
        go_wp2
        go_ret
        exact ⟨by rw [hn.out]; rfl, hB1.out⟩
      · have hn := Lib.hid (hye.out (by simp))
        go_wp2_with fail
        go_roundw
        case rel => exact ⟨k + 1, by omega, by go_num, hn.out, hW1.out⟩
        case measure => simp [intOf]; omega
    · have hp2 := Lib.hid (show roomsB S rs ds = ds.all (doorB S.rn) from by rw [hp.out, all_yes (n := S.rn) hl.out fun j y hj hy => hall'.out j y (by omega) hy]; rfl)
      obtain ⟨W2, hW2⟩ : ∃ V, V = wr := ⟨wr, rfl⟩
      subst hW2
      obtain ⟨-, -, -, h6, h7, -⟩ := (hS'.out.carry hB'.out)
      have hs2 := Nat.lt_of_lt_of_le hs0 hB'.out.size
      go_upto_region 10 with fail
      clear h6 h7
      go_loopw [31] (fun i wr => ∃ k : Nat, k ≤ S.dn ∧ i = .int .i64 (k : Nat) ∧ (∀ (j : Nat) (y : Int × Int), j < k → ds[j]? = some y → doorB S.rn y = true) ∧ Below W.heap.size W wr) (fun i _ => S.dn - (intOf i).toNat)
      case atStart => exact ⟨0, Nat.zero_le _, rfl, fun j y h => absurd h (Nat.not_lt_zero _), hB'.out⟩
      case round =>
        obtain ⟨k, hk, rfl, hall, hB⟩ := hrel
        have hall' := Lib.hid hall
        have hB' := Lib.hid hB
        clear hall hB
        by_cases hlt : k < S.dn
        · obtain ⟨g, hg, hgs, hgc⟩ := hDD.out (by omega)
          obtain ⟨d, hd⟩ : ∃ r, ds[k]? = some r := ⟨_, List.getElem?_eq_getElem (by rw [← hm.out]; exact hlt)⟩
          have cb := below_step hb0.out hB'.out
          have c0 := carry cb (hgc k d hd 0 _ rfl)
          have c1 := carry cb (hgc k d hd 1 _ rfl)
          have hb' := Lib.hid hd
          have k1 := Lib.hid (isIndex_any d.1 (S.rn : Int))
          have k2 := Lib.hid (isIndex_any d.2 (S.rn : Int))
          have hno := Lib.hid (fun h : doorB S.rn d = false => hp2.out.trans (all_no hb'.out h))
          have hye := Lib.hid (fun h : doorB S.rn d = true => all_snoc hb'.out hall'.out h)
          unfold doorB idxB at hno hye
          generalize (decide (0 ≤ d.1) && decide (d.1 < (S.rn : Int))) = p1 at *
          generalize (decide (0 ≤ d.2) && decide (d.2 < (S.rn : Int))) = p2 at *
          have hbd := Lib.hid (below_step cb (alloc_below wr (.cells #[.int .i64 d.1, .int .i64 d.2] 113)))
          have hbw := Lib.hid (below_step hB'.out (alloc_below wr (.cells #[.int .i64 d.1, .int .i64 d.2] 113)))
          have h6 := carry (alloc_below wr (.cells #[.int .i64 d.1, .int .i64 d.2] 113)) (hS'.out.carry hB'.out).2.2.2.1
          have hs3 := Nat.lt_of_lt_of_le hs0 hB'.out.size
          simp only [Nat.add_zero] at c0
          rw [hg]
          clear hgc hd hg cb
          by_cases he : d.1 = d.2
          · have hn := Lib.hid (hno.out (by rw [he]; simp))
            have he' : (d.1 == d.2) = true := by simpa using he
            clear he
            go_wp2
            go_ret
            exact ⟨by rw [hn.out]; rfl, hbd.out⟩
          · have he' : (d.1 == d.2) = false := by simpa using he
            cases p1
            · have hn := Lib.hid (hno.out (by simp))
              go_wp2_with fail
              with_reducible refine (k1.out _).mono ?_
              rintro e V1 ⟨rfl, rfl⟩
              go_wp2
              go_ret
              exact ⟨by rw [hn.out]; rfl, hbd.out⟩
            · cases p2
              · have hn := Lib.hid (hno.out (by simp))
                go_wp2_with fail
                with_reducible refine (k1.out _).mono ?_
                rintro e V1 ⟨rfl, rfl⟩
                go_wp2_with fail
                with_reducible refine (k2.out _).mono ?_
                rintro e V1 ⟨rfl, rfl⟩
                go_wp2
                go_ret
                exact ⟨by rw [hn.out]; rfl, hbd.out⟩
              · have hn := Lib.hid (hye.out (by rw [he']; rfl))
                go_wp2_with fail
                with_reducible refine (k1.out _).mono ?_
                rintro e V1 ⟨rfl, rfl⟩
                go_wp2_with fail
                with_reducible refine (k2.out _).mono ?_
                rintro e V1 ⟨rfl, rfl⟩
                go_wp2_with fail
                go_roundw
                case rel => exact ⟨k + 1, by omega, by go_num, hn.out, hbw.out⟩
                case measure => simp [intOf]; omega
        · have hn := Lib.hid (hp2.out.trans (all_yes (n := S.dn) hm.out fun j y hj hy => hall'.out j y (by omega) hy))
          have hBz := Lib.hid (below_step hb0.out hB'.out)
          go_wp2
          go_ret
          exact ⟨by rw [hn.out]; rfl, hBz.out⟩

/-- The bodies' polygons lie in the memory. -/
def Pls (w : World) (bs : List Bod) (vs : Nat → List (Int × Int)) : Prop := ∀ (k : Nat) (b : Bod), bs[k]? = some b → Poly w (.slice b.pa b.pn b.pc) (vs k)
theorem Pls.carry {w w' : World} {bs : List Bod} {vs : Nat → List (Int × Int)} (h : Pls w bs vs) (hb : Below w.heap.size w w') : Pls w' bs vs := fun k b hk => (h k b hk).carry hb
def shpP (bs : List Bod) (vs : Nat → List (Int × Int)) : Prop := ∀ (k : Nat) (b : Bod), bs[k]? = some b → Valid b.r (vs k)

theorem hasInvalid_any (b : Bod) (vs : List (Int × Int)) (w : World) (hP : Poly w (.slice b.pa b.pn b.pc) vs) :
    Calls Try.prog 70 #[.agg #[.int .i64 b.r, .slice b.pa b.pn b.pc, .int .i64 b.x, .int .i64 b.y, .int .i64 b.vx, .int .i64 b.vy, .int .i64 b.im, .int .i64 b.a, .int .i64 b.b]] w fun e w' => e = .returned (.bool (!pB (Valid b.r vs))) ∧ Below w.heap.size w w' := by
  have hbx := alloc_below w (.cells #[.int .i64 b.r, .slice b.pa b.pn b.pc, .int .i64 b.x, .int .i64 b.y, .int .i64 b.vx, .int .i64 b.vy, .int .i64 b.im, .int .i64 b.a, .int .i64 b.b] 74)
  have k1 := Lib.hid (validate_any b.r _ vs _ (hP.carry hbx))
  have hb0 := Lib.hid hbx
  clear hbx hP
  generalize pB (Valid b.r vs) = p at *
  cases p
  · go_enter Try.func70, Try.ntmps70
    go_wp2_with fail
    with_reducible refine (k1.out).mono ?_
    rintro e V1 ⟨rfl, hb1⟩
    have hB := Lib.hid (below_step hb0.out hb1)
    go_wp2
    go_ret
    exact ⟨rfl, hB.out⟩
  · go_enter Try.func70, Try.ntmps70
    go_wp2_with fail
    with_reducible refine (k1.out).mono ?_
    rintro e V1 ⟨rfl, hb1⟩
    have hB := Lib.hid (below_step hb0.out hb1)
    go_wp2
    go_ret
    exact ⟨rfl, hB.out⟩
end Go.Proofs.Ytknjdkgemkmoeaa
