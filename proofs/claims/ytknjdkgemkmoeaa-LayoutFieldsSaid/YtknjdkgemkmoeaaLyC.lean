/- Package layout: the bodies of a setup. -/
import Derived.Test.YtknjdkgemkmoeaaLyB
namespace Go.Proofs.Ytknjdkgemkmoeaa
open Go.ChangeShapes Go.WideShapes Go.ChangeAt Go.RowKit
set_option linter.unusedSimpArgs false
set_option linter.unusedVariables false

theorem Bod.c0 (b : Bod) : b.enc[0]? = some (.int .i64 b.r) := rfl
/-- A body's cells in a row. -/
def BodC (w : World) (g o : Nat) (b : Bod) : Prop :=
  w.cell? ⟨g, o, none⟩ = some (.int .i64 b.r) ∧ w.cell? ⟨g, o + 1, none⟩ = some (.slice b.pa b.pn b.pc) ∧ w.cell? ⟨g, o + 2, none⟩ = some (.int .i64 b.x) ∧ w.cell? ⟨g, o + 3, none⟩ = some (.int .i64 b.y) ∧
  w.cell? ⟨g, o + 4, none⟩ = some (.int .i64 b.vx) ∧ w.cell? ⟨g, o + 5, none⟩ = some (.int .i64 b.vy) ∧ w.cell? ⟨g, o + 6, none⟩ = some (.int .i64 b.im) ∧ w.cell? ⟨g, o + 7, none⟩ = some (.int .i64 b.a) ∧ w.cell? ⟨g, o + 8, none⟩ = some (.int .i64 b.b)
theorem bod_cells {w : World} {g k : Nat} {b : Bod} (h : ∀ (j : Nat) (u : Value), (b.enc)[j]? = some u → w.cell? ⟨g, k * 9 + j, none⟩ = some u) : BodC w g (k * 9) b :=
  ⟨h 0 _ rfl, h 1 _ rfl, h 2 _ rfl, h 3 _ rfl, h 4 _ rfl, h 5 _ rfl, h 6 _ rfl, h 7 _ rfl, h 8 _ rfl⟩
theorem BodC.carry {w w' : World} {g o : Nat} {b : Bod} (h : BodC w g o b) (hb : Below w.heap.size w w') : BodC w' g o b := by
  obtain ⟨h0, h1, h2, h3, h4, h5, h6, h7, h8⟩ := h
  have c := fun {p : Addr} {v : Value} (h : w.cell? p = some v) => Proofs.Ytknjdkgemkmoeaa.carry hb h
  exact ⟨c h0, c h1, c h2, c h3, c h4, c h5, c h6, c h7, c h8⟩
theorem BodC.new (w : World) (b : Bod) : BodC (w.alloc (.cells #[.int .i64 b.r, .slice b.pa b.pn b.pc, .int .i64 b.x, .int .i64 b.y, .int .i64 b.vx, .int .i64 b.vy, .int .i64 b.im, .int .i64 b.a, .int .i64 b.b] 74)) w.heap.size 0 b := by
  unfold BodC
  simp only [World.cell?_alloc_new]
  exact ⟨rfl, rfl, rfl, rfl, rfl, rfl, rfl, rfl, rfl⟩

set_option maxHeartbeats 8000000 in
theorem hasValidBodies_any (S : Su) (bs : List Bod) (w : World) (hR : SR Bod.enc 9 w S.ba S.bn S.bc bs) : Calls Try.prog 72 #[(.agg #[.int .i64 S.pl, .slice S.ba S.bn S.bc, .int .i64 S.x0, .int .i64 S.y0, .int .i64 S.x1, .int .i64 S.y1, .slice S.ra S.rn S.rc, .slice S.da S.dn S.dc, .int .i64 S.fog, .int .i64 S.gx, .int .i64 S.gy, .int .i64 S.push, .int .i64 S.drag, .int .i64 S.rest, .int .i64 S.rounds, .int .i64 S.fuel])] w fun e w' => e = .returned (.bool (bodsB S bs)) ∧ Below w.heap.size w w' := by
  have hb0 := Lib.hid (alloc_below w (.cells #[.int .i64 S.pl, .slice S.ba S.bn S.bc, .int .i64 S.x0, .int .i64 S.y0, .int .i64 S.x1, .int .i64 S.y1, .slice S.ra S.rn S.rc, .slice S.da S.dn S.dc, .int .i64 S.fog, .int .i64 S.gx, .int .i64 S.gy, .int .i64 S.push, .int .i64 S.drag, .int .i64 S.rest, .int .i64 S.rounds, .int .i64 S.fuel] 54))
  have hS := SuC.new w S
  have k1 := Lib.hid (between_any S.pl 1 8)
  have k2 := Lib.hid (between_any (S.bn : Int) S.pl 24)
  have k3 := Lib.hid (isProper_any S.x0 S.y0 S.x1 S.y1)
  have hl := Lib.hid hR.1
  have hc1 := hR.2.1
  have hc2 := hR.2.2.1
  unfold maxLen at hc2
  have hRR := Lib.hid hR.2.2.2
  have hpost : ∀ (v : Bool), headB S = v → (v = false → bodsB S bs = false) ∧ (v = true → bodsB S bs = bs.all (bodyB S)) := fun v hv => ⟨fun e => by unfold bodsB; rw [hv, e]; rfl, fun e => by unfold bodsB; rw [hv, e]; rfl⟩
  have hpost' := Lib.hid hpost
  clear hR hpost
  unfold headB at hpost'
  generalize btw S.pl 1 8 = p1 at *
  generalize btw (S.bn : Int) S.pl 24 = p2 at *
  generalize prpB S.x0 S.y0 S.x1 S.y1 = p3 at *
  go_enter Try.func72, Try.ntmps72
  go_upto_region 1 with fail
  have hS' := Lib.hid hS
  have hs0 : w.heap.size < (w.alloc (.cells #[.int .i64 S.pl, .slice S.ba S.bn S.bc, .int .i64 S.x0, .int .i64 S.y0, .int .i64 S.x1, .int .i64 S.y1, .slice S.ra S.rn S.rc, .slice S.da S.dn S.dc, .int .i64 S.fog, .int .i64 S.gx, .int .i64 S.gy, .int .i64 S.push, .int .i64 S.drag, .int .i64 S.rest, .int .i64 S.rounds, .int .i64 S.fuel] 54)).heap.size := by rw [World.size_alloc]; omega
  generalize w.alloc (.cells #[.int .i64 S.pl, .slice S.ba S.bn S.bc, .int .i64 S.x0, .int .i64 S.y0, .int .i64 S.x1, .int .i64 S.y1, .slice S.ra S.rn S.rc, .slice S.da S.dn S.dc, .int .i64 S.fog, .int .i64 S.gx, .int .i64 S.gy, .int .i64 S.push, .int .i64 S.drag, .int .i64 S.rest, .int .i64 S.rounds, .int .i64 S.fuel] 54) = W at *
  obtain ⟨h0, h1, ⟨h2, h3, h4, h5⟩, -⟩ := hS
  cases p1
  · have hp := Lib.hid ((hpost'.out _ rfl).1 rfl)
    go_wp2_with fail
    with_reducible refine (k1.out _).mono ?_
    rintro e w1 ⟨rfl, rfl⟩
    go_wp2
    go_ret
    exact ⟨by rw [hp.out]; rfl, hb0.out⟩
  · cases p2
    · have hp := Lib.hid ((hpost'.out _ rfl).1 rfl)
      go_wp2_with fail
      with_reducible refine (k1.out _).mono ?_
      rintro e w1 ⟨rfl, rfl⟩
      go_wp2_with fail
      with_reducible refine (k2.out _).mono ?_
      rintro e w1 ⟨rfl, rfl⟩
      go_wp2
      go_ret
      exact ⟨by rw [hp.out]; rfl, hb0.out⟩
    · go_wp2_with fail
      with_reducible refine (k1.out _).mono ?_
      rintro e w1 ⟨rfl, rfl⟩
      go_wp2_with fail
      with_reducible refine (k2.out _).mono ?_
      rintro e w1 ⟨rfl, rfl⟩
      go_wp2_with fail
      with_reducible refine (k3.out _).mono ?_
      rintro e W2 ⟨rfl, hb2⟩
      have hB2 := Lib.hid (below_step hb0.out hb2)
      have hS2 := Lib.hid (hS'.out.carry hb2)
      have hs2 := Nat.lt_of_lt_of_le hs0 hb2.size
      clear h0 h1 h2 h3 h4 h5 hb2 k1 k2 k3 hS' hs0
      cases p3
      · have hp := Lib.hid ((hpost'.out _ rfl).1 rfl)
        go_wp2
        go_ret
        exact ⟨by rw [hp.out]; rfl, hB2.out⟩
      · have hp := Lib.hid ((hpost'.out _ rfl).2 rfl)
        have h1 := hS2.out.2.1
        clear hpost'
        go_wp2_with fail
        go_loopw [27] (fun i wr => ∃ k : Nat, k ≤ S.bn ∧ i = .int .i64 (k : Nat) ∧ (∀ (j : Nat) (y : Bod), j < k → bs[j]? = some y → bodyB S y = true) ∧ Below W2.heap.size W2 wr) (fun i _ => S.bn - (intOf i).toNat)
        case atStart => exact ⟨0, Nat.zero_le _, rfl, fun j y h => absurd h (Nat.not_lt_zero _), Below.refl _ _⟩
        case round =>
          obtain ⟨k, hk, rfl, hall, hB⟩ := hrel
          have hall' := Lib.hid hall
          have hB' := Lib.hid hB
          clear hall hB h1
          by_cases hlt : k < S.bn
          · obtain ⟨g, hg, hgs, hgc⟩ := hRR.out (by omega)
            obtain ⟨b, hb⟩ : ∃ b, bs[k]? = some b := ⟨_, List.getElem?_eq_getElem (by rw [← hl.out]; exact hlt)⟩
            have hC := (bod_cells (hgc k b hb)).carry (below_step hB2.out hB'.out)
            obtain ⟨c0, c1, c2, c3, c4, c5, c6, c7, c8⟩ := hC
            have hS3 := Lib.hid (hS2.out.carry hB'.out)
            obtain ⟨h0, h1, ⟨h2, h3, h4, h5⟩, -⟩ := hS3.out
            have hzr := Nat.lt_of_lt_of_le hs2 hB'.out.size
            have hb' := Lib.hid hb
            have k1 := Lib.hid (isInside_any b.x b.y S.x0 S.y0 S.x1 S.y1)
            have k2 := Lib.hid (isWithin_any b.vx b.vy)
            have k3 := Lib.hid (between_any b.im 0 4096)
            have k4 := Lib.hid (between_any b.a (-2147483647) 2147483647)
            have k5 := Lib.hid (between_any b.b (-2147483647) 2147483647)
            have hno := Lib.hid (fun h : bodyB S b = false => hp.out.trans (all_no hb'.out h))
            have hye := Lib.hid (fun h : bodyB S b = true => all_snoc hb'.out hall'.out h)
            have hf1 := Lib.hid (fun h : insB b.x b.y S.x0 S.y0 S.x1 S.y1 = false => show bodyB S b = false from by unfold bodyB; rw [h]; rfl)
            have hf2 := Lib.hid (fun h : wthB b.vx b.vy = false => show bodyB S b = false from by unfold bodyB; rw [h]; simp)
            have hf3 := Lib.hid (fun h : btw b.im 0 4096 = false => show bodyB S b = false from by unfold bodyB; rw [h]; simp)
            have hf4 := Lib.hid (fun h : btw b.a (-2147483647) 2147483647 = false => show bodyB S b = false from by unfold bodyB; rw [h]; simp)
            have hf5 := Lib.hid (fun h : btw b.b (-2147483647) 2147483647 = false => show bodyB S b = false from by unfold bodyB; rw [h]; simp)
            have hf6 := Lib.hid (fun (a1 : insB b.x b.y S.x0 S.y0 S.x1 S.y1 = true) (a2 : wthB b.vx b.vy = true) (a3 : btw b.im 0 4096 = true) (a4 : btw b.a (-2147483647) 2147483647 = true) (a5 : btw b.b (-2147483647) 2147483647 = true) => show bodyB S b = true from by unfold bodyB; rw [a1, a2, a3, a4, a5]; rfl)
            generalize insB b.x b.y S.x0 S.y0 S.x1 S.y1 = p1 at *
            generalize wthB b.vx b.vy = p2 at *
            generalize btw b.im 0 4096 = p3 at *
            generalize btw b.a (-2147483647) 2147483647 = p4 at *
            generalize btw b.b (-2147483647) 2147483647 = p5 at *
            have hbd := Lib.hid (below_step (below_step hB2.out hB'.out) (alloc_below wr (.cells #[.int .i64 b.r, .slice b.pa b.pn b.pc, .int .i64 b.x, .int .i64 b.y, .int .i64 b.vx, .int .i64 b.vy, .int .i64 b.im, .int .i64 b.a, .int .i64 b.b] 74)))
            have hbw := Lib.hid (below_step hB'.out (alloc_below wr (.cells #[.int .i64 b.r, .slice b.pa b.pn b.pc, .int .i64 b.x, .int .i64 b.y, .int .i64 b.vx, .int .i64 b.vy, .int .i64 b.im, .int .i64 b.a, .int .i64 b.b] 74)))
            have hnw := Lib.hid (BodC.new wr b)
            have hSn := Lib.hid (hS3.out.carry (alloc_below wr (.cells #[.int .i64 b.r, .slice b.pa b.pn b.pc, .int .i64 b.x, .int .i64 b.y, .int .i64 b.vx, .int .i64 b.vy, .int .i64 b.im, .int .i64 b.a, .int .i64 b.b] 74)))
            rw [hg]
            clear hgc hb hg
            go_upto_region 6 with fail
            clear c0 c1 c2 c3 c4 c5 c6 c7 c8 h0 h1 h2 h3 h4 h5
            obtain ⟨c0, c1, c2, c3, c4, c5, c6, c7, c8⟩ := hnw.out
            obtain ⟨h0, h1, ⟨h2, h3, h4, h5⟩, -⟩ := hSn.out
            have hsz : wr.heap.size < (wr.alloc (.cells #[.int .i64 b.r, .slice b.pa b.pn b.pc, .int .i64 b.x, .int .i64 b.y, .int .i64 b.vx, .int .i64 b.vy, .int .i64 b.im, .int .i64 b.a, .int .i64 b.b] 74)).heap.size := by rw [World.size_alloc]; omega
            generalize wr.alloc (.cells #[.int .i64 b.r, .slice b.pa b.pn b.pc, .int .i64 b.x, .int .i64 b.y, .int .i64 b.vx, .int .i64 b.vy, .int .i64 b.im, .int .i64 b.a, .int .i64 b.b] 74) = V at *
            simp only [Nat.zero_add] at c1 c2 c3 c4 c5 c6 c7 c8
            clear hnw hSn hS3 hB' hp
            go_wp2_with fail
            with_reducible refine (k1.out _).mono ?_
            rintro e V1 ⟨rfl, hb1⟩
            have hB1 := Lib.hid (below_step hbd.out hb1)
            have hW1 := Lib.hid (below_step hbw.out hb1)
            cases p1
            · have hn := Lib.hid (hno.out (hf1.out rfl))
              go_wp2
              go_ret
              exact ⟨by rw [hn.out]; rfl, hB1.out⟩
            · have d4 := carry hb1 c4
              have d5 := carry hb1 c5
              have d6 := carry hb1 c6
              have d7 := carry hb1 c7
              have d8 := carry hb1 c8
              have hsz := Nat.lt_of_lt_of_le hsz hb1.size
              clear c0 c1 c2 c3 c4 c5 c6 c7 c8 h0 h1 h2 h3 h4 h5 hb1
              go_wp2_with fail
              with_reducible refine (k2.out _).mono ?_
              rintro e V2 ⟨rfl, hb2⟩
              have hB2 := Lib.hid (below_step hB1.out hb2)
              have hW2 := Lib.hid (below_step hW1.out hb2)
              cases p2
              · have hn := Lib.hid (hno.out (hf2.out rfl))
                go_wp2
                go_ret
                exact ⟨by rw [hn.out]; rfl, hB2.out⟩
              · have c6 := carry hb2 d6
                have c7 := carry hb2 d7
                have c8 := carry hb2 d8
                have hsz := Nat.lt_of_lt_of_le hsz hb2.size
                clear d4 d5 d6 d7 d8 hb2
                go_wp2_with fail
                with_reducible refine (k3.out _).mono ?_
                rintro e V3 ⟨rfl, rfl⟩
                cases p3
                · have hn := Lib.hid (hno.out (hf3.out rfl))
                  go_wp2
                  go_ret
                  exact ⟨by rw [hn.out]; rfl, hB2.out⟩
                · go_wp2_with fail
                  with_reducible refine (k4.out _).mono ?_
                  rintro e V4 ⟨rfl, rfl⟩
                  cases p4
                  · have hn := Lib.hid (hno.out (hf4.out rfl))
                    go_wp2
                    go_ret
                    exact ⟨by rw [hn.out]; rfl, hB2.out⟩
                  · go_wp2_with fail
                    with_reducible refine (k5.out _).mono ?_
                    rintro e V5 ⟨rfl, rfl⟩
                    cases p5
                    · have hn := Lib.hid (hno.out (hf5.out rfl))
                      go_wp2
                      go_ret
                      exact ⟨by rw [hn.out]; rfl, hB2.out⟩
                    · have hn := Lib.hid (hye.out (hf6.out (by simp) (by simp) (by simp) (by simp) (by simp)))
                      go_wp2_with fail
                      go_roundw
                      case rel => exact ⟨k + 1, by omega, by go_num, hn.out, hW2.out⟩
                      case measure => simp [intOf]; omega
          · have hn := Lib.hid (hp.out.trans (all_yes (n := S.bn) hl.out fun j y hj hy => hall'.out j y (by omega) hy))
            have hBz := Lib.hid (below_step hB2.out hB'.out)
            go_wp2
            go_ret
            exact ⟨by rw [hn.out]; rfl, hBz.out⟩
end Go.Proofs.Ytknjdkgemkmoeaa
