/- The reference's Bounds; the law's own helpers near and axis. -/
import Derived.Test.YtfbgghkkgmgnjaaShapeG
import Derived.Test.YtfbgghkkgmgnjaaShapeD
namespace Go.Proofs.Ytfbgghkkgmgnjaa
open Go.ChangeShapes Go.WideShapes Go.ChangeAt Go.RowKit
open Fxm
set_option linter.unusedSimpArgs false
set_option linter.unusedVariables false

theorem refBoundsC_any (r q0 q1 : Int) (w : World) (hr : 0 ≤ r ∧ r ≤ 32768) (h0 : Bp q0) (h1 : Bp q1) :
    Calls Try.prog 38 #[.agg #[.int .i64 r, .slice none 0 0], .agg #[.int .i64 q0, .int .i64 q1]] w fun e w' => e = .returned (.agg #[.int .i64 (q0 - r), .int .i64 (q1 - r), .int .i64 (q0 + r), .int .i64 (q1 + r)]) ∧ Below w.heap.size w w' := by
  unfold Bp at h0 h1
  go_enter Try.func38, Try.ntmps38
  go_wp2
  refine bodyPost_ret (v := .agg #[.int .i64 (q0 - r), .int .i64 (q1 - r), .int .i64 (q0 + r), .int .i64 (q1 + r)]) (by simp [results, Try.results38, go_sem]) rfl ⟨rfl, ?_⟩
  repeat (first | exact Below.refl _ _ | (refine Below.setCell ?_ (by first | (simp; done) | (simp; omega) | omega) _) | (refine Below.alloc ?_ (by first | exact Nat.le_refl _ | (simp; done) | (simp; omega) | omega) _) | refine Below.drew ?_ | (refine Below.trans ?_ ((hb _).mono (by first | (simp; done) | (simp; omega) | omega))) | (refine Below.trans ?_ (hb1.mono (by first | (simp; done) | (simp; omega) | omega))))

theorem min_i (x y : Int) : (if y < x then y else x) = min x y := by split <;> omega
set_option maxRecDepth 100000 in
set_option maxHeartbeats 4000000 in
theorem refBounds_any (q0 q1 : Int) (g cap : Nat) (vs : List (Int × Int)) (w : World) (hR : Row w g cap vs) (hl : 3 ≤ vs.length) (hl2 : vs.length ≤ 1000) (hS : Small vs) (h0 : Bp q0) (h1 : Bp q1) :
    Calls Try.prog 38 #[.agg #[.int .i64 0, .slice (some ⟨g, 0, none⟩) vs.length cap], .agg #[.int .i64 q0, .int .i64 q1]] w fun e w' =>
      e = .returned (.agg #[.int .i64 (lo (fun p => q0 + p.1) vs vs.length), .int .i64 (lo (fun p => q1 + p.2) vs vs.length), .int .i64 (hi (fun p => q0 + p.1) vs vs.length), .int .i64 (hi (fun p => q1 + p.2) vs vs.length)]) ∧ Below w.heap.size w w' := by
  obtain ⟨F, hF⟩ : ∃ F : Int × Int → Int, F = fun p => q0 + p.1 := ⟨_, rfl⟩
  obtain ⟨G, hG⟩ : ∃ G : Int × Int → Int, G = fun p => q1 + p.2 := ⟨_, rfl⟩
  rw [← hF, ← hG]
  have hFG := Lib.hid (And.intro (fun p => (by rw [hF] : F p = q0 + p.1)) (fun p => (by rw [hG] : G p = q1 + p.2)))
  clear hF hG
  have hcap := hR.le
  have hmax := hR.max
  unfold maxLen at hmax
  have hR' := Lib.hid hR
  have hS' := Lib.hid hS
  have hl0 : ((vs.length : Int) == 0) = false := by simp only [beq_eq_false_iff_ne, ne_eq]; omega
  have hlb : (vs.length : Int) ≤ 1000 := by omega
  have hl1 : (1 : Int) ≤ (vs.length : Int) := by omega
  go_enter Try.func38, Try.ntmps38
  obtain ⟨w1, hw1⟩ : ∃ w1, w1 = ((w.alloc (.cells #[.int .i64 0, .slice (some ⟨g, 0, none⟩) vs.length cap] 25)).alloc (.cells #[.int .i64 q0, .int .i64 q1] 28)).alloc (.cells #[.int .i64 0, .int .i64 0, .int .i64 0, .int .i64 0] 41) := ⟨_, rfl⟩
  have hb0 : Below w.heap.size w w1 := by rw [hw1]; exact below_step (below_step (alloc_below _ _) (alloc_below _ _)) (alloc_below _ _)
  have c2 : w1.cell? ⟨w.heap.size, 1, none⟩ = some (.slice (some ⟨g, 0, none⟩) vs.length cap) := by rw [hw1]; simp [go_sem]
  have x0 : w1.cell? ⟨w.heap.size + 1, 0, none⟩ = some (.int .i64 q0) := by rw [hw1]; simp [go_sem]
  have x1 : w1.cell? ⟨w.heap.size + 1, 1, none⟩ = some (.int .i64 q1) := by rw [hw1]; simp [go_sem]
  have r0 : w1.cell? ⟨w.heap.size + 1 + 1, 0, none⟩ = some (.int .i64 0) := by rw [hw1]; simp [go_sem]
  have r1 : w1.cell? ⟨w.heap.size + 1 + 1, 1, none⟩ = some (.int .i64 0) := by rw [hw1]; simp [go_sem]
  have r2 : w1.cell? ⟨w.heap.size + 1 + 1, 2, none⟩ = some (.int .i64 0) := by rw [hw1]; simp [go_sem]
  have r3 : w1.cell? ⟨w.heap.size + 1 + 1, 3, none⟩ = some (.int .i64 0) := by rw [hw1]; simp [go_sem]
  have f0 : ∀ k, w1.frozen? ⟨w.heap.size + 1 + 1, k, none⟩ = false := fun k => by rw [hw1]; simp [go_sem]
  have f0' := Lib.hid f0
  have hfc := Lib.hid (And.intro c2 (And.intro x0 (And.intro x1 (And.intro r0 (And.intro r1 (And.intro r2 r3))))))
  clear f0
  have hRw := Lib.hid (hR'.out.carry hb0)
  obtain ⟨vx, vy⟩ := hRw.out.at (i := 0) (by omega)
  rw [Nat.zero_mul] at vx vy
  obtain ⟨s0, s1⟩ := hS'.out 0 (by omega)
  have e0 := hFG.out.1 (at' vs 0)
  have e1 := hFG.out.2 (at' vs 0)
  have L0 := Lib.hid (And.intro (lo_zero F vs) (And.intro (lo_zero G vs) (And.intro (hi_zero F vs) (hi_zero G vs))))
  unfold Bp at h0 h1
  have y0 : IntKind.i64.wrap (q0 + (at' vs 0).1) = q0 + (at' vs 0).1 := IntWalk.i64_in _ (by omega)
  have y1 : IntKind.i64.wrap (q1 + (at' vs 0).2) = q1 + (at' vs 0).2 := IntWalk.i64_in _ (by omega)
  rw [← e0] at y0
  rw [← e1] at y1
  have hE := Lib.hid (And.intro e0 e1)
  rw [e0] at y0
  rw [e1] at y1
  clear e0 e1
  generalize (at' vs 0).1 = v0 at *
  generalize (at' vs 0).2 = v1 at *
  go_wp2_with fail
  rw [← hw1]
  have hw1' := Lib.hid hw1
  clear hw1
  refine wp_region_alloc_last 33 (some 5) (.cells #[.int .i64 0, .int .i64 0, .int .i64 0, .int .i64 0] 41) (by kernel_rfl) (by kernel_rfl) ⟨_, rfl, rfl, fun _ => rfl, fun _ _ => by kernel_rfl⟩ ?_
  apply Exists.intro
  refine ⟨fun W hK E hE => ?_, ?_⟩
  · skip
    have g_c2 := fun x => carry ((hK.below x)) c2
    have g_x0 := fun x => carry ((hK.below x)) x0
    have g_x1 := fun x => carry ((hK.below x)) x1
    have g_vx := fun x => carry ((hK.below x)) vx
    have g_vy := fun x => carry ((hK.below x)) vy
    simp only [List.take_succ_cons, List.take_zero]
    repeat (go_big_quiet_step (fail))
    refine wpQuiet_nil ?_
    exact hE
  intro B wq hBB hbq hheap
  simp only [List.drop_succ_cons, List.drop_zero, Act.put, List.setIfInBounds_toArray, List.set_cons_zero, List.set_cons_succ]
  have hstep := (((hbq.setCell (p := ⟨B, 0, none⟩) hBB (.int .i64 (q0 + v0))).setCell (p := ⟨B, 1, none⟩) hBB (.int .i64 (q1 + v1))).setCell (p := ⟨B, 2, none⟩) hBB (.int .i64 (q0 + v0))).setCell (p := ⟨B, 3, none⟩) hBB (.int .i64 (q1 + v1))
  replace c2 := carry (hstep) c2
  have hh := heap_setCell (heap_setCell (heap_setCell (heap_setCell hheap 0 (.int .i64 (q0 + v0))) 1 (.int .i64 (q1 + v1))) 2 (.int .i64 (q0 + v0))) 3 (.int .i64 (q1 + v1))
  simp only [List.setIfInBounds_toArray, List.set_cons_zero, List.set_cons_succ] at hh
  have hcB := heap_cell hheap
  have hfB := heap_frozen hheap
  clear hheap
  go_wp2_with fail
  generalize (((wq.setCell ⟨B, 0, none⟩ (.int .i64 (q0 + v0))).setCell ⟨B, 1, none⟩ (.int .i64 (q1 + v1))).setCell ⟨B, 2, none⟩ (.int .i64 (q0 + v0))).setCell ⟨B, 3, none⟩ (.int .i64 (q1 + v1)) = w3 at *
  clear hcB hfB hbq c2 x0 x1 vx vy r0 r1 r2 r3
  obtain ⟨D, rfl⟩ : ∃ D, B = D := ⟨_, rfl⟩
  have hD := hBB
  clear hBB
  go_loopw [6] (fun i wr => ∃ c : Nat, c ≤ vs.length ∧ i = .int .i64 c ∧ wr.heap[B]? = some (.cells #[.int .i64 (lo F vs c), .int .i64 (lo G vs c), .int .i64 (hi F vs c), .int .i64 (hi G vs c)] 41) ∧ Below w1.heap.size w1 wr) (fun i _ => vs.length - (intOf i).toNat)
  case atStart => exact ⟨0, Nat.zero_le _, rfl, by rw [L0.out.1, L0.out.2.1, L0.out.2.2.1, L0.out.2.2.2, hE.out.1, hE.out.2]; exact hh, hstep⟩
  case round =>
    clear hh hstep
    obtain ⟨c, hc, rfl, hh, hbl⟩ := hrel
    have c2 := carry hbl hfc.out.1
    by_cases hlt : c < vs.length
    · have x0 := carry hbl hfc.out.2.1
      have x1 := carry hbl hfc.out.2.2.1
      obtain ⟨vx, vy⟩ := (hRw.out.carry hbl).at hlt
      obtain ⟨t0, t1⟩ := hS'.out c hlt
      have e0 := hFG.out.1 (at' vs c)
      have e1 := hFG.out.2 (at' vs c)
      have ls := Lib.hid (And.intro (lo_succ F hlt) (And.intro (lo_succ G hlt) (And.intro (hi_succ F hlt) (hi_succ G hlt))))
      have K := fun w => refAdd_any q0 q1 (at' vs c).1 (at' vs c).2 w (by unfold Bd; omega) (by unfold Bd; omega) (by unfold Bd; omega) (by unfold Bd; omega)
      generalize (at' vs c).1 = u0 at *
      generalize (at' vs c).2 = u1 at *
      have wa : IntKind.i64.wrap (q0 + u0) = q0 + u0 := IntWalk.i64_in _ (by omega)
      rw [← e0, ← e1] at K
      have hFF := e0
      clear e0 e1 wa
      generalize F (at' vs c) = X at *
      generalize G (at' vs c) = Y at *
      clear hFF
      have hAdd := Lib.hid K
      have hlt' : (c : Int) < (vs.length : Int) := by omega
      clear K
      have b0 := heap_cell hh 0
      have b1 := heap_cell hh 1
      have b2 := heap_cell hh 2
      have b3 := heap_cell hh 3
      simp at b0 b1 b2 b3
      have hhh := Lib.hid hh
      have hBlt : B < wr.heap.size := (Array.getElem?_eq_some_iff.1 hh).1
      have g0 := heap_frozen hh 0
      have g1 := heap_frozen hh 1
      have g2 := heap_frozen hh 2
      have g3 := heap_frozen hh 3
      clear hh
      have m0 := min_if (lo F vs c) X
      have m1 := min_if (lo G vs c) Y
      have m2 := max_if (hi F vs c) X
      have m3 := max_if (hi G vs c) Y
      generalize lo F vs c = A0 at *
      generalize lo G vs c = A1 at *
      generalize hi F vs c = A2 at *
      generalize hi G vs c = A3 at *
      generalize min A0 X = N0 at *
      generalize min A1 Y = N1 at *
      generalize max A2 X = N2 at *
      generalize max A3 Y = N3 at *
      obtain ⟨D, hDB⟩ : ∃ D, D = B := ⟨_, rfl⟩
      rw [← hDB] at b0 b1 b2 b3 g0 g1 g2 g3 hBlt
      go_wp2_with fail
      rw [← hDB]
      have hDB' := Lib.hid hDB
      clear hDB
      refine wp_region_alloc_last 7 (some 7) (.cells #[.int .i64 0, .int .i64 0] 28) (by kernel_rfl) (by kernel_rfl) ⟨_, rfl, rfl, fun _ => rfl, fun _ _ => by kernel_rfl⟩ ?_
      apply Exists.intro
      refine ⟨fun W hK E hE => ?_, ?_⟩
      · skip
        have g_x0 := fun x => carry ((hK.below x)) x0
        have g_x1 := fun x => carry ((hK.below x)) x1
        have g_c2 := fun x => carry ((hK.below x)) c2
        have g_vx := fun x => carry ((hK.below x)) vx
        have g_vy := fun x => carry ((hK.below x)) vy
        simp only [List.take_succ_cons, List.take_zero]
        repeat (go_big_quiet_step ((go_at_call 64; with_reducible exact met_made (hAdd.out _))))
        refine wpQuiet_nil ?_
        exact hE
      intro B wq hBB hbq hheap
      simp only [List.drop_succ_cons, List.drop_zero, Act.put, List.setIfInBounds_toArray, List.set_cons_zero, List.set_cons_succ]
      have hstep := (hbq.setCell (p := ⟨B, 0, none⟩) hBB (.int .i64 X)).setCell (p := ⟨B, 1, none⟩) hBB (.int .i64 Y)
      have hDh := Lib.hid ((hstep.block D hBlt).trans (show wr.heap[D]? = some (.cells #[.int .i64 A0, .int .i64 A1, .int .i64 A2, .int .i64 A3] 41) from by rw [hDB'.out]; exact hhh.out))
      have hst' := Lib.hid hstep
      replace g0 := (hbq.frozen (p := ⟨D, 0, none⟩) hBlt).trans g0
      replace g1 := (hbq.frozen (p := ⟨D, 1, none⟩) hBlt).trans g1
      replace g2 := (hbq.frozen (p := ⟨D, 2, none⟩) hBlt).trans g2
      replace g3 := (hbq.frozen (p := ⟨D, 3, none⟩) hBlt).trans g3
      replace b0 := carry (hbq) b0
      replace b1 := carry (hbq) b1
      replace b2 := carry (hbq) b2
      replace b3 := carry (hbq) b3
      have vn0 := heap_cell hheap 0
      have vn1 := heap_cell hheap 1
      simp at vn0 vn1
      have fn0 := heap_frozen hheap 0
      have fn1 := heap_frozen hheap 1
      have hne : ¬ D = B := by omega
      have hne' : ¬ B = D := by omega
      clear hstep hheap hbq
      go_wp2
      have hDe := hDB'.out
      subst hDe
      go_roundw
      case rel =>
        refine ⟨c + 1, by omega, by go_num, ?_, ?_⟩
        · have := heap_setCell (heap_setCell (heap_setCell (heap_setCell hDh.out 0 (.int .i64 N0)) 1 (.int .i64 N1)) 2 (.int .i64 N2)) 3 (.int .i64 N3)
          simp only [List.setIfInBounds_toArray, List.set_cons_zero, List.set_cons_succ] at this
          rw [ls.out.1, ls.out.2.1, ls.out.2.2.1, ls.out.2.2.2]
          exact this
        · exact ((((below_step hbl hst'.out).setCell (p := ⟨D, 0, none⟩) hD _).setCell (p := ⟨D, 1, none⟩) hD _).setCell (p := ⟨D, 2, none⟩) hD _).setCell (p := ⟨D, 3, none⟩) hD _
      case measure => simp [intOf]; omega
    · obtain rfl : c = vs.length := by omega
      have b0 := heap_cell hh 0
      have b1 := heap_cell hh 1
      have b2 := heap_cell hh 2
      have b3 := heap_cell hh 3
      simp at b0 b1 b2 b3
      obtain ⟨_, _, _, r0, r1, r2, r3⟩ := hfc.out
      have hrz := block_lt_of_cell r0
      have f0 := (hbl.frozen (p := ⟨w.heap.size + 1 + 1, 0, none⟩) hrz).trans (f0'.out 0)
      have f1 := (hbl.frozen (p := ⟨w.heap.size + 1 + 1, 1, none⟩) hrz).trans (f0'.out 1)
      have f2 := (hbl.frozen (p := ⟨w.heap.size + 1 + 1, 2, none⟩) hrz).trans (f0'.out 2)
      have f3 := (hbl.frozen (p := ⟨w.heap.size + 1 + 1, 3, none⟩) hrz).trans (f0'.out 3)
      replace r0 := carry hbl r0
      replace r1 := carry hbl r1
      replace r2 := carry hbl r2
      replace r3 := carry hbl r3
      have hBw := below_step hb0 hbl
      clear hh hbl
      obtain ⟨A0, hA0⟩ : ∃ A, A = lo F vs vs.length := ⟨_, rfl⟩
      obtain ⟨A1, hA1⟩ : ∃ A, A = lo G vs vs.length := ⟨_, rfl⟩
      obtain ⟨A2, hA2⟩ : ∃ A, A = hi F vs vs.length := ⟨_, rfl⟩
      obtain ⟨A3, hA3⟩ : ∃ A, A = hi G vs vs.length := ⟨_, rfl⟩
      rw [← hA0] at b0
      rw [← hA1] at b1
      rw [← hA2] at b2
      rw [← hA3] at b3
      have hA := Lib.hid (And.intro hA0 (And.intro hA1 (And.intro hA2 hA3)))
      clear hA0 hA1 hA2 hA3
      go_wp2
      refine bodyPost_ret (v := .agg #[.int .i64 A0, .int .i64 A1, .int .i64 A2, .int .i64 A3]) (by simp [results, Try.results38, go_sem, r0, r1, r2, r3]) rfl ⟨by rw [hA.out.1, hA.out.2.1, hA.out.2.2.1, hA.out.2.2.2], ?_⟩
      exact (((hBw.setCell (by simp <;> omega) _).setCell (by simp <;> omega) _).setCell (by simp <;> omega) _).setCell (by simp <;> omega) _
end Go.Proofs.Ytfbgghkkgmgnjaa
