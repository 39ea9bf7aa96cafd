/-
  Proved: arenanetlaw03.ShapeTranslation returns true for all seven ints and leaves its arguments as they were. No further condition.
-/
import Derived.Test.YtololgefpjjpjaaRows
import Derived.WalkKit
import Derived.ProofKit
import Derived.OpenShut
import Derived.Test.YtololgefpjjpjaaLawKit
import Derived.Test.YtololgefpjjpjaaShapeK
import Derived.Test.YtololgefpjjpjaaMadeAlloc
namespace Go.Proofs.Ytololgefpjjpjaa.shapeTranslation
open Go.ChangeShapes Go.WideShapes Go.ChangeAt Go.RowKit
set_option linter.unusedVariables false
set_option linter.unusedSimpArgs false

open Fxm
theorem own : ownKnob Try.prog.godebug = none := by kernel_rfl

set_option maxHeartbeats 2000000 in
theorem walk (a0 : Int) (w0 : (Lit.int .i64 a0).wf = true) (a1 : Int) (w1 : (Lit.int .i64 a1).wf = true) (a2 : Int) (w2 : (Lit.int .i64 a2).wf = true) (a3 : Int) (w3 : (Lit.int .i64 a3).wf = true) (a4 : Int) (w4 : (Lit.int .i64 a4).wf = true) (a5 : Int) (w5 : (Lit.int .i64 a5).wf = true) (a6 : Int) (w6 : (Lit.int .i64 a6).wf = true) (w : World) :
    Calls Try.prog 8 #[.int .i64 a0, .int .i64 a1, .int .i64 a2, .int .i64 a3, .int .i64 a4, .int .i64 a5, .int .i64 a6] w fun e w' => e = .returned (.bool true) ∧ Below w.heap.size w w' := by
  obtain ⟨x3, y3⟩ := bounds_i64 w3
  obtain ⟨x4, y4⟩ := bounds_i64 w4
  go_enter Try.func8, Try.ntmps8
  go_wp2_with fail
  refine (shapes_any _ _ w0).mono ?_
  rintro e u1 ⟨s, rfl, hs, hb1⟩
  have hB := hb1
  clear hb1
  go_wp2_with fail
  with_reducible refine (of_any _ _ _ (wrap64_wf _) (wrap64_wf _)).mono ?_
  rintro e u2 ⟨⟨q0, q1, hq0, hq1, rfl⟩, hb2⟩
  have s0 := carry hb2 (a := ⟨u1.heap.size, 0, none⟩) (v := .int .i64 s.r) (by simp)
  have s1 := carry hb2 (a := ⟨u1.heap.size, 1, none⟩) (v := .slice s.a s.n s.cap) (by simp)
  replace hB := below_step (below_step hB (alloc_below _ _)) hb2
  replace hs := (hs.carry (alloc_below _ _)).carry hb2
  clear hb2
  have vq0 : (u2.alloc (.cells #[.int .i64 (q0), .int .i64 (q1)] 34)).cell? ⟨u2.heap.size, 0, none⟩ = some (.int .i64 (q0)) := World.cell?_alloc_new (w := u2) #[.int .i64 (q0), .int .i64 (q1)] 34 0
  have vq1 : (u2.alloc (.cells #[.int .i64 (q0), .int .i64 (q1)] 34)).cell? ⟨u2.heap.size, 1, none⟩ = some (.int .i64 (q1)) := World.cell?_alloc_new (w := u2) #[.int .i64 (q0), .int .i64 (q1)] 34 1
  replace s0 := carry (alloc_below u2 (.cells #[.int .i64 (q0), .int .i64 (q1)] 34)) s0
  replace s1 := carry (alloc_below u2 (.cells #[.int .i64 (q0), .int .i64 (q1)] 34)) s1
  replace hB := below_step hB (alloc_below u2 (.cells #[.int .i64 (q0), .int .i64 (q1)] 34))
  replace hs := hs.carry (alloc_below u2 (.cells #[.int .i64 (q0), .int .i64 (q1)] 34))
  go_wp2_with fail
  generalize u2.alloc (.cells #[.int .i64 (q0), .int .i64 (q1)] 34) = u3 at *
  with_reducible refine (boundx_any _ _ _ x3 y3 (by omega) (by omega)).mono ?_
  rintro e w' ⟨⟨d0, d01, d02, rfl⟩, rfl⟩
  go_wp2_with fail
  with_reducible refine (boundx_any _ _ _ x4 y4 (by omega) (by omega)).mono ?_
  rintro e w' ⟨⟨d1, d11, d12, rfl⟩, rfl⟩
  have vd0 : (u3.alloc (.cells #[.int .i64 (d0), .int .i64 (d1)] 34)).cell? ⟨u3.heap.size, 0, none⟩ = some (.int .i64 (d0)) := World.cell?_alloc_new (w := u3) #[.int .i64 (d0), .int .i64 (d1)] 34 0
  have vd1 : (u3.alloc (.cells #[.int .i64 (d0), .int .i64 (d1)] 34)).cell? ⟨u3.heap.size, 1, none⟩ = some (.int .i64 (d1)) := World.cell?_alloc_new (w := u3) #[.int .i64 (d0), .int .i64 (d1)] 34 1
  replace s0 := carry (alloc_below u3 (.cells #[.int .i64 (d0), .int .i64 (d1)] 34)) s0
  replace s1 := carry (alloc_below u3 (.cells #[.int .i64 (d0), .int .i64 (d1)] 34)) s1
  replace vq0 := carry (alloc_below u3 (.cells #[.int .i64 (d0), .int .i64 (d1)] 34)) vq0
  replace vq1 := carry (alloc_below u3 (.cells #[.int .i64 (d0), .int .i64 (d1)] 34)) vq1
  replace hB := below_step hB (alloc_below u3 (.cells #[.int .i64 (d0), .int .i64 (d1)] 34))
  replace hs := hs.carry (alloc_below u3 (.cells #[.int .i64 (d0), .int .i64 (d1)] 34))
  go_wp2_with fail
  generalize u3.alloc (.cells #[.int .i64 (d0), .int .i64 (d1)] 34) = u4 at *
  have bd0 : Bd d0 := ⟨by omega, by omega⟩
  have bd1 : Bd d1 := ⟨by omega, by omega⟩
  with_reducible refine (add_any _ _ _ _ _ hq0.bd hq1.bd bd0 bd1).mono ?_
  rintro e u5 ⟨rfl, hb5⟩
  replace s0 := carry (hb5) s0
  replace s1 := carry (hb5) s1
  replace vq0 := carry (hb5) vq0
  replace vq1 := carry (hb5) vq1
  replace vd0 := carry (hb5) vd0
  replace vd1 := carry (hb5) vd1
  replace hB := below_step hB hb5
  replace hs := hs.carry hb5
  clear hb5
  have vt0 : (u5.alloc (.cells #[.int .i64 (q0 + d0), .int .i64 (q1 + d1)] 34)).cell? ⟨u5.heap.size, 0, none⟩ = some (.int .i64 (q0 + d0)) := World.cell?_alloc_new (w := u5) #[.int .i64 (q0 + d0), .int .i64 (q1 + d1)] 34 0
  have vt1 : (u5.alloc (.cells #[.int .i64 (q0 + d0), .int .i64 (q1 + d1)] 34)).cell? ⟨u5.heap.size, 1, none⟩ = some (.int .i64 (q1 + d1)) := World.cell?_alloc_new (w := u5) #[.int .i64 (q0 + d0), .int .i64 (q1 + d1)] 34 1
  replace s0 := carry (alloc_below u5 (.cells #[.int .i64 (q0 + d0), .int .i64 (q1 + d1)] 34)) s0
  replace s1 := carry (alloc_below u5 (.cells #[.int .i64 (q0 + d0), .int .i64 (q1 + d1)] 34)) s1
  replace vq0 := carry (alloc_below u5 (.cells #[.int .i64 (q0 + d0), .int .i64 (q1 + d1)] 34)) vq0
  replace vq1 := carry (alloc_below u5 (.cells #[.int .i64 (q0 + d0), .int .i64 (q1 + d1)] 34)) vq1
  replace vd0 := carry (alloc_below u5 (.cells #[.int .i64 (q0 + d0), .int .i64 (q1 + d1)] 34)) vd0
  replace vd1 := carry (alloc_below u5 (.cells #[.int .i64 (q0 + d0), .int .i64 (q1 + d1)] 34)) vd1
  replace hB := below_step hB (alloc_below u5 (.cells #[.int .i64 (q0 + d0), .int .i64 (q1 + d1)] 34))
  replace hs := hs.carry (alloc_below u5 (.cells #[.int .i64 (q0 + d0), .int .i64 (q1 + d1)] 34))
  go_wp2_with fail
  generalize u5.alloc (.cells #[.int .i64 (q0 + d0), .int .i64 (q1 + d1)] 34) = u6 at *
  have hn0 := hs.nx_bd a5
  have hn1 := hs.ny_bd a6
  have k2 := fun w => add_any q0 q1 (s.nx a5) (s.ny a6) w hq0.bd hq1.bd (near_bd hn0) (near_bd hn1)
  have k1 := fun w (h : Sh w s) => h.near a5 a6 w5 w6
  have hp0 := hq0.near hn0
  have hp1 := hq1.near hn1
  generalize s.nx a5 = m0 at *
  generalize s.ny a6 = m1 at *
  have hk := Lib.hid (And.intro k1 k2)
  clear k1 k2
  have hsh := Lib.hid hs
  refine wp_region_alloc_last 6 (some 19) (.cells #[.int .i64 0, .int .i64 0] 34) (by kernel_rfl) (by kernel_rfl) ⟨_, rfl, rfl, fun _ => rfl, fun _ _ => by kernel_rfl⟩ ?_
  apply Exists.intro
  refine ⟨fun W hK E hE => ?_, ?_⟩
  · skip
    have g_s0 := fun x => carry ((hK.below x)) s0
    have g_s1 := fun x => carry ((hK.below x)) s1
    have g_vq0 := fun x => carry ((hK.below x)) vq0
    have g_vq1 := fun x => carry ((hK.below x)) vq1
    have g_vd0 := fun x => carry ((hK.below x)) vd0
    have g_vd1 := fun x => carry ((hK.below x)) vd1
    have g_vt0 := fun x => carry ((hK.below x)) vt0
    have g_vt1 := fun x => carry ((hK.below x)) vt1
    simp only [List.take_succ_cons, List.take_zero]
    repeat (go_big_quiet_step ((first | (go_at_call 18; with_reducible exact met_made (hk.out.1 _ (hsh.out.carry (hK.below _)))) | (go_at_call 26; with_reducible exact met_made (hk.out.2 _)))))
    refine wpQuiet_nil ?_
    exact hE
  intro B wq hBB hbq hheap
  simp only [List.drop_succ_cons, List.drop_zero, Act.put, List.setIfInBounds_toArray, List.set_cons_zero, List.set_cons_succ]
  have hstep := (hbq.setCell (p := ⟨B, 0, none⟩) hBB (.int .i64 (q0 + m0))).setCell (p := ⟨B, 1, none⟩) hBB (.int .i64 (q1 + m1))
  replace s0 := carry (hstep) s0
  replace s1 := carry (hstep) s1
  replace vq0 := carry (hstep) vq0
  replace vq1 := carry (hstep) vq1
  replace vd0 := carry (hstep) vd0
  replace vd1 := carry (hstep) vd1
  replace vt0 := carry (hstep) vt0
  replace vt1 := carry (hstep) vt1
  have hh := heap_setCell (heap_setCell hheap 0 (.int .i64 (q0 + m0))) 1 (.int .i64 (q1 + m1))
  have vn0 := heap_cell hh 0
  have vn1 := heap_cell hh 1
  simp at vn0 vn1
  have hcB := heap_cell hheap
  have hfB := heap_frozen hheap
  clear hh hheap
  replace hB := below_step hB hstep
  replace hs := hs.carry hstep
  go_wp2_with fail
  generalize (wq.setCell ⟨B, 0, none⟩ (.int .i64 (q0 + m0))).setCell ⟨B, 1, none⟩ (.int .i64 (q1 + m1)) = u7 at *
  obtain ⟨Bp0, hBp0⟩ : ∃ x, x = B := ⟨_, rfl⟩
  rw [← hBp0] at vn0 vn1
  rw [← hBp0]
  clear hcB hfB hstep hbq hBB hsh hk hBp0 wq
  have bt0 : Bp (q0 + d0) := by unfold Be at hq0; unfold Bp; omega
  have bt1 : Bp (q1 + d1) := by unfold Be at hq1; unfold Bp; omega
  have br0 : Bd (q0 + m0 + d0) := by unfold Be at hq0; unfold Bd; omega
  have br1 : Bd (q1 + m1 + d1) := by unfold Be at hq1; unfold Bd; omega
  have k1 := fun w (h : Sh w s) => h.contains q0 q1 (q0 + m0) (q1 + m1) hq0.bd hq1.bd hp0 hp1
  have k2 := fun w => add_any (q0 + m0) (q1 + m1) d0 d1 w hp0 hp1 bd0 bd1
  have k3 := fun w (h : Sh w s) => h.contains (q0 + d0) (q1 + d1) (q0 + m0 + d0) (q1 + m1 + d1) bt0.bd bt1.bd br0 br1
  have b1 := fun w (h : Sh w s) => h.bounds q0 q1 hq0.bp hq1.bp
  have b2 := fun w (h : Sh w s) => h.bounds (q0 + d0) (q1 + d1) bt0 bt1
  rw [pair_eq (show q0 + m0 - q0 = m0 by omega) (show q1 + m1 - q1 = m1 by omega)] at k1
  rw [pair_eq (show q0 + m0 + d0 - (q0 + d0) = m0 by omega) (show q1 + m1 + d1 - (q1 + d1) = m1 by omega)] at k3
  rw [show q0 + d0 + s.xa = q0 + s.xa + d0 by omega, show q1 + d1 + s.ya = q1 + s.ya + d1 by omega, show q0 + d0 + s.xb = q0 + s.xb + d0 by omega, show q1 + d1 + s.yb = q1 + s.yb + d1 by omega] at b2
  obtain ⟨g1, g2⟩ := hs.bd
  have xb1 : -8421376 ≤ q0 + s.xa ∧ q0 + s.xa ≤ 8421376 := by unfold Be at hq0; omega
  have xb2 : -8421376 ≤ q1 + s.ya ∧ q1 + s.ya ≤ 8421376 := by unfold Be at hq1; omega
  have xb3 : -8421376 ≤ q0 + s.xb ∧ q0 + s.xb ≤ 8421376 := by unfold Be at hq0; omega
  have xb4 : -8421376 ≤ q1 + s.yb ∧ q1 + s.yb ≤ 8421376 := by unfold Be at hq1; omega
  generalize s.ins (m0, m1) = c at *
  generalize q0 + m0 + d0 = R0 at *
  generalize q1 + m1 + d1 = R1 at *
  generalize q0 + m0 = P0 at *
  generalize q1 + m1 = P1 at *
  generalize q0 + d0 = T0 at *
  generalize q1 + d1 = T1 at *
  generalize q0 + s.xa = xa at *
  generalize q1 + s.ya = ya at *
  generalize q0 + s.xb = xb at *
  generalize q1 + s.yb = yb at *
  clear g1 g2
  have hk := Lib.hid (And.intro k1 (And.intro k2 (And.intro k3 (And.intro b1 b2))))
  clear k1 k2 k3 b1 b2
  have hsh := Lib.hid hs
  refine wp_region_made (by kernel_rfl) (by kernel_rfl) ?_
  intro W hK
  have g_s0 := fun x => carry ((hK.below x)) s0
  have g_s1 := fun x => carry ((hK.below x)) s1
  have g_vq0 := fun x => carry ((hK.below x)) vq0
  have g_vq1 := fun x => carry ((hK.below x)) vq1
  have g_vd0 := fun x => carry ((hK.below x)) vd0
  have g_vd1 := fun x => carry ((hK.below x)) vd1
  have g_vt0 := fun x => carry ((hK.below x)) vt0
  have g_vt1 := fun x => carry ((hK.below x)) vt1
  have g_vn0 := fun x => carry ((hK.below x)) vn0
  have g_vn1 := fun x => carry ((hK.below x)) vn1
  repeat (go_big_quiet_step ((first | (go_at_call 24; with_reducible exact met_made (hk.out.1 _ (hsh.out.carry (hK.below _)))) | (go_at_call 24; with_reducible exact met_made (hk.out.2.2.1 _ (hsh.out.carry (hK.below _)))) | (go_at_call 26; with_reducible exact met_made (hk.out.2.1 _)))))
  refine wpQuiet_nil ?_
  intro wq hw'
  have hbq := kept_in hK hw'
  clear g_s0 g_s1 g_vq0 g_vq1 g_vd0 g_vd1 g_vt0 g_vt1 g_vn0 g_vn1
  clear hw' hK W
  replace s0 := carry (hbq) s0
  replace s1 := carry (hbq) s1
  replace vq0 := carry (hbq) vq0
  replace vq1 := carry (hbq) vq1
  replace vd0 := carry (hbq) vd0
  replace vd1 := carry (hbq) vd1
  replace vt0 := carry (hbq) vt0
  replace vt1 := carry (hbq) vt1
  replace vn0 := carry (hbq) vn0
  replace vn1 := carry (hbq) vn1
  replace hB := below_step hB hbq
  replace hs := hs.carry hbq
  clear hbq hsh vn0 vn1
  go_wp2_with fail
  refine (hk.out.2.2.2.1 _ hs).mono ?_
  rintro e u8 ⟨rfl, hb8⟩
  replace s0 := carry (hb8) s0
  replace s1 := carry (hb8) s1
  replace vq0 := carry (hb8) vq0
  replace vq1 := carry (hb8) vq1
  replace vd0 := carry (hb8) vd0
  replace vd1 := carry (hb8) vd1
  replace vt0 := carry (hb8) vt0
  replace vt1 := carry (hb8) vt1
  replace hB := below_step hB hb8
  replace hs := hs.carry hb8
  clear hb8
  have vb0 : (u8.alloc (.cells #[.int .i64 (xa), .int .i64 (ya), .int .i64 (xb), .int .i64 (yb)] 41)).cell? ⟨u8.heap.size, 0, none⟩ = some (.int .i64 (xa)) := World.cell?_alloc_new (w := u8) #[.int .i64 (xa), .int .i64 (ya), .int .i64 (xb), .int .i64 (yb)] 41 0
  have vb1 : (u8.alloc (.cells #[.int .i64 (xa), .int .i64 (ya), .int .i64 (xb), .int .i64 (yb)] 41)).cell? ⟨u8.heap.size, 1, none⟩ = some (.int .i64 (ya)) := World.cell?_alloc_new (w := u8) #[.int .i64 (xa), .int .i64 (ya), .int .i64 (xb), .int .i64 (yb)] 41 1
  have vb2 : (u8.alloc (.cells #[.int .i64 (xa), .int .i64 (ya), .int .i64 (xb), .int .i64 (yb)] 41)).cell? ⟨u8.heap.size, 2, none⟩ = some (.int .i64 (xb)) := World.cell?_alloc_new (w := u8) #[.int .i64 (xa), .int .i64 (ya), .int .i64 (xb), .int .i64 (yb)] 41 2
  have vb3 : (u8.alloc (.cells #[.int .i64 (xa), .int .i64 (ya), .int .i64 (xb), .int .i64 (yb)] 41)).cell? ⟨u8.heap.size, 3, none⟩ = some (.int .i64 (yb)) := World.cell?_alloc_new (w := u8) #[.int .i64 (xa), .int .i64 (ya), .int .i64 (xb), .int .i64 (yb)] 41 3
  replace s0 := carry (alloc_below u8 (.cells #[.int .i64 (xa), .int .i64 (ya), .int .i64 (xb), .int .i64 (yb)] 41)) s0
  replace s1 := carry (alloc_below u8 (.cells #[.int .i64 (xa), .int .i64 (ya), .int .i64 (xb), .int .i64 (yb)] 41)) s1
  replace vq0 := carry (alloc_below u8 (.cells #[.int .i64 (xa), .int .i64 (ya), .int .i64 (xb), .int .i64 (yb)] 41)) vq0
  replace vq1 := carry (alloc_below u8 (.cells #[.int .i64 (xa), .int .i64 (ya), .int .i64 (xb), .int .i64 (yb)] 41)) vq1
  replace vd0 := carry (alloc_below u8 (.cells #[.int .i64 (xa), .int .i64 (ya), .int .i64 (xb), .int .i64 (yb)] 41)) vd0
  replace vd1 := carry (alloc_below u8 (.cells #[.int .i64 (xa), .int .i64 (ya), .int .i64 (xb), .int .i64 (yb)] 41)) vd1
  replace vt0 := carry (alloc_below u8 (.cells #[.int .i64 (xa), .int .i64 (ya), .int .i64 (xb), .int .i64 (yb)] 41)) vt0
  replace vt1 := carry (alloc_below u8 (.cells #[.int .i64 (xa), .int .i64 (ya), .int .i64 (xb), .int .i64 (yb)] 41)) vt1
  replace hB := below_step hB (alloc_below u8 (.cells #[.int .i64 (xa), .int .i64 (ya), .int .i64 (xb), .int .i64 (yb)] 41))
  replace hs := hs.carry (alloc_below u8 (.cells #[.int .i64 (xa), .int .i64 (ya), .int .i64 (xb), .int .i64 (yb)] 41))
  go_wp2_with fail
  generalize u8.alloc (.cells #[.int .i64 (xa), .int .i64 (ya), .int .i64 (xb), .int .i64 (yb)] 41) = u9 at *
  refine (hk.out.2.2.2.2 _ hs).mono ?_
  rintro e u10 ⟨rfl, hb10⟩
  replace s0 := carry (hb10) s0
  replace s1 := carry (hb10) s1
  replace vq0 := carry (hb10) vq0
  replace vq1 := carry (hb10) vq1
  replace vd0 := carry (hb10) vd0
  replace vd1 := carry (hb10) vd1
  replace vb0 := carry (hb10) vb0
  replace vb1 := carry (hb10) vb1
  replace vb2 := carry (hb10) vb2
  replace vb3 := carry (hb10) vb3
  replace hB := below_step hB hb10
  replace hs := hs.carry hb10
  clear hb10
  clear vt0 vt1
  have vc0 : (u10.alloc (.cells #[.int .i64 (xa + d0), .int .i64 (ya + d1), .int .i64 (xb + d0), .int .i64 (yb + d1)] 41)).cell? ⟨u10.heap.size, 0, none⟩ = some (.int .i64 (xa + d0)) := World.cell?_alloc_new (w := u10) #[.int .i64 (xa + d0), .int .i64 (ya + d1), .int .i64 (xb + d0), .int .i64 (yb + d1)] 41 0
  have vc1 : (u10.alloc (.cells #[.int .i64 (xa + d0), .int .i64 (ya + d1), .int .i64 (xb + d0), .int .i64 (yb + d1)] 41)).cell? ⟨u10.heap.size, 1, none⟩ = some (.int .i64 (ya + d1)) := World.cell?_alloc_new (w := u10) #[.int .i64 (xa + d0), .int .i64 (ya + d1), .int .i64 (xb + d0), .int .i64 (yb + d1)] 41 1
  have vc2 : (u10.alloc (.cells #[.int .i64 (xa + d0), .int .i64 (ya + d1), .int .i64 (xb + d0), .int .i64 (yb + d1)] 41)).cell? ⟨u10.heap.size, 2, none⟩ = some (.int .i64 (xb + d0)) := World.cell?_alloc_new (w := u10) #[.int .i64 (xa + d0), .int .i64 (ya + d1), .int .i64 (xb + d0), .int .i64 (yb + d1)] 41 2
  have vc3 : (u10.alloc (.cells #[.int .i64 (xa + d0), .int .i64 (ya + d1), .int .i64 (xb + d0), .int .i64 (yb + d1)] 41)).cell? ⟨u10.heap.size, 3, none⟩ = some (.int .i64 (yb + d1)) := World.cell?_alloc_new (w := u10) #[.int .i64 (xa + d0), .int .i64 (ya + d1), .int .i64 (xb + d0), .int .i64 (yb + d1)] 41 3
  replace s0 := carry (alloc_below u10 (.cells #[.int .i64 (xa + d0), .int .i64 (ya + d1), .int .i64 (xb + d0), .int .i64 (yb + d1)] 41)) s0
  replace s1 := carry (alloc_below u10 (.cells #[.int .i64 (xa + d0), .int .i64 (ya + d1), .int .i64 (xb + d0), .int .i64 (yb + d1)] 41)) s1
  replace vq0 := carry (alloc_below u10 (.cells #[.int .i64 (xa + d0), .int .i64 (ya + d1), .int .i64 (xb + d0), .int .i64 (yb + d1)] 41)) vq0
  replace vq1 := carry (alloc_below u10 (.cells #[.int .i64 (xa + d0), .int .i64 (ya + d1), .int .i64 (xb + d0), .int .i64 (yb + d1)] 41)) vq1
  replace vd0 := carry (alloc_below u10 (.cells #[.int .i64 (xa + d0), .int .i64 (ya + d1), .int .i64 (xb + d0), .int .i64 (yb + d1)] 41)) vd0
  replace vd1 := carry (alloc_below u10 (.cells #[.int .i64 (xa + d0), .int .i64 (ya + d1), .int .i64 (xb + d0), .int .i64 (yb + d1)] 41)) vd1
  replace vb0 := carry (alloc_below u10 (.cells #[.int .i64 (xa + d0), .int .i64 (ya + d1), .int .i64 (xb + d0), .int .i64 (yb + d1)] 41)) vb0
  replace vb1 := carry (alloc_below u10 (.cells #[.int .i64 (xa + d0), .int .i64 (ya + d1), .int .i64 (xb + d0), .int .i64 (yb + d1)] 41)) vb1
  replace vb2 := carry (alloc_below u10 (.cells #[.int .i64 (xa + d0), .int .i64 (ya + d1), .int .i64 (xb + d0), .int .i64 (yb + d1)] 41)) vb2
  replace vb3 := carry (alloc_below u10 (.cells #[.int .i64 (xa + d0), .int .i64 (ya + d1), .int .i64 (xb + d0), .int .i64 (yb + d1)] 41)) vb3
  replace hB := below_step hB (alloc_below u10 (.cells #[.int .i64 (xa + d0), .int .i64 (ya + d1), .int .i64 (xb + d0), .int .i64 (yb + d1)] 41))
  replace hs := hs.carry (alloc_below u10 (.cells #[.int .i64 (xa + d0), .int .i64 (ya + d1), .int .i64 (xb + d0), .int .i64 (yb + d1)] 41))
  go_wp2_with fail
  generalize u10.alloc (.cells #[.int .i64 (xa + d0), .int .i64 (ya + d1), .int .i64 (xb + d0), .int .i64 (yb + d1)] 41) = u11 at *
  refine (boundx_any _ _ _ x3 y3 (by omega) (by omega)).mono ?_
  rintro e w' ⟨⟨i, i1, i2, rfl⟩, rfl⟩
  clear vb0 vb1 vb2 vb3 vc0 vc1 vc2 vc3 vd0 vd1
  go_wp2_with fail
  refine (boundx_any _ _ _ x4 y4 (by omega) (by omega)).mono ?_
  rintro e w' ⟨⟨k, k1, k2, rfl⟩, rfl⟩
  go_wp2_with fail
  refine (axis_any _ _ _ w5 w6).mono ?_
  rintro e u12 ⟨⟨x0, x1, hx0, hx1, rfl⟩, hb12⟩
  replace s0 := carry (hb12) s0
  replace s1 := carry (hb12) s1
  replace vq0 := carry (hb12) vq0
  replace vq1 := carry (hb12) vq1
  replace hB := below_step hB hb12
  replace hs := hs.carry hb12
  clear hb12
  have vx0 : (u12.alloc (.cells #[.int .i64 (x0), .int .i64 (x1)] 34)).cell? ⟨u12.heap.size, 0, none⟩ = some (.int .i64 (x0)) := World.cell?_alloc_new (w := u12) #[.int .i64 (x0), .int .i64 (x1)] 34 0
  have vx1 : (u12.alloc (.cells #[.int .i64 (x0), .int .i64 (x1)] 34)).cell? ⟨u12.heap.size, 1, none⟩ = some (.int .i64 (x1)) := World.cell?_alloc_new (w := u12) #[.int .i64 (x0), .int .i64 (x1)] 34 1
  replace s0 := carry (alloc_below u12 (.cells #[.int .i64 (x0), .int .i64 (x1)] 34)) s0
  replace s1 := carry (alloc_below u12 (.cells #[.int .i64 (x0), .int .i64 (x1)] 34)) s1
  replace vq0 := carry (alloc_below u12 (.cells #[.int .i64 (x0), .int .i64 (x1)] 34)) vq0
  replace vq1 := carry (alloc_below u12 (.cells #[.int .i64 (x0), .int .i64 (x1)] 34)) vq1
  replace hB := below_step hB (alloc_below u12 (.cells #[.int .i64 (x0), .int .i64 (x1)] 34))
  replace hs := hs.carry (alloc_below u12 (.cells #[.int .i64 (x0), .int .i64 (x1)] 34))
  go_wp2_with fail
  generalize u12.alloc (.cells #[.int .i64 (x0), .int .i64 (x1)] 34) = u13 at *
  have bx0 : Bd x0 := ⟨by omega, by omega⟩
  have bx1 : Bd x1 := ⟨by omega, by omega⟩
  refine (hs.project q0 q1 x0 x1 hq0.bp hq1.bp bx0 bx1).mono ?_
  rintro e u14 ⟨rfl, hb14⟩
  replace s0 := carry (hb14) s0
  replace s1 := carry (hb14) s1
  replace vq0 := carry (hb14) vq0
  replace vq1 := carry (hb14) vq1
  replace vx0 := carry (hb14) vx0
  replace vx1 := carry (hb14) vx1
  replace hB := below_step hB hb14
  replace hs := hs.carry hb14
  clear hb14
  have z1 : IntKind.i64.wrap (i * 1024) = i * 1024 := IntWalk.i64_in _ (by omega)
  have z2 : IntKind.i64.wrap (k * 1024) = k * 1024 := IntWalk.i64_in _ (by omega)
  have bi : Bd (i * 1024) := ⟨by omega, by omega⟩
  have bk : Bd (k * 1024) := ⟨by omega, by omega⟩
  have bs0 : Bp (q0 + i * 1024) := by unfold Be at hq0; unfold Bp; omega
  have bs1 : Bp (q1 + k * 1024) := by unfold Be at hq1; unfold Bp; omega
  have k3 := fun w => add_any q0 q1 (i * 1024) (k * 1024) w hq0.bd hq1.bd bi bk
  have k4 := fun w (h : Sh w s) => h.project (q0 + i * 1024) (q1 + k * 1024) x0 x1 bs0 bs1 bx0 bx1
  rw [Sh.pl_shift, Sh.ph_shift] at k4
  obtain ⟨lb, hb⟩ := hs.proj_bd hq0.bp hq1.bp bx0 bx1
  have px := prod_bd (a := i) (b := x0) (A := 1000) (B := 720) (by omega) (by omega) (by omega) (by omega) (by omega) (by omega)
  have py := prod_bd (a := k) (b := x1) (A := 1000) (B := 720) (by omega) (by omega) (by omega) (by omega) (by omega) (by omega)
  generalize s.pl q0 q1 x0 x1 = lw at *
  generalize s.ph q0 q1 x0 x1 = hg at *
  obtain ⟨L, hL⟩ : ∃ L, L = lw + (i * x0 + k * x1) := ⟨_, rfl⟩
  obtain ⟨H, hH⟩ : ∃ H, H = hg + (i * x0 + k * x1) := ⟨_, rfl⟩
  rw [← hL, ← hH] at k4
  have e1 : (L - lw == i * x0 + k * x1) = true := by rw [hL]; simp; omega
  have e2 : (H - hg == i * x0 + k * x1) = true := by rw [hH]; simp; omega
  have hLb : -2251799815225248 ≤ L ∧ L ≤ 2251799815225248 := by omega
  have hHb : -2251799815225248 ≤ H ∧ H ≤ 2251799815225248 := by omega
  clear hL hH hk
  have hk := Lib.hid (And.intro k3 k4)
  clear k3 k4
  have hsh := Lib.hid hs
  have he := Lib.hid (And.intro e1 e2)
  clear e1 e2
  go_wp2_with fail
  refine wp_region_made (by kernel_rfl) (by kernel_rfl) ?_
  intro W hK
  have g_s0 := fun x => carry ((hK.below x)) s0
  have g_s1 := fun x => carry ((hK.below x)) s1
  have g_vq0 := fun x => carry ((hK.below x)) vq0
  have g_vq1 := fun x => carry ((hK.below x)) vq1
  have g_vx0 := fun x => carry ((hK.below x)) vx0
  have g_vx1 := fun x => carry ((hK.below x)) vx1
  repeat (go_big_quiet_step ((first | (go_at_call 26; with_reducible exact met_made (hk.out.1 _)) | (go_at_call 19; with_reducible exact met_made (hk.out.2 _ (hsh.out.carry (hK.below _)))))))
  refine wpQuiet_nil ?_
  intro wq hw'
  have hbq := kept_in hK hw'
  clear g_s0 g_s1 g_vq0 g_vq1 g_vx0 g_vx1
  clear hw' hK W
  replace s0 := carry (hbq) s0
  replace s1 := carry (hbq) s1
  replace vq0 := carry (hbq) vq0
  replace vq1 := carry (hbq) vq1
  replace vx0 := carry (hbq) vx0
  replace vx1 := carry (hbq) vx1
  replace hB := below_step hB hbq
  clear hbq z1 z2 hk hsh
  obtain ⟨e1, e2⟩ := he.out
  go_wp2_with (go_at_call 15; refine (lives3_any _).mono ?_; rintro e w9 ⟨rfl, hb9⟩)
  go_ret
  exact ⟨rfl, below_step hB hb9⟩

set_option maxRecDepth 100000 in
theorem lifted (os : Os) (started : os.Started) (H : Type) (enc : TypeId × Value → H) :
    ReturnsInHanded {} Try.checked os 8 .any (Rows.shapeTranslationSpec.pre6 enc Try.prog Try.f8 Rows.shapeTranslationRow.domain false) (Rows.shapeTranslationSpec.post enc Try.prog Try.f8 false true false false) := by
  refine returnsInHanded_of_change (C := Try.checked) own started (by kernel_rfl) Try.func8
    (ChangeSpec.witness6 (enc := enc) (C := Try.checked) false ⟨#[], #[.int .i64 0, .int .i64 0, .int .i64 0, .int .i64 0, .int .i64 0, .int .i64 0, .int .i64 0], []⟩ 8 (by kernel_rfl) (by kernel_rfl) (by kernel_rfl) (by kernel_rfl)) ?_
  intro W base args ds gs before hval0 hW hcnd _
  have hval : ∀ (j : Nat) t v, Try.f8.params[j]? = some t → args[j]? = some v → Value.okWide Try.prog W .any base t v := hval0
  have hW' := hW
  obtain ⟨p, q, hA0, hV, rfl, hfz, hnd⟩ := hW
  have hA : DataW.TrodAll enc Try.prog W 0 (fun _ => true) true Try.f8.params.toList args.toList ds p := hA0
  rw [Try.params8] at hA hval
  obtain ⟨v0, vs0, d0, ds0, p0, q0, hargs, rfl, rfl, h0, r0⟩ := trodAll_cons hA
  obtain ⟨v1, vs1, d1, ds1, p1, q1, rfl, rfl, rfl, h1, r1⟩ := trodAll_cons r0
  obtain ⟨v2, vs2, d2, ds2, p2, q2, rfl, rfl, rfl, h2, r2⟩ := trodAll_cons r1
  obtain ⟨v3, vs3, d3, ds3, p3, q3, rfl, rfl, rfl, h3, r3⟩ := trodAll_cons r2
  obtain ⟨v4, vs4, d4, ds4, p4, q4, rfl, rfl, rfl, h4, r4⟩ := trodAll_cons r3
  obtain ⟨v5, vs5, d5, ds5, p5, q5, rfl, rfl, rfl, h5, r5⟩ := trodAll_cons r4
  obtain ⟨v6, vs6, d6, ds6, p6, q6, rfl, rfl, rfl, h6, r6⟩ := trodAll_cons r5
  obtain ⟨rfl, rfl, rfl⟩ := trodAll_nil r6
  obtain rfl : args = #[v0, v1, v2, v3, v4, v5, v6] := by cases args; simp_all
  obtain ⟨rfl, rfl⟩ := trodVars_none hV
  obtain ⟨a0, rfl, rfl, rfl, w0⟩ := open_int Try.underlying3 (hval 0 3 v0 rfl rfl) h0
  obtain ⟨a1, rfl, rfl, rfl, w1⟩ := open_int Try.underlying3 (hval 1 3 v1 rfl rfl) h1
  obtain ⟨a2, rfl, rfl, rfl, w2⟩ := open_int Try.underlying3 (hval 2 3 v2 rfl rfl) h2
  obtain ⟨a3, rfl, rfl, rfl, w3⟩ := open_int Try.underlying3 (hval 3 3 v3 rfl rfl) h3
  obtain ⟨a4, rfl, rfl, rfl, w4⟩ := open_int Try.underlying3 (hval 4 3 v4 rfl rfl) h4
  obtain ⟨a5, rfl, rfl, rfl, w5⟩ := open_int Try.underlying3 (hval 5 3 v5 rfl rfl) h5
  obtain ⟨a6, rfl, rfl, rfl, w6⟩ := open_int Try.underlying3 (hval 6 3 v6 rfl rfl) h6
  clear hA0 hval0
  simp only [List.append_nil] at hW'
  refine (walk a0 w0 a1 w1 a2 w2 a3 w3 a4 w4 a5 w5 a6 w6 W).mono fun e W' ⟨he, hb⟩ => ?_
  subst he
  exact ⟨_, rfl, kept_post (pa := []) hW' (fun _ _ _ => (trodAll_cons_mk (shut_bool Try.underlying4 _) trodAll_mk0)) (fun sp _ => (trodAll_cons_mk (shut_int Try.underlying3 w0) (trodAll_cons_mk (shut_int Try.underlying3 w1) (trodAll_cons_mk (shut_int Try.underlying3 w2) (trodAll_cons_mk (shut_int Try.underlying3 w3) (trodAll_cons_mk (shut_int Try.underlying3 w4) (trodAll_cons_mk (shut_int Try.underlying3 w5) (trodAll_cons_mk (shut_int Try.underlying3 w6) trodAll_mk0)))))))) (fun _ => rfl) hb (ok_one (by kernel_rfl) rfl (okWide_bool_mk Try.underlying4 _))⟩

theorem over : Rows.shapeTranslationRow.holds Try.pinned (OpenSpec.ofChange Rows.shapeTranslationSpec) :=
  OpenClaim.holds_of_wide 8 Try.f8 rfl rfl rfl rfl rfl rfl rfl ⟨rfl, rfl, rfl, rfl, rfl⟩ rfl rfl rfl rfl rfl (by kernel_rfl) Try.func8 (by kernel_rfl)
    (of_decide_eq_true (by kernel_rfl)) (by unfold Func.isWrapper; first | (rw [if_pos (by decide +kernel)]; kernel_rfl) | (rw [if_neg (by decide +kernel)]; exact ⟨rfl, rfl⟩))
    (fun os started H enc _ => lifted os started H enc)

theorem proved : Rows.ShapeTranslationSaid :=
  over
#print axioms proved
end Go.Proofs.Ytololgefpjjpjaa.shapeTranslation
