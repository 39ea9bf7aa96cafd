/-
  Proved: arenanetlaw03.ShapeFirstVertex returns true for all six ints and leaves its arguments as they were. No further condition.
-/
import Derived.Test.YtololgefpjjpjaaRows
import Derived.WalkKit
import Derived.ProofKit
import Derived.OpenShut
import Derived.Test.YtololgefpjjpjaaLawKit
import Derived.Test.YtololgefpjjpjaaShapeL
import Derived.Test.YtololgefpjjpjaaMadeAlloc
namespace Go.Proofs.Ytololgefpjjpjaa.shapeFirstVertex
open Go.ChangeShapes Go.WideShapes Go.ChangeAt Go.RowKit
set_option linter.unusedVariables false
set_option linter.unusedSimpArgs false

open Fxm
theorem rev_take {vs : List (Int × Int)} {j : Nat} (h : j < vs.length) : flatV (vs.reverse.take (vs.length - j)) = flatV (vs.reverse.take (vs.length - (j + 1))) ++ [.int .i64 (at' vs j).1, .int .i64 (at' vs j).2] := by
  have hc : vs.length - (j + 1) < vs.reverse.length := by simp; omega
  have e := at_rev (vs := vs) (i := vs.length - (j + 1)) (by omega)
  rw [at_eq hc, show vs.length - 1 - (vs.length - (j + 1)) = j by omega] at e
  rw [show vs.length - j = vs.length - (j + 1) + 1 by omega, List.take_succ_eq_append_getElem hc, flatV_append, e]
  rfl
theorem own : ownKnob Try.prog.godebug = none := by kernel_rfl

set_option maxHeartbeats 2000000 in
theorem walk (a0 : Int) (w0 : (Lit.int .i64 a0).wf = true) (a1 : Int) (w1 : (Lit.int .i64 a1).wf = true) (a2 : Int) (w2 : (Lit.int .i64 a2).wf = true) (a3 : Int) (w3 : (Lit.int .i64 a3).wf = true) (a4 : Int) (w4 : (Lit.int .i64 a4).wf = true) (a5 : Int) (w5 : (Lit.int .i64 a5).wf = true) (w : World) :
    Calls Try.prog 9 #[.int .i64 a0, .int .i64 a1, .int .i64 a2, .int .i64 a3, .int .i64 a4, .int .i64 a5] w fun e w' => e = .returned (.bool true) ∧ Below w.heap.size w w' := by
  go_enter Try.func9, Try.ntmps9
  go_wp2_with fail
  refine (shapes_any _ _ w0).mono ?_
  rintro e u1 ⟨s, rfl, hs, hb1⟩
  have hB := hb1
  clear hb1
  go_wp2_with fail
  refine ((hs.carry (alloc_below u1 (.cells #[.int .i64 s.r, .slice s.a s.n s.cap] 24))).turned a1 w1).mono ?_
  rintro e u2 ⟨t, rfl, hal, ht, hb2⟩
  have hal' := Lib.hid hal
  clear hal
  have s0 := carry hb2 (a := ⟨u1.heap.size, 0, none⟩) (v := .int .i64 s.r) (by simp)
  have s1 := carry hb2 (a := ⟨u1.heap.size, 1, none⟩) (v := .slice s.a s.n s.cap) (by simp)
  replace hB := below_step (below_step hB (alloc_below _ _)) hb2
  replace hs := (hs.carry (alloc_below _ _)).carry hb2
  clear hb2
  go_wp2_with fail
  with_reducible refine (of_any _ _ _ (wrap64_wf _) (wrap64_wf _)).mono ?_
  rintro e u3 ⟨⟨q0, q1, hq0, hq1, rfl⟩, hb3⟩
  have t0 := carry hb3 (a := ⟨u2.heap.size, 0, none⟩) (v := .int .i64 t.r) (by simp)
  have t1 := carry hb3 (a := ⟨u2.heap.size, 1, none⟩) (v := .slice t.a t.n t.cap) (by simp)
  have hst := below_step (alloc_below u2 (.cells #[.int .i64 t.r, .slice t.a t.n t.cap] 24)) hb3
  clear hb3
  replace s0 := carry (hst) s0
  replace s1 := carry (hst) s1
  replace hB := below_step hB hst
  replace hs := hs.carry hst
  replace ht := ht.carry hst
  clear hst
  have vq0 : (u3.alloc (.cells #[.int .i64 (q0), .int .i64 (q1)] 34)).cell? ⟨u3.heap.size, 0, none⟩ = some (.int .i64 (q0)) := World.cell?_alloc_new (w := u3) #[.int .i64 (q0), .int .i64 (q1)] 34 0
  have vq1 : (u3.alloc (.cells #[.int .i64 (q0), .int .i64 (q1)] 34)).cell? ⟨u3.heap.size, 1, none⟩ = some (.int .i64 (q1)) := World.cell?_alloc_new (w := u3) #[.int .i64 (q0), .int .i64 (q1)] 34 1
  replace s0 := carry (alloc_below u3 (.cells #[.int .i64 (q0), .int .i64 (q1)] 34)) s0
  replace s1 := carry (alloc_below u3 (.cells #[.int .i64 (q0), .int .i64 (q1)] 34)) s1
  replace t0 := carry (alloc_below u3 (.cells #[.int .i64 (q0), .int .i64 (q1)] 34)) t0
  replace t1 := carry (alloc_below u3 (.cells #[.int .i64 (q0), .int .i64 (q1)] 34)) t1
  replace hB := below_step hB (alloc_below u3 (.cells #[.int .i64 (q0), .int .i64 (q1)] 34))
  replace hs := hs.carry (alloc_below u3 (.cells #[.int .i64 (q0), .int .i64 (q1)] 34))
  replace ht := ht.carry (alloc_below u3 (.cells #[.int .i64 (q0), .int .i64 (q1)] 34))
  go_wp2_with fail
  generalize u3.alloc (.cells #[.int .i64 (q0), .int .i64 (q1)] 34) = u4 at *
  have hn0 := hs.nx_bd a4
  have hn1 := hs.ny_bd a5
  have k2 := fun w => add_any q0 q1 (s.nx a4) (s.ny a5) w hq0.bd hq1.bd (near_bd hn0) (near_bd hn1)
  have k1 := fun w (h : Sh w s) => h.near a4 a5 w4 w5
  have hp0 := hq0.near hn0
  have hp1 := hq1.near hn1
  generalize s.nx a4 = m0 at *
  generalize s.ny a5 = m1 at *
  have hk := Lib.hid (And.intro k1 k2)
  clear k1 k2
  have hsh := Lib.hid hs
  refine wp_region_alloc_last 6 (some 16) (.cells #[.int .i64 0, .int .i64 0] 34) (by kernel_rfl) (by kernel_rfl) ⟨_, rfl, rfl, fun _ => rfl, fun _ _ => by kernel_rfl⟩ ?_
  apply Exists.intro
  refine ⟨fun W hK E hE => ?_, ?_⟩
  · skip
    have g_s0 := fun x => carry ((hK.below x)) s0
    have g_s1 := fun x => carry ((hK.below x)) s1
    have g_t0 := fun x => carry ((hK.below x)) t0
    have g_t1 := fun x => carry ((hK.below x)) t1
    have g_vq0 := fun x => carry ((hK.below x)) vq0
    have g_vq1 := fun x => carry ((hK.below x)) vq1
    simp only [List.take_succ_cons, List.take_zero]
    repeat (go_big_quiet_step ((first | (go_at_call 18; with_reducible exact met_made (hk.out.1 _ (hsh.out.carry (hK.below _)))) | (go_at_call 26; with_reducible exact met_made (hk.out.2 _)))))
    refine wpQuiet_nil ?_
    exact hE
  intro B wq hBB hbq hheap
  simp only [List.drop_succ_cons, List.drop_zero, Act.put, List.setIfInBounds_toArray, List.set_cons_zero, List.set_cons_succ]
  have hstep := (hbq.setCell (p := ⟨B, 0, none⟩) hBB (.int .i64 (q0 + m0))).setCell (p := ⟨B, 1, none⟩) hBB (.int .i64 (q1 + m1))
  replace s0 := carry (hstep) s0
  replace s1 := carry (hstep) s1
  replace t0 := carry (hstep) t0
  replace t1 := carry (hstep) t1
  replace vq0 := carry (hstep) vq0
  replace vq1 := carry (hstep) vq1
  have hh := heap_setCell (heap_setCell hheap 0 (.int .i64 (q0 + m0))) 1 (.int .i64 (q1 + m1))
  have vn0 := heap_cell hh 0
  have vn1 := heap_cell hh 1
  simp at vn0 vn1
  have hcB := heap_cell hheap
  have hfB := heap_frozen hheap
  clear hh hheap
  replace hB := below_step hB hstep
  replace hs := hs.carry hstep
  replace ht := ht.carry hstep
  go_wp2_with fail
  generalize (wq.setCell ⟨B, 0, none⟩ (.int .i64 (q0 + m0))).setCell ⟨B, 1, none⟩ (.int .i64 (q1 + m1)) = u5 at *
  obtain ⟨Bp0, hBp0⟩ : ∃ x, x = B := ⟨_, rfl⟩
  rw [← hBp0] at vn0 vn1
  rw [← hBp0]
  clear hcB hfB hstep hbq hBB hsh hk hBp0 wq
  refine (axis_any _ _ _ w4 w5).mono ?_
  rintro e u6 ⟨⟨x0, x1, hx0, hx1, rfl⟩, hb6⟩
  replace s0 := carry (hb6) s0
  replace s1 := carry (hb6) s1
  replace t0 := carry (hb6) t0
  replace t1 := carry (hb6) t1
  replace vq0 := carry (hb6) vq0
  replace vq1 := carry (hb6) vq1
  replace vn0 := carry (hb6) vn0
  replace vn1 := carry (hb6) vn1
  replace hB := below_step hB hb6
  replace hs := hs.carry hb6
  replace ht := ht.carry hb6
  clear hb6
  have vx0 : (u6.alloc (.cells #[.int .i64 (x0), .int .i64 (x1)] 34)).cell? ⟨u6.heap.size, 0, none⟩ = some (.int .i64 (x0)) := World.cell?_alloc_new (w := u6) #[.int .i64 (x0), .int .i64 (x1)] 34 0
  have vx1 : (u6.alloc (.cells #[.int .i64 (x0), .int .i64 (x1)] 34)).cell? ⟨u6.heap.size, 1, none⟩ = some (.int .i64 (x1)) := World.cell?_alloc_new (w := u6) #[.int .i64 (x0), .int .i64 (x1)] 34 1
  replace s0 := carry (alloc_below u6 (.cells #[.int .i64 (x0), .int .i64 (x1)] 34)) s0
  replace s1 := carry (alloc_below u6 (.cells #[.int .i64 (x0), .int .i64 (x1)] 34)) s1
  replace t0 := carry (alloc_below u6 (.cells #[.int .i64 (x0), .int .i64 (x1)] 34)) t0
  replace t1 := carry (alloc_below u6 (.cells #[.int .i64 (x0), .int .i64 (x1)] 34)) t1
  replace vq0 := carry (alloc_below u6 (.cells #[.int .i64 (x0), .int .i64 (x1)] 34)) vq0
  replace vq1 := carry (alloc_below u6 (.cells #[.int .i64 (x0), .int .i64 (x1)] 34)) vq1
  replace vn0 := carry (alloc_below u6 (.cells #[.int .i64 (x0), .int .i64 (x1)] 34)) vn0
  replace vn1 := carry (alloc_below u6 (.cells #[.int .i64 (x0), .int .i64 (x1)] 34)) vn1
  replace hB := below_step hB (alloc_below u6 (.cells #[.int .i64 (x0), .int .i64 (x1)] 34))
  replace hs := hs.carry (alloc_below u6 (.cells #[.int .i64 (x0), .int .i64 (x1)] 34))
  replace ht := ht.carry (alloc_below u6 (.cells #[.int .i64 (x0), .int .i64 (x1)] 34))
  go_wp2_with fail
  generalize u6.alloc (.cells #[.int .i64 (x0), .int .i64 (x1)] 34) = u7 at *
  have bx0 : Bd x0 := ⟨by omega, by omega⟩
  have bx1 : Bd x1 := ⟨by omega, by omega⟩
  have k1 := fun w (h : Sh w s) => h.project q0 q1 x0 x1 hq0.bp hq1.bp bx0 bx1
  have k2 := fun w (h : Sh w t) => h.project q0 q1 x0 x1 hq0.bp hq1.bp bx0 bx1
  rw [hal'.out.2.1, hal'.out.2.2.1] at k2
  have k3 := fun w (h : Sh w t) => h.validate
  have k4 := fun w (h : Sh w s) => h.bounds q0 q1 hq0.bp hq1.bp
  have k5 := fun w (h : Sh w t) => h.bounds q0 q1 hq0.bp hq1.bp
  rw [hal'.out.2.2.2.1, hal'.out.2.2.2.2.1, hal'.out.2.2.2.2.2.1, hal'.out.2.2.2.2.2.2] at k5
  have k6 := fun w (h : Sh w s) => h.contains q0 q1 (q0 + m0) (q1 + m1) hq0.bd hq1.bd hp0 hp1
  have k7 := fun w (h : Sh w t) => h.contains q0 q1 (q0 + m0) (q1 + m1) hq0.bd hq1.bd hp0 hp1
  rw [hal'.out.1] at k7
  generalize s.pl q0 q1 x0 x1 = lw at *
  generalize s.ph q0 q1 x0 x1 = hg at *
  generalize q0 + s.xa = xa at *
  generalize q1 + s.ya = ya at *
  generalize q0 + s.xb = xb at *
  generalize q1 + s.yb = yb at *
  generalize s.ins (q0 + m0 - q0, q1 + m1 - q1) = c at *
  generalize q0 + m0 = P0 at *
  generalize q1 + m1 = P1 at *
  have hk := Lib.hid (And.intro k1 (And.intro k2 (And.intro k3 (And.intro k4 (And.intro k5 (And.intro k6 k7))))))
  clear k1 k2 k3 k4 k5 k6 k7
  refine (hk.out.1 _ hs).mono ?_
  rintro e u8 ⟨rfl, hb8⟩
  replace s0 := carry (hb8) s0
  replace s1 := carry (hb8) s1
  replace t0 := carry (hb8) t0
  replace t1 := carry (hb8) t1
  replace vq0 := carry (hb8) vq0
  replace vq1 := carry (hb8) vq1
  replace vn0 := carry (hb8) vn0
  replace vn1 := carry (hb8) vn1
  replace vx0 := carry (hb8) vx0
  replace vx1 := carry (hb8) vx1
  replace hB := below_step hB hb8
  replace hs := hs.carry hb8
  replace ht := ht.carry hb8
  clear hb8
  go_wp2_with fail
  refine (hk.out.2.1 _ ht).mono ?_
  rintro e u9 ⟨rfl, hb9⟩
  replace s0 := carry (hb9) s0
  replace s1 := carry (hb9) s1
  replace t0 := carry (hb9) t0
  replace t1 := carry (hb9) t1
  replace vq0 := carry (hb9) vq0
  replace vq1 := carry (hb9) vq1
  replace vn0 := carry (hb9) vn0
  replace vn1 := carry (hb9) vn1
  replace hB := below_step hB hb9
  replace hs := hs.carry hb9
  replace ht := ht.carry hb9
  clear hb9
  clear vx0 vx1
  have hsh := Lib.hid hs
  have hth := Lib.hid ht
  go_wp2_with fail
  refine wp_region_made (by kernel_rfl) (by kernel_rfl) ?_
  intro W hK
  have g_s0 := fun x => carry ((hK.below x)) s0
  have g_s1 := fun x => carry ((hK.below x)) s1
  have g_t0 := fun x => carry ((hK.below x)) t0
  have g_t1 := fun x => carry ((hK.below x)) t1
  have g_vq0 := fun x => carry ((hK.below x)) vq0
  have g_vq1 := fun x => carry ((hK.below x)) vq1
  have g_vn0 := fun x => carry ((hK.below x)) vn0
  have g_vn1 := fun x => carry ((hK.below x)) vn1
  repeat (go_big_quiet_step ((first | (go_at_call 14; with_reducible exact met_made (hk.out.2.2.1 _ (hth.out.carry (hK.below _)))) | (go_at_call 21; with_reducible exact met_made (hk.out.2.2.2.1 _ (hsh.out.carry (hK.below _)))) | (go_at_call 21; with_reducible exact met_made (hk.out.2.2.2.2.1 _ (hth.out.carry (hK.below _)))) | (go_at_call 24; with_reducible exact met_made (hk.out.2.2.2.2.2.1 _ (hsh.out.carry (hK.below _)))) | (go_at_call 24; with_reducible exact met_made (hk.out.2.2.2.2.2.2 _ (hth.out.carry (hK.below _)))))))
  refine wpQuiet_nil ?_
  intro wq hw'
  have hbq := kept_in hK hw'
  clear g_s0 g_s1 g_t0 g_t1 g_vq0 g_vq1 g_vn0 g_vn1
  clear hw' hK W
  replace s0 := carry (hbq) s0
  replace s1 := carry (hbq) s1
  replace t0 := carry (hbq) t0
  replace t1 := carry (hbq) t1
  replace vq0 := carry (hbq) vq0
  replace vq1 := carry (hbq) vq1
  replace vn0 := carry (hbq) vn0
  replace vn1 := carry (hbq) vn1
  replace hB := below_step hB hbq
  replace hs := hs.carry hbq
  clear hbq hk hsh hth ht vq0 vq1 vn0 vn1 t0 t1
  cases s with
  | c r =>
    replace s0 : wq.cell? ⟨u1.heap.size, 0, none⟩ = some (.int .i64 r) := s0
    replace s1 : wq.cell? ⟨u1.heap.size, 1, none⟩ = some (.slice none 0 0) := s1
    go_wp2_with fail
    go_loopw [22, 23] (fun v i wr => v = .slice none 0 0 ∧ i = .int .i64 (-1) ∧ wr = wq) (fun _ _ _ => 0)
    case atStart => exact ⟨rfl, rfl, rfl⟩
    case round =>
      obtain ⟨rfl, rfl, rfl⟩ := hrel
      go_wp2_with fail
      refine (lives3_any _).mono ?_
      rintro e x9 ⟨rfl, hb9⟩
      go_wp2
      go_ret
      exact ⟨rfl, below_step hB hb9⟩
  | p g cap vs =>
    replace s0 : wq.cell? ⟨u1.heap.size, 0, none⟩ = some (.int .i64 0) := s0
    replace s1 : wq.cell? ⟨u1.heap.size, 1, none⟩ = some (.slice (some ⟨g, 0, none⟩) vs.length cap) := s1
    have hG := Lib.hid hs.2
    have hRh := Lib.hid hs.1
    have hcap := hs.1.le
    have hmax := hs.1.max
    unfold maxLen at hmax
    have hl3 := hs.2.lo
    have hl6 := hs.2.hi
    have hlb : (vs.length : Int) ≤ 6 := by omega
    have hla : 3 ≤ (vs.length : Int) := by omega
    obtain ⟨i0, hi0, hz0, hz1, hz2⟩ := info_parts vinfo
    clear hs
    go_wp2_with fail
    go_loopw [22, 23] (fun v i wr => ∃ j : Nat, j ≤ vs.length ∧ i = .int .i64 ((j : Int) - 1) ∧ wr.ownsRow wq.heap.size 34 2 v (vs.length - j) (flatV (vs.reverse.take (vs.length - j))) ∧ Below wq.heap.size wq wr) (fun _ i _ => (intOf i + 1).toNat)
    case atStart => exact ⟨vs.length, Nat.le_refl _, rfl, by rw [Nat.sub_self]; exact World.ownsRow_nil _ _ _ _, Below.refl _ _⟩
    case round =>
      obtain ⟨j, hj, rfl, hown, hbl⟩ := hrel
      replace s1 := carry hbl s1
      cases j with
      | zero =>
        rw [show ((0 : Nat) : Int) - 1 = -1 by rfl]
        rw [Nat.sub_zero, show vs.reverse.take vs.length = vs.reverse from List.take_of_length_le (by simp)] at hown
        obtain ⟨g2, c2, rfl⟩ := owned_shape hown (by omega)
        have hR2 := Row.owned hown (by simp)
        have hP : Poly wr (.slice (some ⟨g2, 0, none⟩) vs.length c2) vs.reverse := Or.inr ⟨g2, 0, c2, by simp, hR2.o⟩
        have hP' := Lib.hid hP
        have hl0 : ((vs.length : Int) == 0) = false := by simp only [beq_eq_false_iff_ne, ne_eq]; omega
        clear hP hR2 hown
        go_wp2_with fail
        refine (validate_no hP'.out (hG.out.reverse 0)).mono ?_
        rintro e x8 ⟨rfl, hb8⟩
        go_wp2_with fail
        refine (lives3_any _).mono ?_
        rintro e x9 ⟨rfl, hb9⟩
        go_wp2
        go_ret
        exact ⟨rfl, below_step (below_step (below_step hB hbl) hb8) hb9⟩
      | succ j =>
        rw [show ((j + 1 : Nat) : Int) - 1 = (j : Int) by omega]
        obtain ⟨vx, vy⟩ := (hRh.out.carry hbl).at (i := j) (by omega)
        have hrt := Lib.hid (rev_take (vs := vs) (j := j) (by omega))
        have hjl : (j : Int) < (vs.length : Int) := by omega
        have hz := hbl.size
        have ej := Lib.hid (show vs.length - (j + 1) + 1 = vs.length - j by omega)
        generalize (at' vs j).1 = p0 at *
        generalize (at' vs j).2 = p1 at *
        go_wp2_with (at_builtin; refine append_row rfl _ _ 22 rfl wq.heap.size 34 i0 _ 2 16 Try.underlying22 hi0 hz0 hz1 hz2 rfl (by omega) _ (vs.length - (j + 1)) _ rfl (hown.alloc _) ⟨wr.heap.size, 0, none⟩ 1 1 [.int .i64 p0, .int .i64 p1] rfl rfl (World.news_of_block (cs := #[.int .i64 p0, .int .i64 p1]) (t := 34) (fr := (0, 0)) (heap_alloc_new wr _)) (by simp [Value.oneCell']) (by unfold maxLen; omega) (by omega) (by simp; omega) (by omega) ?_; intro gg c2 w2 hown1 hb2; rw [ej.out] at hown1; rw [ej.out])
        go_roundw
        case rel => exact ⟨j, by omega, rfl, by rw [hrt.out]; exact hown1, (hbl.alloc hz _).trans hb2⟩
        case measure => simp [intOf]

set_option maxRecDepth 100000 in
theorem lifted (os : Os) (started : os.Started) (H : Type) (enc : TypeId × Value → H) :
    ReturnsInHanded {} Try.checked os 9 .any (Rows.shapeFirstVertexSpec.pre6 enc Try.prog Try.f9 Rows.shapeFirstVertexRow.domain false) (Rows.shapeFirstVertexSpec.post enc Try.prog Try.f9 false true false false) := by
  refine returnsInHanded_of_change (C := Try.checked) own started (by kernel_rfl) Try.func9
    (ChangeSpec.witness6 (enc := enc) (C := Try.checked) false ⟨#[], #[.int .i64 0, .int .i64 0, .int .i64 0, .int .i64 0, .int .i64 0, .int .i64 0], []⟩ 8 (by kernel_rfl) (by kernel_rfl) (by kernel_rfl) (by kernel_rfl)) ?_
  intro W base args ds gs before hval0 hW hcnd _
  have hval : ∀ (j : Nat) t v, Try.f9.params[j]? = some t → args[j]? = some v → Value.okWide Try.prog W .any base t v := hval0
  have hW' := hW
  obtain ⟨p, q, hA0, hV, rfl, hfz, hnd⟩ := hW
  have hA : DataW.TrodAll enc Try.prog W 0 (fun _ => true) true Try.f9.params.toList args.toList ds p := hA0
  rw [Try.params9] at hA hval
  obtain ⟨v0, vs0, d0, ds0, p0, q0, hargs, rfl, rfl, h0, r0⟩ := trodAll_cons hA
  obtain ⟨v1, vs1, d1, ds1, p1, q1, rfl, rfl, rfl, h1, r1⟩ := trodAll_cons r0
  obtain ⟨v2, vs2, d2, ds2, p2, q2, rfl, rfl, rfl, h2, r2⟩ := trodAll_cons r1
  obtain ⟨v3, vs3, d3, ds3, p3, q3, rfl, rfl, rfl, h3, r3⟩ := trodAll_cons r2
  obtain ⟨v4, vs4, d4, ds4, p4, q4, rfl, rfl, rfl, h4, r4⟩ := trodAll_cons r3
  obtain ⟨v5, vs5, d5, ds5, p5, q5, rfl, rfl, rfl, h5, r5⟩ := trodAll_cons r4
  obtain ⟨rfl, rfl, rfl⟩ := trodAll_nil r5
  obtain rfl : args = #[v0, v1, v2, v3, v4, v5] := by cases args; simp_all
  obtain ⟨rfl, rfl⟩ := trodVars_none hV
  obtain ⟨a0, rfl, rfl, rfl, w0⟩ := open_int Try.underlying3 (hval 0 3 v0 rfl rfl) h0
  obtain ⟨a1, rfl, rfl, rfl, w1⟩ := open_int Try.underlying3 (hval 1 3 v1 rfl rfl) h1
  obtain ⟨a2, rfl, rfl, rfl, w2⟩ := open_int Try.underlying3 (hval 2 3 v2 rfl rfl) h2
  obtain ⟨a3, rfl, rfl, rfl, w3⟩ := open_int Try.underlying3 (hval 3 3 v3 rfl rfl) h3
  obtain ⟨a4, rfl, rfl, rfl, w4⟩ := open_int Try.underlying3 (hval 4 3 v4 rfl rfl) h4
  obtain ⟨a5, rfl, rfl, rfl, w5⟩ := open_int Try.underlying3 (hval 5 3 v5 rfl rfl) h5
  clear hA0 hval0
  simp only [List.append_nil] at hW'
  refine (walk a0 w0 a1 w1 a2 w2 a3 w3 a4 w4 a5 w5 W).mono fun e W' ⟨he, hb⟩ => ?_
  subst he
  exact ⟨_, rfl, kept_post (pa := []) hW' (fun _ _ _ => (trodAll_cons_mk (shut_bool Try.underlying4 _) trodAll_mk0)) (fun sp _ => (trodAll_cons_mk (shut_int Try.underlying3 w0) (trodAll_cons_mk (shut_int Try.underlying3 w1) (trodAll_cons_mk (shut_int Try.underlying3 w2) (trodAll_cons_mk (shut_int Try.underlying3 w3) (trodAll_cons_mk (shut_int Try.underlying3 w4) (trodAll_cons_mk (shut_int Try.underlying3 w5) trodAll_mk0))))))) (fun _ => rfl) hb (ok_one (by kernel_rfl) rfl (okWide_bool_mk Try.underlying4 _))⟩

theorem over : Rows.shapeFirstVertexRow.holds Try.pinned (OpenSpec.ofChange Rows.shapeFirstVertexSpec) :=
  OpenClaim.holds_of_wide 9 Try.f9 rfl rfl rfl rfl rfl rfl rfl ⟨rfl, rfl, rfl, rfl, rfl⟩ rfl rfl rfl rfl rfl (by kernel_rfl) Try.func9 (by kernel_rfl)
    (of_decide_eq_true (by kernel_rfl)) (by unfold Func.isWrapper; first | (rw [if_pos (by decide +kernel)]; kernel_rfl) | (rw [if_neg (by decide +kernel)]; exact ⟨rfl, rfl⟩))
    (fun os started H enc _ => lifted os started H enc)

theorem proved : Rows.ShapeFirstVertexSaid :=
  over
#print axioms proved
end Go.Proofs.Ytololgefpjjpjaa.shapeFirstVertex
