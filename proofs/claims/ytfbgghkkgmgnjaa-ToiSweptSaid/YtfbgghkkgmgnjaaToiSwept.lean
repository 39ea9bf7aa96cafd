/-
  package toi, P6.4, P3.2: for every two bodies made of numbers and every separation of up to 1000, if the bounding boxes over the whole motion do not overlap, the result is One; they never overlap if the second body is placed beyond the first one's box; and the section's example holds; whatever the arguments are.
-/
import Derived.Test.YtfbgghkkgmgnjaaRows
import Derived.WalkKit
import Derived.ProofKit
import Derived.OpenShut
import Derived.Test.YtfbgghkkgmgnjaaOpen
import Derived.Test.YtfbgghkkgmgnjaaToiG
import Derived.Deep.DeepCutAuto
import Derived.Deep.CutBlock
import Derived.WalkLawsBesides
namespace Go.Proofs.Ytfbgghkkgmgnjaa.toiSwept
open Go.ChangeShapes Go.WideShapes Go.ChangeAt Go.RowKit
set_option linter.unusedVariables false
set_option linter.unusedSimpArgs false

open Fxm
theorem body_x {W : World} {B : Nat} {s : Sp} {p0 p1 v0 v1 : Int} (h : W.heap[B]? = some (bodyO s p0 p1 v0 v1)) (x : Int) : (W.setCell ⟨B, 2, none⟩ (.int .i64 x)).heap[B]? = some (bodyO s x p1 v0 v1) := by
  have := heap_setCell h 2 (.int .i64 x)
  simpa [bodyO] using this
theorem set_sh1 {W : World} {A : Nat} {s t : Sp} {p0 p1 v0 v1 : Int} (h : Sh W t) (hA : W.heap[A]? = some (bodyO s p0 p1 v0 v1)) (x : Value) : Sh (W.setCell ⟨A, 2, none⟩ x) t :=
  h.keep (S := fun r => r ≠ A) (KeepOn.setCell (S := fun r => r ≠ A) (p := ⟨A, 2, none⟩) x (fun h => h rfl)) (h.off hA)
theorem abs_po {m : Int} (h : ¬ 1048576 < absV m) : Po m := by
  rcases absV_spec m with ⟨h1, h2⟩ | ⟨h1, h2⟩ <;> (unfold Po; omega)
theorem own : ownKnob Try.prog.godebug = none := by kernel_rfl
theorem laid : laidOutB Try.prog = true := by kernel_rfl

set_option maxRecDepth 100000 in
set_option maxHeartbeats 8000000 in
theorem walk (w : World) (s0 : Value) (Z0 : Nat → Int) (l0 : Nat) (H0 : IntsAt w s0 1 Z0 l0) (a1 : Int) (w1 : (Lit.int .i64 a1).wf = true) :
    Calls Try.prog 10 #[s0, .int .i64 a1] w fun e w' => e = .returned (.bool true) ∧ Below w.heap.size w w' := by
  obtain ⟨i1, i2⟩ := wf64 w1
  have kb1 := Lib.hid (fun W => around_any a1 1000 W i1 i2 (by omega))
  have gb := arnd_bd a1 (m := 1000) (by omega)
  obtain ⟨gap, hgap⟩ : ∃ x, x = arnd a1 1000 := ⟨_, rfl⟩
  rw [← hgap] at kb1 gb
  clear i1 i2 hgap
  have H0' := Lib.hid H0
  clear H0
  go_enter Try.func10, Try.ntmps10
  go_wp2_with fail
  refine (pair_any _ _ _ _ H0'.out).mono ?_
  rintro e u1 ⟨⟨s, t, p0, p1, v0, v1, q0, q1, y0, y1, ok, rfl, hs, ht⟩, hB⟩
  have hwA : w.heap.size ≤ u1.heap.size := hB.size
  go_upto_region 2 with fail
  have hA := (Below.heap_alloc (u1.alloc (bodyO s p0 p1 v0 v1)) (bodyO t q0 q1 y0 y1) u1.heap.size (by simp)).trans (World.alloc_heap_new u1 (bodyO s p0 p1 v0 v1))
  have hBo := World.alloc_heap_new (u1.alloc (bodyO s p0 p1 v0 v1)) (bodyO t q0 q1 y0 y1)
  rw [World.size_alloc] at hBo
  have hb2 := below_step (alloc_below u1 (bodyO s p0 p1 v0 v1)) (alloc_below _ (bodyO t q0 q1 y0 y1))
  obtain ⟨V, hV⟩ : ∃ V, V = (u1.alloc (bodyO s p0 p1 v0 v1)).alloc (bodyO t q0 q1 y0 y1) := ⟨_, rfl⟩
  rw [← hV] at hA hBo hb2
  rw [show (u1.alloc (.cells #[.int .i64 s.r, .slice s.a s.n s.cap, .int .i64 (p0), .int .i64 (p1), .int .i64 (v0), .int .i64 (v1)] 50)).alloc (.cells #[.int .i64 t.r, .slice t.a t.n t.cap, .int .i64 (q0), .int .i64 (q1), .int .i64 (y0), .int .i64 (y1)] 50) = V from hV.symm]
  replace hB := below_step hB hb2
  have hsh := Lib.hid (And.intro (hs.carry hb2) (ht.carry hb2))
  have op0 : Po p0 := by have := ok.p0; unfold Po; omega
  have op1 : Po p1 := by have := ok.p1; unfold Po; omega
  have oq0 : Po q0 := by have := ok.q0; unfold Po; omega
  have oq1 : Po q1 := by have := ok.q1; unfold Po; omega
  have ov0 := ok.v0
  have ov1 := ok.v1
  have oy0 := ok.u0
  have oy1 := ok.u1
  have hok := Lib.hid ok
  clear hV hb2 hs ht ok H0'
  generalize u1.heap.size = A at *
  have hE := Lib.hid (fun w (h : Sh w s) (h' : Sh w t) => earliest6_any s t p0 p1 v0 v1 q0 q1 y0 y1 w h h' op0 op1 ov0 ov1 oq0 oq1 oy0 oy1)
  have hS1 := Lib.hid (fun w (h : Sh w s) => swept_any s p0 p1 v0 v1 w h op0 op1 ov0 ov1)
  have hS2 := Lib.hid (fun w (h : Sh w t) => swept_any t q0 q1 y0 y1 w h oq0 oq1 oy0 oy1)
  obtain ⟨a0, a1, a2, a3, a4, a5⟩ := body_cells hA
  obtain ⟨b0, b1, b2, b3, b4, b5⟩ := body_cells hBo
  go_wp2_with fail
  refine (hS1.out _ hsh.out.1).mono ?_
  rintro e u2 ⟨⟨x0, z0, x1, z1, rfl, hsw, hN⟩, hb1⟩
  have hsw1 := Lib.hid hsw
  have hN1 := Lib.hid hN
  replace hA := hcarry (hb1) hA
  replace hBo := hcarry (hb1) hBo
  replace a0 := carry (hb1) a0
  replace a1 := carry (hb1) a1
  replace a2 := carry (hb1) a2
  replace a3 := carry (hb1) a3
  replace a4 := carry (hb1) a4
  replace a5 := carry (hb1) a5
  replace b0 := carry (hb1) b0
  replace b1 := carry (hb1) b1
  replace b2 := carry (hb1) b2
  replace b3 := carry (hb1) b3
  replace b4 := carry (hb1) b4
  replace b5 := carry (hb1) b5
  replace hB := below_step hB hb1
  replace hsh := Lib.hid (And.intro (hsh.out.1.carry hb1) (hsh.out.2.carry hb1))
  clear hb1
  clear hsw hN hS1
  have hAX : A + 1 < u2.heap.size := (Array.getElem?_eq_some_iff.1 hBo).1
  go_upto_region 3 with fail
  have hX := World.alloc_heap_new u2 (boxO x0 z0 x1 z1)
  have hb1 := alloc_below u2 (boxO x0 z0 x1 z1)
  obtain ⟨V2, hV2⟩ : ∃ V2, V2 = u2.alloc (boxO x0 z0 x1 z1) := ⟨_, rfl⟩
  rw [← hV2] at hX hb1
  rw [show u2.alloc (.cells #[.int .i64 x0, .int .i64 z0, .int .i64 x1, .int .i64 z1] 41) = V2 from hV2.symm]
  replace hA := hcarry (hb1) hA
  replace hBo := hcarry (hb1) hBo
  replace a0 := carry (hb1) a0
  replace a1 := carry (hb1) a1
  replace a2 := carry (hb1) a2
  replace a3 := carry (hb1) a3
  replace a4 := carry (hb1) a4
  replace a5 := carry (hb1) a5
  replace b0 := carry (hb1) b0
  replace b1 := carry (hb1) b1
  replace b2 := carry (hb1) b2
  replace b3 := carry (hb1) b3
  replace b4 := carry (hb1) b4
  replace b5 := carry (hb1) b5
  replace hB := below_step hB hb1
  replace hsh := Lib.hid (And.intro (hsh.out.1.carry hb1) (hsh.out.2.carry hb1))
  clear hb1
  clear hV2
  generalize u2.heap.size = X at *
  go_wp2_with fail
  refine (hS2.out _ hsh.out.2).mono ?_
  rintro e u3 ⟨⟨x2, z2, x3, z3, rfl, hsw, hN⟩, hb1⟩
  have hsw2 := Lib.hid hsw
  have hN2 := Lib.hid hN
  replace hA := hcarry (hb1) hA
  replace hBo := hcarry (hb1) hBo
  replace hX := hcarry (hb1) hX
  replace a0 := carry (hb1) a0
  replace a1 := carry (hb1) a1
  replace a2 := carry (hb1) a2
  replace a3 := carry (hb1) a3
  replace a4 := carry (hb1) a4
  replace a5 := carry (hb1) a5
  replace b0 := carry (hb1) b0
  replace b1 := carry (hb1) b1
  replace b2 := carry (hb1) b2
  replace b3 := carry (hb1) b3
  replace b4 := carry (hb1) b4
  replace b5 := carry (hb1) b5
  replace hB := below_step hB hb1
  replace hsh := Lib.hid (And.intro (hsh.out.1.carry hb1) (hsh.out.2.carry hb1))
  clear hb1
  clear hsw hN hS2
  have hXY : X < u3.heap.size := (Array.getElem?_eq_some_iff.1 hX).1
  go_upto_region 4 with fail
  have hY := World.alloc_heap_new u3 (boxO x2 z2 x3 z3)
  have hb1 := alloc_below u3 (boxO x2 z2 x3 z3)
  obtain ⟨V3, hV3⟩ : ∃ V3, V3 = u3.alloc (boxO x2 z2 x3 z3) := ⟨_, rfl⟩
  rw [← hV3] at hY hb1
  rw [show u3.alloc (.cells #[.int .i64 x2, .int .i64 z2, .int .i64 x3, .int .i64 z3] 41) = V3 from hV3.symm]
  replace hA := hcarry (hb1) hA
  replace hBo := hcarry (hb1) hBo
  replace hX := hcarry (hb1) hX
  replace a0 := carry (hb1) a0
  replace a1 := carry (hb1) a1
  replace a2 := carry (hb1) a2
  replace a3 := carry (hb1) a3
  replace a4 := carry (hb1) a4
  replace a5 := carry (hb1) a5
  replace b0 := carry (hb1) b0
  replace b1 := carry (hb1) b1
  replace b2 := carry (hb1) b2
  replace b3 := carry (hb1) b3
  replace b4 := carry (hb1) b4
  replace b5 := carry (hb1) b5
  replace hB := below_step hB hb1
  replace hsh := Lib.hid (And.intro (hsh.out.1.carry hb1) (hsh.out.2.carry hb1))
  clear hb1
  clear hV3
  generalize u3.heap.size = Y at *
  obtain ⟨c0, c1, c2, c3⟩ := box_cells hX
  obtain ⟨d0, d1, d2, d3⟩ := box_cells hY
  go_cut [9] (fun v W => (∃ b : Bool, v = .bool b ∧ (b = true → x1 < x2 ∨ x3 < x0 ∨ z1 < z2 ∨ z3 < z0)) ∧ W = V3)
  case first =>
    by_cases e1 : x1 < x2
    · have f1 : decide (x1 < x2) = true := decide_eq_true e1
      go_wp2_with fail
      go_meet
      exact ⟨⟨true, rfl, fun _ => .inl e1⟩, rfl⟩
    · have f1 : decide (x1 < x2) = false := decide_eq_false e1
      by_cases e2 : x3 < x0
      · have f2 : decide (x3 < x0) = true := decide_eq_true e2
        go_wp2_with fail
        go_meet
        exact ⟨⟨true, rfl, fun _ => .inr (.inl e2)⟩, rfl⟩
      · have f2 : decide (x3 < x0) = false := decide_eq_false e2
        by_cases e3 : z1 < z2
        · have f3 : decide (z1 < z2) = true := decide_eq_true e3
          go_wp2_with fail
          go_meet
          exact ⟨⟨true, rfl, fun _ => .inr (.inr (.inl e3))⟩, rfl⟩
        · have f3 : decide (z1 < z2) = false := decide_eq_false e3
          by_cases e4 : z3 < z0
          · have f4 : decide (z3 < z0) = true := decide_eq_true e4
            go_wp2_with fail
            go_meet
            exact ⟨⟨true, rfl, fun _ => .inr (.inr (.inr e4))⟩, rfl⟩
          · have f4 : decide (z3 < z0) = false := decide_eq_false e4
            go_wp2_with fail
            go_meet
            exact ⟨⟨false, rfl, fun h => by cases h⟩, rfl⟩
  obtain ⟨⟨bb, rfl, hbb⟩, rfl⟩ := hcut
  have hbb' := Lib.hid hbb
  clear hbb
  cases bb with
  | true =>
    have hap := hbb'.out rfl
    have hap' := Lib.hid hap
    clear hap
    go_wp2_with fail
    refine (hE.out _ hsh.out.1 hsh.out.2).mono ?_
    rintro e u4 ⟨⟨f, rfl, hf⟩, hb1⟩
    obtain rfl := hsw1.out.apart hsw2.out hap'.out hf
    replace hA := hcarry (hb1) hA
    replace hBo := hcarry (hb1) hBo
    replace c0 := carry (hb1) c0
    replace c1 := carry (hb1) c1
    replace c2 := carry (hb1) c2
    replace c3 := carry (hb1) c3
    replace d0 := carry (hb1) d0
    replace d1 := carry (hb1) d1
    replace d2 := carry (hb1) d2
    replace d3 := carry (hb1) d3
    replace a0 := carry (hb1) a0
    replace a1 := carry (hb1) a1
    replace a2 := carry (hb1) a2
    replace a3 := carry (hb1) a3
    replace a4 := carry (hb1) a4
    replace a5 := carry (hb1) a5
    replace b0 := carry (hb1) b0
    replace b1 := carry (hb1) b1
    replace b2 := carry (hb1) b2
    replace b3 := carry (hb1) b3
    replace b4 := carry (hb1) b4
    replace b5 := carry (hb1) b5
    replace hB := below_step hB hb1
    replace hsh := Lib.hid (And.intro (hsh.out.1.carry hb1) (hsh.out.2.carry hb1))
    clear hb1
    clear hf
    go_upto_region 7 with fail
    have hn1 := hN1.out
    have hn2 := hN2.out
    have hq := hok.out.q0
    unfold Nr at hn1 hn2
    refine wp_region_tail 15 (by kernel_rfl) (by kernel_rfl) ?_
    intro W hK
    have g_a0 := fun x => carry ((hK.below x)) a0
    have g_a1 := fun x => carry ((hK.below x)) a1
    have g_a2 := fun x => carry ((hK.below x)) a2
    have g_a3 := fun x => carry ((hK.below x)) a3
    have g_a4 := fun x => carry ((hK.below x)) a4
    have g_a5 := fun x => carry ((hK.below x)) a5
    have g_b2 := fun x => carry ((hK.below x)) b2
    have g_c0 := fun x => carry ((hK.below x)) c0
    have g_c1 := fun x => carry ((hK.below x)) c1
    have g_c2 := fun x => carry ((hK.below x)) c2
    have g_c3 := fun x => carry ((hK.below x)) c3
    have g_d0 := fun x => carry ((hK.below x)) d0
    have g_d1 := fun x => carry ((hK.below x)) d1
    have g_d2 := fun x => carry ((hK.below x)) d2
    have g_d3 := fun x => carry ((hK.below x)) d3
    simp only [List.take_succ_cons, List.take_zero, List.drop_succ_cons, List.drop_zero]
    repeat (go_big_quiet_step ((go_at_call 23; with_reducible exact met_same (kb1.out _))))
    refine wpQuiet_nil ?_
    intro wq hw'
    have hbq := kept_in hK hw'
    clear g_a0 g_a1 g_a2 g_a3 g_a4 g_a5 g_b2 g_c0 g_c1 g_c2 g_c3 g_d0 g_d1 g_d2 g_d3
    clear hw' hK W
    replace a0 := carry (hbq) a0
    replace a1 := carry (hbq) a1
    replace a2 := carry (hbq) a2
    replace a3 := carry (hbq) a3
    replace a4 := carry (hbq) a4
    replace a5 := carry (hbq) a5
    replace b2 := carry (hbq) b2
    replace c0 := carry (hbq) c0
    replace c1 := carry (hbq) c1
    replace c2 := carry (hbq) c2
    replace c3 := carry (hbq) c3
    replace d0 := carry (hbq) d0
    replace d1 := carry (hbq) d1
    replace d2 := carry (hbq) d2
    replace d3 := carry (hbq) d3
    replace hA := hcarry (hbq) hA
    replace hBo := hcarry (hbq) hBo
    replace hB := below_step hB hbq
    replace hsh := Lib.hid (And.intro (hsh.out.1.carry hbq) (hsh.out.2.carry hbq))
    have g2 := (body_cells hBo).2.2.1
    have gg2 := body_frozen hBo 2
    have km := fun w => refAbs_any (q0 + x1 - x2 + 1 + gap) w (by omega) (by omega)
    obtain ⟨m, hm⟩ : ∃ m, m = q0 + x1 - x2 + 1 + gap := ⟨_, rfl⟩
    have hm1 : -30000000 ≤ m ∧ m ≤ 30000000 := by omega
    rw [← hm] at km
    have hkm := Lib.hid km
    have hm' := Lib.hid hm
    clear km b2
    go_upto_region 8 with fail
    rw [show q0 + x1 - x2 + 1 + gap = m from hm'.out.symm]
    clear hm
    replace hsh := Lib.hid (And.intro (set_sh1 hsh.out.1 hBo (.int .i64 m)) (set_sh1 hsh.out.2 hBo (.int .i64 m)))
    replace hA := oset (p := ⟨A + 1, 2, none⟩) (v := .int .i64 m) hA (by simp only; omega)
    replace hBo := body_x hBo m
    replace hB := hB.setCell (p := ⟨A + 1, 2, none⟩) (by simp only; omega) (.int .i64 m)
    clear g2 gg2 c0 c1 c2 c3 d0 d1 d2 d3 a0 a1 a2 a3 a4 a5 hbq hn1 hn2
    generalize wq.setCell ⟨A + 1, 2, none⟩ (.int .i64 m) = Z at *
    obtain ⟨a0, a1, a2, a3, a4, a5⟩ := body_cells hA
    obtain ⟨b0, b1, b2, b3, b4, b5⟩ := body_cells hBo
    go_wp2_with fail
    refine (hkm.out _).mono ?_
    rintro e _ ⟨rfl, rfl⟩
    by_cases hg : 1048576 < absV m
    · have hg' : decide (1048576 < absV m) = true := decide_eq_true hg
      go_wp2_with fail
      refine (lives6_any _).mono ?_
      rintro e u8 ⟨rfl, hb8⟩
      go_wp2
      go_ret
      exact ⟨rfl, below_step hB hb8⟩
    · have hg' : decide (1048576 < absV m) = false := decide_eq_false hg
      have pm := abs_po hg
      have hE2 := Lib.hid (fun w (h : Sh w s) (h' : Sh w t) => earliest6_any s t p0 p1 v0 v1 m q1 y0 y1 w h h' op0 op1 ov0 ov1 pm oq1 oy0 oy1)
      clear hg
      go_wp2_with fail
      refine (hE2.out _ hsh.out.1 hsh.out.2).mono ?_
      rintro e u8 ⟨⟨f2, rfl, hf2⟩, hb8⟩
      have hf3 : f2 = 1024 := hsw1.out.beyond (c := gap) hsw2.out (by omega) (by rw [← hm'.out]; exact hf2)
      subst hf3
      replace hB := below_step hB hb8
      clear hf2
      go_wp2_with fail
      refine (lives6_any _).mono ?_
      rintro e u9 ⟨rfl, hb9⟩
      go_wp2
      go_ret
      exact ⟨rfl, below_step hB hb9⟩
  | false =>
    go_upto_region 7 with fail
    have hn1 := hN1.out
    have hn2 := hN2.out
    have hq := hok.out.q0
    unfold Nr at hn1 hn2
    refine wp_region_tail 15 (by kernel_rfl) (by kernel_rfl) ?_
    intro W hK
    have g_a0 := fun x => carry ((hK.below x)) a0
    have g_a1 := fun x => carry ((hK.below x)) a1
    have g_a2 := fun x => carry ((hK.below x)) a2
    have g_a3 := fun x => carry ((hK.below x)) a3
    have g_a4 := fun x => carry ((hK.below x)) a4
    have g_a5 := fun x => carry ((hK.below x)) a5
    have g_b2 := fun x => carry ((hK.below x)) b2
    have g_c0 := fun x => carry ((hK.below x)) c0
    have g_c1 := fun x => carry ((hK.below x)) c1
    have g_c2 := fun x => carry ((hK.below x)) c2
    have g_c3 := fun x => carry ((hK.below x)) c3
    have g_d0 := fun x => carry ((hK.below x)) d0
    have g_d1 := fun x => carry ((hK.below x)) d1
    have g_d2 := fun x => carry ((hK.below x)) d2
    have g_d3 := fun x => carry ((hK.below x)) d3
    simp only [List.take_succ_cons, List.take_zero, List.drop_succ_cons, List.drop_zero]
    repeat (go_big_quiet_step ((go_at_call 23; with_reducible exact met_same (kb1.out _))))
    refine wpQuiet_nil ?_
    intro wq hw'
    have hbq := kept_in hK hw'
    clear g_a0 g_a1 g_a2 g_a3 g_a4 g_a5 g_b2 g_c0 g_c1 g_c2 g_c3 g_d0 g_d1 g_d2 g_d3
    clear hw' hK W
    replace a0 := carry (hbq) a0
    replace a1 := carry (hbq) a1
    replace a2 := carry (hbq) a2
    replace a3 := carry (hbq) a3
    replace a4 := carry (hbq) a4
    replace a5 := carry (hbq) a5
    replace b2 := carry (hbq) b2
    replace c0 := carry (hbq) c0
    replace c1 := carry (hbq) c1
    replace c2 := carry (hbq) c2
    replace c3 := carry (hbq) c3
    replace d0 := carry (hbq) d0
    replace d1 := carry (hbq) d1
    replace d2 := carry (hbq) d2
    replace d3 := carry (hbq) d3
    replace hA := hcarry (hbq) hA
    replace hBo := hcarry (hbq) hBo
    replace hB := below_step hB hbq
    replace hsh := Lib.hid (And.intro (hsh.out.1.carry hbq) (hsh.out.2.carry hbq))
    have g2 := (body_cells hBo).2.2.1
    have gg2 := body_frozen hBo 2
    have km := fun w => refAbs_any (q0 + x1 - x2 + 1 + gap) w (by omega) (by omega)
    obtain ⟨m, hm⟩ : ∃ m, m = q0 + x1 - x2 + 1 + gap := ⟨_, rfl⟩
    have hm1 : -30000000 ≤ m ∧ m ≤ 30000000 := by omega
    rw [← hm] at km
    have hkm := Lib.hid km
    have hm' := Lib.hid hm
    clear km b2
    go_upto_region 8 with fail
    rw [show q0 + x1 - x2 + 1 + gap = m from hm'.out.symm]
    clear hm
    replace hsh := Lib.hid (And.intro (set_sh1 hsh.out.1 hBo (.int .i64 m)) (set_sh1 hsh.out.2 hBo (.int .i64 m)))
    replace hA := oset (p := ⟨A + 1, 2, none⟩) (v := .int .i64 m) hA (by simp only; omega)
    replace hBo := body_x hBo m
    replace hB := hB.setCell (p := ⟨A + 1, 2, none⟩) (by simp only; omega) (.int .i64 m)
    clear g2 gg2 c0 c1 c2 c3 d0 d1 d2 d3 a0 a1 a2 a3 a4 a5 hbq hn1 hn2
    generalize wq.setCell ⟨A + 1, 2, none⟩ (.int .i64 m) = Z at *
    obtain ⟨a0, a1, a2, a3, a4, a5⟩ := body_cells hA
    obtain ⟨b0, b1, b2, b3, b4, b5⟩ := body_cells hBo
    go_wp2_with fail
    refine (hkm.out _).mono ?_
    rintro e _ ⟨rfl, rfl⟩
    by_cases hg : 1048576 < absV m
    · have hg' : decide (1048576 < absV m) = true := decide_eq_true hg
      go_wp2_with fail
      refine (lives6_any _).mono ?_
      rintro e u8 ⟨rfl, hb8⟩
      go_wp2
      go_ret
      exact ⟨rfl, below_step hB hb8⟩
    · have hg' : decide (1048576 < absV m) = false := decide_eq_false hg
      have pm := abs_po hg
      have hE2 := Lib.hid (fun w (h : Sh w s) (h' : Sh w t) => earliest6_any s t p0 p1 v0 v1 m q1 y0 y1 w h h' op0 op1 ov0 ov1 pm oq1 oy0 oy1)
      clear hg
      go_wp2_with fail
      refine (hE2.out _ hsh.out.1 hsh.out.2).mono ?_
      rintro e u8 ⟨⟨f2, rfl, hf2⟩, hb8⟩
      have hf3 : f2 = 1024 := hsw1.out.beyond (c := gap) hsw2.out (by omega) (by rw [← hm'.out]; exact hf2)
      subst hf3
      replace hB := below_step hB hb8
      clear hf2
      go_wp2_with fail
      refine (lives6_any _).mono ?_
      rintro e u9 ⟨rfl, hb9⟩
      go_wp2
      go_ret
      exact ⟨rfl, below_step hB hb9⟩

set_option maxRecDepth 100000 in
theorem lifted (os : Os) (started : os.Started) (H : Type) (enc : TypeId × Value → H) :
    ReturnsInHanded {} Try.checked os 10 .any (Rows.toiSweptSpec.pre6 enc Try.prog Try.f10 Rows.toiSweptRow.domain false) (Rows.toiSweptSpec.post enc Try.prog Try.f10 false true false false) := by
  refine returnsInHanded_of_change (C := Try.checked) own started (by kernel_rfl) Try.func10
    (ChangeSpec.witness6 (enc := enc) (C := Try.checked) false ⟨#[], #[.slice none 0 0, .int .i64 0], []⟩ 8 (by kernel_rfl) (by kernel_rfl) (by kernel_rfl) (by kernel_rfl)) ?_
  intro W base args ds gs before hval0 hW hcnd _
  have hval : ∀ (j : Nat) t v, Try.f10.params[j]? = some t → args[j]? = some v → Value.okWide Try.prog W .any base t v := hval0
  have hW' := hW
  obtain ⟨p, q, hA0, hV, rfl, hfz, hnd⟩ := hW
  have hA : DataW.TrodAll enc Try.prog W 0 (fun _ => true) true Try.f10.params.toList args.toList ds p := hA0
  rw [Try.params10] at hA hval
  have hAk := hA
  obtain ⟨v0, vs0, d0, ds0, p0, q0, hargs, rfl, hp0, h0, r0⟩ := trodAll_cons hA
  obtain ⟨v1, vs1, d1, ds1, p1, q1, rfl, rfl, hp1, h1, r1⟩ := trodAll_cons r0
  obtain ⟨rfl, rfl, -⟩ := trodAll_nil r1
  obtain rfl : args = #[v0, v1] := by cases args; simp_all
  obtain ⟨rfl, rfl⟩ := trodVars_none hV
  obtain ⟨x0, q0, c0, rfl⟩ := okWide_slice Try.underlying48 (hval 0 48 v0 rfl rfl)
  obtain ⟨fu0, fh0⟩ := h0
  obtain ⟨s0, Z0, l0, e0, H0⟩ := open_int_cells Try.underlying48 Try.underlying3 (by kernel_rfl) fh0
  simp only [Value.cells, List.cons.injEq, and_true] at e0
  obtain rfl := e0.symm
  obtain ⟨a1, rfl, -, -, w1⟩ := open_int Try.underlying3 (hval 1 3 v1 rfl rfl) h1
  clear hA0 hval0
  simp only [List.append_nil] at hW'
  refine (walk W _ Z0 l0 H0 a1 w1).mono fun e W' ⟨he, hb⟩ => ?_
  subst he
  exact ⟨_, rfl, kept_post (pa := p) hW' (fun _ _ _ => (trodAll_cons_mk (shut_bool Try.underlying4 _) trodAll_mk0)) (fun sp hsp => trodAll_stays laid hb (by rw [Try.params10]; decide +kernel) hAk (fun x hx => hW'.lt x hx) hsp) (fun _ => rfl) hb (ok_one (by kernel_rfl) rfl (okWide_bool_mk Try.underlying4 _))⟩

theorem over : Rows.toiSweptRow.holds Try.pinned (OpenSpec.ofChange Rows.toiSweptSpec) :=
  OpenClaim.holds_of_wide 10 Try.f10 rfl rfl rfl rfl rfl rfl rfl ⟨rfl, rfl, rfl, rfl, rfl⟩ rfl rfl rfl rfl rfl (by kernel_rfl) Try.func10 (by kernel_rfl)
    (of_decide_eq_true (by kernel_rfl)) (by unfold Func.isWrapper; first | (rw [if_pos (by decide +kernel)]; kernel_rfl) | (rw [if_neg (by decide +kernel)]; exact ⟨rfl, rfl⟩))
    (fun os started H enc _ => lifted os started H enc)

theorem proved : Rows.ToiSweptSaid :=
  over
#print axioms proved
end Go.Proofs.Ytfbgghkkgmgnjaa.toiSwept
