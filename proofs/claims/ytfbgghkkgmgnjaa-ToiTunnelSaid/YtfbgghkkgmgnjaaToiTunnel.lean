/-
  package toi, P6.3: for every circle of radius 10 to 200 and every wall of half-width 1 to 200 and half-height 4000, a circle that starts to the left of the wall and would get past its left side within the tick is stopped, if an eighth of its speed is at most the wall's width plus the circle's diameter minus 2; and the section's example holds; whatever the arguments are.
-/
import Derived.Test.YtfbgghkkgmgnjaaRows
import Derived.WalkKit
import Derived.ProofKit
import Derived.OpenShut
import Derived.Test.YtfbgghkkgmgnjaaLawKit
import Derived.Test.YtfbgghkkgmgnjaaToiF
namespace Go.Proofs.Ytfbgghkkgmgnjaa.toiTunnel
open Go.ChangeShapes Go.WideShapes Go.ChangeAt Go.RowKit
set_option linter.unusedVariables false
set_option linter.unusedSimpArgs false

open Fxm
theorem wall_row {W : World} {B : Nat} {h : Int} (hB : W.heap[B]? = some (.cells #[.int .i64 (-h), .int .i64 (-4000), .int .i64 h, .int .i64 (-4000), .int .i64 h, .int .i64 4000, .int .i64 (-h), .int .i64 4000] 28)) : Row W B 4 (wallV h) :=
  ⟨by rw [wall_len]; omega, by decide, fun i u hu => by rw [heap_cell hB, List.getElem?_toArray]; exact hu⟩
theorem own : ownKnob Try.prog.godebug = none := by kernel_rfl

set_option maxRecDepth 100000 in
set_option maxHeartbeats 8000000 in
theorem walk (a0 : Int) (w0 : (Lit.int .i64 a0).wf = true) (a1 : Int) (w1 : (Lit.int .i64 a1).wf = true) (a2 : Int) (w2 : (Lit.int .i64 a2).wf = true) (a3 : Int) (w3 : (Lit.int .i64 a3).wf = true) (w : World) :
    Calls Try.prog 8 #[.int .i64 a0, .int .i64 a1, .int .i64 a2, .int .i64 a3] w fun e w' => e = .returned (.bool true) ∧ Below w.heap.size w w' := by
  obtain ⟨b1, b2⟩ := wf64 w0
  obtain ⟨b3, b4⟩ := wf64 w1
  obtain ⟨b5, b6⟩ := wf64 w2
  obtain ⟨b7, b8⟩ := wf64 w3
  go_enter Try.func8, Try.ntmps8
  go_wp2_with fail
  refine (aroundx_any a0 191 _ b1 b2 (by omega)).mono ?_
  rintro e _ ⟨⟨x, x1, x2, rfl⟩, rfl⟩
  go_wp2_with fail
  refine (aroundx_any a1 200 _ b3 b4 (by omega)).mono ?_
  rintro e _ ⟨⟨y, y1, y2, rfl⟩, rfl⟩
  go_upto_region 3 with fail
  have r1 : 10 ≤ 10 + x := by omega
  have r2 : 10 + x ≤ 200 := by omega
  have h1 : 1 ≤ 1 + y := by omega
  have h2 : 1 + y ≤ 200 := by omega
  generalize 10 + x = r at *
  generalize 1 + y = h at *
  clear x1 x2 y1 y2 b1 b2 b3 b4
  go_upto_region 4 with fail
  have hW := (Below.heap_alloc (w.alloc (.cells #[.int .i64 (-h), .int .i64 (-4000), .int .i64 h, .int .i64 (-4000), .int .i64 h, .int .i64 4000, .int .i64 (-h), .int .i64 4000] 28)) (.cells #[.int .i64 0, .slice (some ⟨w.heap.size, 0, none⟩) 4 4] 25) w.heap.size (by simp)).trans (World.alloc_heap_new w _)
  have hX := World.alloc_heap_new (w.alloc (.cells #[.int .i64 (-h), .int .i64 (-4000), .int .i64 h, .int .i64 (-4000), .int .i64 h, .int .i64 4000, .int .i64 (-h), .int .i64 4000] 28)) (.cells #[.int .i64 0, .slice (some ⟨w.heap.size, 0, none⟩) 4 4] 25)
  rw [World.size_alloc] at hX
  have hB := below_step (alloc_below w (.cells #[.int .i64 (-h), .int .i64 (-4000), .int .i64 h, .int .i64 (-4000), .int .i64 h, .int .i64 4000, .int .i64 (-h), .int .i64 4000] 28)) (alloc_below _ (.cells #[.int .i64 0, .slice (some ⟨w.heap.size, 0, none⟩) 4 4] 25))
  generalize (w.alloc (.cells #[.int .i64 (-h), .int .i64 (-4000), .int .i64 h, .int .i64 (-4000), .int .i64 h, .int .i64 4000, .int .i64 (-h), .int .i64 4000] 28)).alloc (.cells #[.int .i64 0, .slice (some ⟨w.heap.size, 0, none⟩) 4 4] 25) = V at *
  have hw := Lib.hid (show Sh V (.p w.heap.size 4 (wallV h)) from ⟨wall_row hW, wall_gen h1 h2⟩)
  have c0 := heap_cell hX 0
  have c1 := heap_cell hX 1
  simp only [List.getElem?_toArray, List.getElem?_cons_zero, List.getElem?_cons_succ] at c0 c1
  clear hW hX
  go_wp2_with fail
  refine (aroundx_any a3 (8 * (2 * (h + r) - 2) + 1) _ b7 b8 (by omega)).mono ?_
  rintro e _ ⟨⟨v, v1, v2, rfl⟩, rfl⟩
  have v3 : v ≤ 8 * (2 * (h + r) - 2) := by omega
  have v4 : v ≤ 16384 := by omega
  clear v2
  go_wp2_with fail
  refine (aroundx_any a2 2000 _ b5 b6 (by omega)).mono ?_
  rintro e _ ⟨⟨gp, g1, g2, rfl⟩, rfl⟩
  go_upto_region 6 with fail
  have x1 : -(h + r + 1 + gp) < -(h + r) := by omega
  have x2 : -2401 ≤ -(h + r + 1 + gp) := by omega
  generalize -(h + r + 1 + gp) = x at *
  have K := Lib.hid (earliest_any (.c r) (.p w.heap.size 4 (wallV h)) x 0 v 0 0 0 0 0 V ⟨by omega, by omega⟩ hw.out (by unfold Po; omega) (by unfold Po; omega) (by unfold Ve; omega) (by unfold Ve; omega) (by unfold Po; omega) (by unfold Po; omega) (by unfold Ve; omega) (by unfold Ve; omega))
  go_wp2_with fail
  refine K.out.mono ?_
  rintro e u2 ⟨⟨f, rfl, hf⟩, hb1⟩
  have hst := wall_stop h1 h2 r1 r2 x1 v1 v3 hf
  have hst' := Lib.hid hst
  replace hB := below_step hB hb1
  clear hf hst hb1 K
  by_cases hp : -(h + r) < x + v
  · have hf1 := hst'.out.1 hp
    go_wp2_with fail
    refine (lives6_any _).mono ?_
    rintro e u4 ⟨rfl, hb2⟩
    go_wp2
    go_ret
    exact ⟨rfl, below_step hB hb2⟩
  · obtain rfl := hst'.out.2 (by omega)
    go_wp2_with fail
    refine (lives6_any _).mono ?_
    rintro e u4 ⟨rfl, hb2⟩
    go_wp2
    go_ret
    exact ⟨rfl, below_step hB hb2⟩

set_option maxRecDepth 100000 in
theorem lifted (os : Os) (started : os.Started) (H : Type) (enc : TypeId × Value → H) :
    ReturnsInHanded {} Try.checked os 8 .any (Rows.toiTunnelSpec.pre6 enc Try.prog Try.f8 Rows.toiTunnelRow.domain false) (Rows.toiTunnelSpec.post enc Try.prog Try.f8 false true false false) := by
  refine returnsInHanded_of_change (C := Try.checked) own started (by kernel_rfl) Try.func8
    (ChangeSpec.witness6 (enc := enc) (C := Try.checked) false ⟨#[], #[.int .i64 0, .int .i64 0, .int .i64 0, .int .i64 0], []⟩ 8 (by kernel_rfl) (by kernel_rfl) (by kernel_rfl) (by kernel_rfl)) ?_
  intro W base args ds gs before hval0 hW hcnd _
  have hval : ∀ (j : Nat) t v, Try.f8.params[j]? = some t → args[j]? = some v → Value.okWide Try.prog W .any base t v := hval0
  have hW' := hW
  obtain ⟨p, q, hA0, hV, rfl, hfz, hnd⟩ := hW
  have hA : DataW.TrodAll enc Try.prog W 0 (fun _ => true) true Try.f8.params.toList args.toList ds p := hA0
  rw [Try.params8] at hA hval
  obtain ⟨v0, vs0, d0, ds0, p0, q0, hargs, rfl, rfl, h0, r0⟩ := trodAll_cons hA
  obtain ⟨v1, vs1, d1, ds1, p1, q1, rfl, rfl, rfl, h1, r1⟩ := trodAll_cons r0
  obtain ⟨v2, vs2, d2, ds2, p2, q2, rfl, rfl, rfl, h2, r2⟩ := trodAll_cons r1
  obtain ⟨v3, vs3, d3, ds3, p3, q3, rfl, rfl, rfl, h3, r3⟩ := trodAll_cons r2
  obtain ⟨rfl, rfl, rfl⟩ := trodAll_nil r3
  obtain rfl : args = #[v0, v1, v2, v3] := by cases args; simp_all
  obtain ⟨rfl, rfl⟩ := trodVars_none hV
  obtain ⟨a0, rfl, rfl, rfl, w0⟩ := open_int Try.underlying3 (hval 0 3 v0 rfl rfl) h0
  obtain ⟨a1, rfl, rfl, rfl, w1⟩ := open_int Try.underlying3 (hval 1 3 v1 rfl rfl) h1
  obtain ⟨a2, rfl, rfl, rfl, w2⟩ := open_int Try.underlying3 (hval 2 3 v2 rfl rfl) h2
  obtain ⟨a3, rfl, rfl, rfl, w3⟩ := open_int Try.underlying3 (hval 3 3 v3 rfl rfl) h3
  clear hA0 hval0
  simp only [List.append_nil] at hW'
  refine (walk a0 w0 a1 w1 a2 w2 a3 w3 W).mono fun e W' ⟨he, hb⟩ => ?_
  subst he
  exact ⟨_, rfl, kept_post (pa := []) hW' (fun _ _ _ => (trodAll_cons_mk (shut_bool Try.underlying4 _) trodAll_mk0)) (fun sp _ => (trodAll_cons_mk (shut_int Try.underlying3 w0) (trodAll_cons_mk (shut_int Try.underlying3 w1) (trodAll_cons_mk (shut_int Try.underlying3 w2) (trodAll_cons_mk (shut_int Try.underlying3 w3) trodAll_mk0))))) (fun _ => rfl) hb (ok_one (by kernel_rfl) rfl (okWide_bool_mk Try.underlying4 _))⟩

theorem over : Rows.toiTunnelRow.holds Try.pinned (OpenSpec.ofChange Rows.toiTunnelSpec) :=
  OpenClaim.holds_of_wide 8 Try.f8 rfl rfl rfl rfl rfl rfl rfl ⟨rfl, rfl, rfl, rfl, rfl⟩ rfl rfl rfl rfl rfl (by kernel_rfl) Try.func8 (by kernel_rfl)
    (of_decide_eq_true (by kernel_rfl)) (by unfold Func.isWrapper; first | (rw [if_pos (by decide +kernel)]; kernel_rfl) | (rw [if_neg (by decide +kernel)]; exact ⟨rfl, rfl⟩))
    (fun os started H enc _ => lifted os started H enc)

theorem proved : Rows.ToiTunnelSaid :=
  over
#print axioms proved
end Go.Proofs.Ytfbgghkkgmgnjaa.toiTunnel
