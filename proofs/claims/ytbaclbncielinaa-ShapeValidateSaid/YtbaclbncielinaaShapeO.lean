/- The reference's Bent, of a circle. -/
import Derived.Test.YtbaclbncielinaaShapeN
namespace Go.Proofs.Ytbaclbncielinaa
open Go.ChangeShapes Go.WideShapes Go.ChangeAt Go.RowKit
open Fxm
set_option linter.unusedSimpArgs false
set_option linter.unusedVariables false

set_option maxRecDepth 100000 in
set_option maxHeartbeats 8000000 in
theorem bentC_any (how n r : Int) (w : World) (hh : (Lit.int .i64 how).wf = true) (hn : (Lit.int .i64 n).wf = true) :
    Calls Try.prog 5 #[.agg #[.int .i64 r, .slice none 0 0], .int .i64 how, .int .i64 n] w fun e w' =>
      (∃ r', -40000 ≤ r' ∧ r' ≤ 40000 ∧ e = .returned (.agg #[.int .i64 r', .slice none 0 0])) ∧ Below w.heap.size w w' := by
  obtain ⟨h1, h2⟩ := bounds_i64 hh
  obtain ⟨n1, n2⟩ := bounds_i64 hn
  clear hh hn
  go_enter Try.func5, Try.ntmps5
  go_wp2_with fail
  refine (aroundx_any _ _ _ h1 h2 (by omega)).mono ?_
  rintro e w' ⟨⟨k, k1, k2, rfl⟩, rfl⟩
  go_wp2_with fail
  refine (boundx_any _ _ _ n1 n2 (by omega) (by omega)).mono ?_
  rintro e w' ⟨⟨m, m1, m2, rfl⟩, rfl⟩
  clear h1 h2 n1 n2
  by_cases h : k % 5 = 0
  · have b0 : (k % 5 == 0) = true := by simp; omega
    go_wp2_with fail
    refine bodyPost_ret (v := .agg #[.int .i64 m, .slice none 0 0]) (by simp [results, Try.results5, go_sem]) rfl ⟨⟨m, m1, m2, rfl⟩, below_step (below_step (alloc_below w _) (alloc_below _ _)) (alloc_below _ _)⟩
  · have b0 : (k % 5 == 0) = false := by simp; omega
    go_wp2_with fail
    refine bodyPost_ret (v := .agg #[.int .i64 m, .slice none 0 0]) (by simp [results, Try.results5, go_sem]) rfl ⟨⟨m, m1, m2, rfl⟩, below_step (below_step (alloc_below w _) (alloc_below _ _)) (alloc_below _ _)⟩

theorem Sh.bent {w : World} {s : Sp} (h : Sh w s) (how n : Int) (hh : (Lit.int .i64 how).wf = true) (hn : (Lit.int .i64 n).wf = true) :
    Calls Try.prog 5 #[.agg #[.int .i64 s.r, .slice s.a s.n s.cap], .int .i64 how, .int .i64 n] w fun e w' =>
      (∃ r' a' n' c' vs', e = .returned (.agg #[.int .i64 r', .slice a' n' c']) ∧ Poly w' (.slice a' n' c') vs') ∧ Below w.heap.size w w' := by
  cases s with
  | c r =>
    refine (bentC_any how n r w hh hn).mono ?_
    rintro e w' ⟨⟨r', _, _, rfl⟩, hb⟩
    exact ⟨⟨r', none, 0, 0, [], rfl, Or.inl ⟨rfl, _, _, rfl⟩⟩, hb⟩
  | p g cap vs =>
    refine (bentP_any how n g cap vs w h.1 h.2 hh hn).mono ?_
    rintro e w' ⟨⟨r', g', n', c', vs', rfl, rfl, hr⟩, hb⟩
    exact ⟨⟨r', _, _, c', vs', rfl, Row.poly hr⟩, hb⟩

end Go.Proofs.Ytbaclbncielinaa
