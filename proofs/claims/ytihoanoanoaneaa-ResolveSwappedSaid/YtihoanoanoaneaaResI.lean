/- Package resolve: the contacts of its laws, made of numbers. -/
import Derived.Test.YtihoanoanoaneaaResM
import Derived.WalkLawsBesides
import Derived.Deep.DeepCutAuto
import Derived.Deep.CutBlock
namespace Go.Proofs.Ytihoanoanoaneaa
open Go.ChangeShapes Go.WideShapes Go.ChangeAt Go.RowKit
open Fxm
set_option linter.unusedSimpArgs false
set_option linter.unusedVariables false

set_option maxHeartbeats 4000000 in
set_option maxRecDepth 100000 in
theorem contact_any (v : Value) (Z : Nat → Int) (l : Nat) (w : World) (h : IntsAt w v 1 Z l) :
    Calls Try.prog 10 #[v] w fun e w' => (∃ n0 n1 d, (-1024 ≤ n0 ∧ n0 ≤ 1024) ∧ (-1024 ≤ n1 ∧ n1 ≤ 1024) ∧ (0 ≤ d ∧ d ≤ 1048576) ∧ e = .returned (.agg #[.int .i64 n0, .int .i64 n1, .int .i64 d])) ∧ Below w.heap.size w w' := by
  have hk := Lib.hid h
  clear h
  go_enter Try.func10, Try.ntmps10
  go_wp2_with fail
  refine (pick_any v Z l 0 1000000 _ (hk.out.carry (alloc_below w _)) (by omega) (by omega) (by omega)).mono ?_
  rintro e w' ⟨⟨n, n1, n2, rfl⟩, rfl⟩
  have e1 : n.tdiv 3 = n / 3 := Int.tdiv_eq_ediv_of_nonneg n1
  have e2 : n.tmod 3 = n % 3 := Int.tmod_eq_emod_of_nonneg n1
  have e3 : (n / 3).tmod 2049 = n / 3 % 2049 := Int.tmod_eq_emod_of_nonneg (by omega)
  go_wp2_with fail
  refine (pick_any v Z l 1 5000 _ (hk.out.carry (alloc_below w _)) (by omega) (by omega) (by omega)).mono ?_
  rintro e w' ⟨⟨d, d1, d2, rfl⟩, rfl⟩
  go_upto_region 3 with fail
  have hB : Below w.heap.size w ((w.alloc (conO 29 0 0 0)).alloc (conO 29 0 0 d)) := below_step (alloc_below _ _) (alloc_below _ _)
  have r0 := old_at (conO 29 0 0 d) (new_at w (conO 29 0 0 0))
  have r1 := new_at (w.alloc (conO 29 0 0 0)) (conO 29 0 0 d)
  rw [World.size_alloc] at r1
  obtain ⟨V, hV⟩ : ∃ V, V = (w.alloc (conO 29 0 0 0)).alloc (conO 29 0 0 d) := ⟨_, rfl⟩
  rw [← hV] at hB r0 r1
  rw [show ((w.alloc (.cells #[.int .i64 0, .int .i64 0, .int .i64 0] 29)).alloc (.cells #[.int .i64 0, .int .i64 0, .int .i64 d] 29)) = V from hV.symm]
  clear hV
  have hVh := Lib.hid (hk.out.carry hB)
  have hB' := Lib.hid hB
  have r0' := Lib.hid r0
  have r1' := Lib.hid r1
  obtain ⟨t0, t1, t2⟩ := con_cells r1
  have tf := con_frozen r1
  have tl := hlt r1
  clear r0 r1 hB
  go_upto_if 12 with fail
  go_cut [4] (fun x wv => x = .pointer (some ⟨w.heap.size + 1, 0, none⟩) ∧ ∃ n0 n1, (-1024 ≤ n0 ∧ n0 ≤ 1024) ∧ (-1024 ≤ n1 ∧ n1 ≤ 1024) ∧ Below w.heap.size w wv ∧ wv.heap[w.heap.size]? = some (conO 29 0 0 0) ∧ wv.heap[w.heap.size + 1]? = some (conO 29 n0 n1 d))
  case first =>
    by_cases h3 : n % 3 = 0
    · go_wp2_with fail
      refine (pick_any v Z l 2 2049 _ hVh.out (by omega) (by omega) (by omega)).mono ?_
      rintro e w' ⟨⟨x, x1, x2, rfl⟩, rfl⟩
      go_wp2_with fail
      go_meet
      exact ⟨rfl, _, _, by omega, by omega, (hB'.out.setCell (p := ⟨w.heap.size + 1, 0, none⟩) (by simp only; omega) _).setCell (p := ⟨w.heap.size + 1, 1, none⟩) (by simp only; omega) _, oset2 _ _ _ _ _ r0'.out (by omega), con_n r1'.out _ _⟩
    · go_wp2_with fail
      refine (axis_any (n / 3) _ (by omega) (by omega)).mono ?_
      rintro e w' ⟨⟨x0, x1, hx, rfl⟩, hb1⟩
      have hr0 := Lib.hid (hcarry hb1 r0'.out)
      have hr1 := Lib.hid (hcarry hb1 r1'.out)
      have hbb := Lib.hid (below_step hB'.out hb1)
      have hx' := Lib.hid hx.bd
      replace t0 := carry hb1 t0
      replace t1 := carry hb1 t1
      have tf1 := con_frozen hr1.out
      clear t2 tf hx hb1 tl
      have tl := hlt hr1.out
      go_wp2_with fail
      go_meet
      exact ⟨rfl, _, _, hx'.out.1, hx'.out.2, (hbb.out.setCell (p := ⟨w.heap.size + 1, 0, none⟩) (by simp only; omega) _).setCell (p := ⟨w.heap.size + 1, 1, none⟩) (by simp only; omega) _, oset2 _ _ _ _ _ hr0.out (by omega), con_n hr1.out _ _⟩
  obtain ⟨rfl, n0, n1, hn0, hn1, hBw, hr0, hr1⟩ := hcut
  obtain ⟨V2, hV2⟩ : ∃ V, V = wc := ⟨wc, rfl⟩
  subst hV2
  have hB2 := Lib.hid hBw
  have g0 := Lib.hid hr0
  have g1 := Lib.hid hr1
  clear hBw hr0 hr1 t0 t1 t2 tf r0' r1' hB' hVh e1 e2 e3
  obtain ⟨t0, t1, t2⟩ := con_cells g1.out
  obtain ⟨z0, z1, z2⟩ := con_cells g0.out
  have tf := con_frozen g1.out
  have zf := con_frozen g0.out
  have tl := hlt g1.out
  go_wp2_with fail
  refine (pick_any v Z l 1 11 _ (hk.out.carry hB2.out) (by omega) (by omega) (by omega)).mono ?_
  rintro e w' ⟨⟨y, y1, y2, rfl⟩, rfl⟩
  have dd : 0 ≤ d ∧ d ≤ 1048576 := ⟨d1, by omega⟩
  have dd' := Lib.hid dd
  clear dd
  by_cases h10 : y = 10
  · subst h10
    go_wp2_with fail
    refine (pick_any v Z l 1 1048577 _ (hk.out.carry hB2.out) (by omega) (by omega) (by omega)).mono ?_
    rintro e w' ⟨⟨d', d1', d2', rfl⟩, rfl⟩
    have dd2 := Lib.hid (And.intro d1' (show d' ≤ 1048576 by omega))
    go_wp2
    refine bodyPost_ret (v := .agg #[.int .i64 n0, .int .i64 n1, .int .i64 d']) (by simp [results, Try.results10, go_sem, t0, t1, t2, z0, z1, z2, tf, zf, tl]) rfl ⟨⟨n0, n1, d', hn0, hn1, dd2.out, rfl⟩, ?_⟩
    repeat (first | exact hB2.out | (refine Below.setCell ?_ (by simp only; omega) _))
  · have hy : (y == 10) = false := by simpa using h10
    go_wp2
    refine bodyPost_ret (v := .agg #[.int .i64 n0, .int .i64 n1, .int .i64 d]) (by simp [results, Try.results10, go_sem, t0, t1, t2, z0, z1, z2, tf, zf, tl]) rfl ⟨⟨n0, n1, d, hn0, hn1, dd'.out, rfl⟩, ?_⟩
    repeat (first | exact hB2.out | (refine Below.setCell ?_ (by simp only; omega) _))
end Go.Proofs.Ytihoanoanoaneaa
