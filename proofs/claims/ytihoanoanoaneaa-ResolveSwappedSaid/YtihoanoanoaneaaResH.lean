/- Package resolve: the generators of its laws, whole: motions, contacts, axes, made of numbers. -/
import Derived.Test.YtihoanoanoaneaaResG
namespace Go.Proofs.Ytihoanoanoaneaa
open Go.ChangeShapes Go.WideShapes Go.ChangeAt Go.RowKit
open Fxm
set_option linter.unusedSimpArgs false
set_option linter.unusedVariables false

/-- A motion's value and its block. -/
def Mo.val (a : Mo) : Value := .agg #[.int .i64 a.p0, .int .i64 a.p1, .int .i64 a.v0, .int .i64 a.v1, .int .i64 a.m]

set_option maxHeartbeats 4000000 in
set_option maxRecDepth 100000 in
theorem motion_any (v : Value) (Z : Nat → Int) (l : Nat) (w : World) (h : IntsAt w v 1 Z l) :
    Calls Try.prog 9 #[v] w fun e w' => (∃ a : Mo, a.Dom ∧ e = .returned (.agg #[.int .i64 a.p0, .int .i64 a.p1, .int .i64 a.v0, .int .i64 a.v1, .int .i64 a.m])) ∧ Below w.heap.size w w' := by
  have hk := Lib.hid h
  clear h
  go_enter Try.func9, Try.ntmps9
  go_wp2_with fail
  have hk1 := Lib.hid (hk.out.carry (alloc_below w (.cells #[.int .i64 0, .int .i64 0, .int .i64 0, .int .i64 0, .int .i64 0] 26)))
  refine (bounded_any v Z l 0 1048576 _ hk1.out (by omega) (by omega) (.inl rfl)).mono ?_
  rintro e w' ⟨⟨p0, a1, a2, rfl⟩, rfl⟩
  go_wp2_with fail
  refine (bounded_any v Z l 1 1048576 _ hk1.out (by omega) (by omega) (.inl rfl)).mono ?_
  rintro e w' ⟨⟨p1, a3, a4, rfl⟩, rfl⟩
  go_wp2_with fail
  refine (bounded_any v Z l 2 16384 _ hk1.out (by omega) (by omega) (.inr rfl)).mono ?_
  rintro e w' ⟨⟨v0, a5, a6, rfl⟩, rfl⟩
  go_wp2_with fail
  refine (bounded_any v Z l 3 16384 _ hk1.out (by omega) (by omega) (.inr rfl)).mono ?_
  rintro e w' ⟨⟨v1, a7, a8, rfl⟩, rfl⟩
  go_wp2_with fail
  refine (pick_any v Z l 4 1000000 _ hk1.out (by omega) (by omega) (by omega)).mono ?_
  rintro e w' ⟨⟨n, n1, n2, rfl⟩, rfl⟩
  go_wp2_with fail
  refine (mass_any n _ n1 n2).mono ?_
  rintro e w1 ⟨⟨m, a9, a10, rfl⟩, hb1⟩
  obtain ⟨hc1, hf1⟩ := bcell hb1
  go_wp2
  refine bodyPost_ret (v := .agg #[.int .i64 p0, .int .i64 p1, .int .i64 v0, .int .i64 v1, .int .i64 m]) (by simp [results, Try.results9, go_sem, hc1, hf1]) rfl ⟨⟨⟨p0, p1, v0, v1, m⟩, ⟨⟨a1, a2⟩, ⟨a3, a4⟩, ⟨a5, a6⟩, ⟨a7, a8⟩, ⟨a9, a10⟩⟩, rfl⟩, ?_⟩
  repeat (first | exact Below.refl _ _ | (refine Below.setCell ?_ (by first | (simp; done) | (simp; omega) | omega) _) | (refine Below.alloc ?_ (by first | exact Nat.le_refl _ | (simp; done) | (simp; omega) | omega) _) | refine Below.drew ?_ | (refine Below.trans ?_ ((hb _).mono (by first | (simp; done) | (simp; omega) | omega))) | (refine Below.trans ?_ (hb1.mono (by first | (simp; done) | (simp; omega) | omega))))

theorem tmod_in (n : Int) {m : Int} (hm : 0 < m) : -(m - 1) ≤ n.tmod m ∧ n.tmod m ≤ m - 1 := by
  have h1 := tmod_lt_p n hm
  have h2 := tmod_gt_p n hm
  omega
set_option maxHeartbeats 4000000 in
set_option maxRecDepth 100000 in
theorem slow_any (v : Value) (Z : Nat → Int) (l : Nat) (w : World) (h : IntsAt w v 1 Z l) :
    Calls Try.prog 17 #[v] w fun e w' => (∃ a : Mo, a.Slow ∧ e = .returned (.agg #[.int .i64 a.p0, .int .i64 a.p1, .int .i64 a.v0, .int .i64 a.v1, .int .i64 a.m])) ∧ Below w.heap.size w w' := by
  have hk := Lib.hid h
  clear h
  go_enter Try.func17, Try.ntmps17
  go_wp2_with fail
  refine (motion_any v Z l _ (hk.out.carry (alloc_below w _))).mono ?_
  rintro e w1 ⟨⟨a, ha, rfl⟩, hb1⟩
  have r0 := carry hb1 (a := ⟨w.heap.size, 0, none⟩) (v := .int .i64 0) (by simp)
  have r1 := carry hb1 (a := ⟨w.heap.size, 1, none⟩) (v := .int .i64 0) (by simp)
  have r2 := carry hb1 (a := ⟨w.heap.size, 2, none⟩) (v := .int .i64 0) (by simp)
  have r3 := carry hb1 (a := ⟨w.heap.size, 3, none⟩) (v := .int .i64 0) (by simp)
  have r4 := carry hb1 (a := ⟨w.heap.size, 4, none⟩) (v := .int .i64 0) (by simp)
  have rf : ∀ o, w1.frozen? ⟨w.heap.size, o, none⟩ = false := fun o => (hb1.frozen (p := ⟨w.heap.size, o, none⟩) (by simp)).trans (by simp [go_sem])
  have hlt : w.heap.size < w1.heap.size := by have := hb1.size; simp at this; omega
  have hm := ha.m
  clear ha
  have t0 := tmod_in a.p0 (m := 262145) (by omega)
  have t1 := tmod_in a.p1 (m := 262145) (by omega)
  have t2 := tmod_in a.v0 (m := 2001) (by omega)
  have t3 := tmod_in a.v1 (m := 2001) (by omega)
  go_wp2
  refine bodyPost_ret (v := .agg #[.int .i64 (a.p0.tmod 262145), .int .i64 (a.p1.tmod 262145), .int .i64 (a.v0.tmod 2001), .int .i64 (a.v1.tmod 2001), .int .i64 a.m]) (by simp [results, Try.results17, go_sem, r0, r1, r2, r3, r4, rf, hlt]) rfl ⟨⟨⟨a.p0.tmod 262145, a.p1.tmod 262145, a.v0.tmod 2001, a.v1.tmod 2001, a.m⟩, ⟨by simp only; omega, by simp only; omega, by simp only; omega, by simp only; omega, hm⟩, rfl⟩, ?_⟩
  repeat (first | exact Below.refl _ _ | (refine Below.setCell ?_ (by first | (simp; done) | (simp; omega) | omega) _) | (refine Below.alloc ?_ (by first | exact Nat.le_refl _ | (simp; done) | (simp; omega) | omega) _) | refine Below.drew ?_ | (refine Below.trans ?_ ((hb _).mono (by first | (simp; done) | (simp; omega) | omega))) | (refine Below.trans ?_ (hb1.mono (by first | (simp; done) | (simp; omega) | omega))))

theorem axis_any (n : Int) (w : World) (h1 : -9223372036854775808 ≤ n) (h2 : n ≤ 9223372036854775807) :
    Calls Try.prog 19 #[.int .i64 n] w fun e w' => (∃ n0 n1, Ax n0 n1 ∧ e = .returned (.agg #[.int .i64 n0, .int .i64 n1])) ∧ Below w.heap.size w w' := by
  go_enter Try.func19, Try.ntmps19
  go_wp2_with fail
  refine (aroundx_any n 4 _ h1 h2 (by omega)).mono ?_
  rintro e w' ⟨⟨x, x1, x2, rfl⟩, rfl⟩
  have hx : x = 0 ∨ x = 1 ∨ x = 2 ∨ x = 3 := by omega
  rcases hx with rfl | rfl | rfl | rfl
  · go_wp2
    refine bodyPost_ret (v := .agg #[.int .i64 1024, .int .i64 0]) (by simp [results, Try.results19, go_sem]) rfl ⟨⟨_, _, .inl ⟨rfl, rfl⟩, rfl⟩, ?_⟩
    repeat (first | exact Below.refl _ _ | (refine Below.setCell ?_ (by first | (simp; done) | (simp; omega) | omega) _) | (refine Below.alloc ?_ (by first | exact Nat.le_refl _ | (simp; done) | (simp; omega) | omega) _) | refine Below.drew ?_ | (refine Below.trans ?_ ((hb _).mono (by first | (simp; done) | (simp; omega) | omega))) | (refine Below.trans ?_ (hb1.mono (by first | (simp; done) | (simp; omega) | omega))))
  · go_wp2
    refine bodyPost_ret (v := .agg #[.int .i64 0, .int .i64 1024]) (by simp [results, Try.results19, go_sem]) rfl ⟨⟨_, _, .inr (.inl ⟨rfl, rfl⟩), rfl⟩, ?_⟩
    repeat (first | exact Below.refl _ _ | (refine Below.setCell ?_ (by first | (simp; done) | (simp; omega) | omega) _) | (refine Below.alloc ?_ (by first | exact Nat.le_refl _ | (simp; done) | (simp; omega) | omega) _) | refine Below.drew ?_ | (refine Below.trans ?_ ((hb _).mono (by first | (simp; done) | (simp; omega) | omega))) | (refine Below.trans ?_ (hb1.mono (by first | (simp; done) | (simp; omega) | omega))))
  · go_wp2
    refine bodyPost_ret (v := .agg #[.int .i64 (-1024), .int .i64 0]) (by simp [results, Try.results19, go_sem]) rfl ⟨⟨_, _, .inr (.inr (.inl ⟨rfl, rfl⟩)), rfl⟩, ?_⟩
    repeat (first | exact Below.refl _ _ | (refine Below.setCell ?_ (by first | (simp; done) | (simp; omega) | omega) _) | (refine Below.alloc ?_ (by first | exact Nat.le_refl _ | (simp; done) | (simp; omega) | omega) _) | refine Below.drew ?_ | (refine Below.trans ?_ ((hb _).mono (by first | (simp; done) | (simp; omega) | omega))) | (refine Below.trans ?_ (hb1.mono (by first | (simp; done) | (simp; omega) | omega))))
  · go_wp2
    refine bodyPost_ret (v := .agg #[.int .i64 0, .int .i64 (-1024)]) (by simp [results, Try.results19, go_sem]) rfl ⟨⟨_, _, .inr (.inr (.inr ⟨rfl, rfl⟩)), rfl⟩, ?_⟩
    repeat (first | exact Below.refl _ _ | (refine Below.setCell ?_ (by first | (simp; done) | (simp; omega) | omega) _) | (refine Below.alloc ?_ (by first | exact Nat.le_refl _ | (simp; done) | (simp; omega) | omega) _) | refine Below.drew ?_ | (refine Below.trans ?_ ((hb _).mono (by first | (simp; done) | (simp; omega) | omega))) | (refine Below.trans ?_ (hb1.mono (by first | (simp; done) | (simp; omega) | omega))))
end Go.Proofs.Ytihoanoanoaneaa
