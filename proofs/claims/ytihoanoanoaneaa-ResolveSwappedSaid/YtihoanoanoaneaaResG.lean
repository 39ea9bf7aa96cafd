/- Package resolve: the generators of its laws: motions, contacts, axes, made of numbers. -/
import Derived.Test.YtihoanoanoaneaaVecC
import Derived.Test.YtihoanoanoaneaaRes
import Derived.Test.YtihoanoanoaneaaOpen
namespace Go.Proofs.Ytihoanoanoaneaa
open Go.ChangeShapes Go.WideShapes Go.ChangeAt Go.RowKit
open Fxm
set_option linter.unusedSimpArgs false
set_option linter.unusedVariables false

theorem wf64' {z : Int} (h : (Lit.int .i64 z).wf = true) : -9223372036854775808 ≤ z ∧ z ≤ 9223372036854775807 := by
  simp only [Lit.wf, Bool.and_eq_true, decide_eq_true_eq] at h; exact h

theorem pick_any (v : Value) (Z : Nat → Int) (l : Nat) (i m : Int) (w : World) (h : IntsAt w v 1 Z l) (hi : 0 ≤ i) (hi2 : i < 1000) (hm : 0 < m) :
    Calls Try.prog 25 #[v, .int .i64 i, .int .i64 m] w fun e w' => (∃ x, 0 ≤ x ∧ x < m ∧ e = .returned (.int .i64 x)) ∧ w = w' := by
  obtain ⟨a, cap, rfl, hl, hcap, hZ, hc⟩ := h
  unfold maxLen at hcap
  have hi0 : ¬ i < 0 := by omega
  by_cases hlt : i < l
  · obtain ⟨g, off, rfl, hcc⟩ := hc.resolve_left (by omega)
    have c0 := hcc i.toNat (by omega)
    obtain ⟨b1, b2⟩ := wf64' (hZ i.toNat)
    clear hcc hc hZ
    generalize Z i.toNat = z at *
    have hle : ¬ (l : Int) ≤ i := by omega
    go_enter Try.func25, Try.ntmps25
    go_wp2_with fail
    refine (aroundx_any z m _ b1 b2 hm).mono ?_
    rintro e w' ⟨⟨x, x1, x2, rfl⟩, rfl⟩
    go_wp2
    go_ret
    exact ⟨⟨x, x1, x2, rfl⟩, rfl⟩
  · clear hc hZ
    have hle : (l : Int) ≤ i := by omega
    go_enter Try.func25, Try.ntmps25
    go_wp2
    go_ret
    exact ⟨⟨0, by omega, hm, rfl⟩, rfl⟩

theorem bounded_any (v : Value) (Z : Nat → Int) (l : Nat) (i M : Int) (w : World) (h : IntsAt w v 1 Z l) (hi : 0 ≤ i) (hi2 : i < 1000) (hM : M = 1048576 ∨ M = 16384) :
    Calls Try.prog 23 #[v, .int .i64 i, .int .i64 M] w fun e w' => (∃ x, -M ≤ x ∧ x ≤ M ∧ e = .returned (.int .i64 x)) ∧ w = w' := by
  rcases hM with rfl | rfl
  all_goals
    have hk := Lib.hid h
    clear h
    go_enter Try.func23, Try.ntmps23
    go_wp2_with fail
    refine (pick_any v Z l i 1000000007 _ hk.out hi hi2 (by omega)).mono ?_
    rintro e w' ⟨⟨x, x1, x2, rfl⟩, rfl⟩
    have e1 : x.tdiv 3 = x / 3 := Int.tdiv_eq_ediv_of_nonneg x1
    have e2 : x.tmod 3 = x % 3 := Int.tmod_eq_emod_of_nonneg x1
    have e3 : (x / 3).tmod 601 = x / 3 % 601 := Int.tmod_eq_emod_of_nonneg (by omega)
    have e4 : (x / 3).tmod 2097153 = x / 3 % 2097153 := Int.tmod_eq_emod_of_nonneg (by omega)
    have e5 : (x / 3).tmod 32769 = x / 3 % 32769 := Int.tmod_eq_emod_of_nonneg (by omega)
    by_cases h3 : 0 < x % 3
    all_goals
      go_wp2
      go_ret
      exact ⟨⟨_, by omega, by omega, rfl⟩, rfl⟩

theorem mass_any (n : Int) (w : World) (h0 : 0 ≤ n) (h1 : n < 1000000) :
    Calls Try.prog 24 #[.int .i64 n] w fun e w' => (∃ x, 0 ≤ x ∧ x ≤ 4096 ∧ e = .returned (.int .i64 x)) ∧ Below w.heap.size w w' := by
  have e1 : n.tmod 4097 = n % 4097 := Int.tmod_eq_emod_of_nonneg h0
  have e2 : n.tmod 7 = n % 7 := Int.tmod_eq_emod_of_nonneg h0
  have h7 : n % 7 = 0 ∨ n % 7 = 1 ∨ n % 7 = 2 ∨ n % 7 = 3 ∨ n % 7 = 4 ∨ n % 7 = 5 ∨ n % 7 = 6 := by omega
  rcases h7 with h7 | h7 | h7 | h7 | h7 | h7 | h7
  all_goals
    rw [h7] at e2
    go_enter Try.func24, Try.ntmps24
    go_wp2
    go_ret
    exact ⟨⟨_, by omega, by omega, rfl⟩, alloc_below _ _⟩
end Go.Proofs.Ytihoanoanoaneaa
