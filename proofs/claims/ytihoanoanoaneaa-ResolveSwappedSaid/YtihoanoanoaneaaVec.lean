/- Contracts of package vec and of its reference. -/
import Derived.Test.YtihoanoanoaneaaFixed
import Derived.Test.YtihoanoanoaneaaMadeTail
import Derived.Outline
namespace Go.Proofs.Ytihoanoanoaneaa
open Go.ChangeShapes Go.WideShapes Go.ChangeAt Go.RowKit
open Fxm
set_option linter.unusedSimpArgs false
set_option linter.unusedVariables false

/-- A component's bound in these contracts: 2^25. -/
def Bd (a : Int) : Prop := -33554432 ≤ a ∧ a ≤ 33554432
theorem prod25 {a b : Int} (ha : Bd a) (hb : Bd b) : -1125899906842624 ≤ a * b ∧ a * b ≤ 1125899906842624 := by
  have := prod_bd (a := a) (b := b) (A := 33554432) (B := 33554432) (by omega) (by omega) ha.1 ha.2 hb.1 hb.2
  omega
theorem bcell {W w1 : World} (hb : Below W.heap.size W w1) : (∀ b o, b < W.heap.size → w1.cell? ⟨b, o, none⟩ = W.cell? ⟨b, o, none⟩) ∧ (∀ b o, b < W.heap.size → w1.frozen? ⟨b, o, none⟩ = W.frozen? ⟨b, o, none⟩) :=
  ⟨fun b o h => hb.cell (p := ⟨b, o, none⟩) h, fun b o h => hb.frozen (p := ⟨b, o, none⟩) h⟩

theorem both_any (n : Int) (w : World) :
    Calls Try.prog 50 #[.int .i64 n] w fun e w' => e = .returned (.agg #[.int .i64 n, .int .i64 n]) ∧ Below w.heap.size w w' := by
  go_enter Try.func50, Try.ntmps50
  go_wp2
  refine bodyPost_ret (v := .agg #[.int .i64 n, .int .i64 n]) (by simp [results, Try.results50, go_sem]) rfl ⟨rfl, ?_⟩
  repeat (first | exact Below.refl _ _ | (refine Below.setCell ?_ (by first | (simp; done) | (simp; omega) | omega) _) | (refine Below.alloc ?_ (by first | exact Nat.le_refl _ | (simp; done) | (simp; omega) | omega) _) | refine Below.drew ?_ | (refine Below.trans ?_ ((hb _).mono (by first | (simp; done) | (simp; omega) | omega))) | (refine Below.trans ?_ (hb1.mono (by first | (simp; done) | (simp; omega) | omega))))

theorem addfn_any (a b : Int) (w : World) (h1 : -9223372036854775808 ≤ a + b) (h2 : a + b ≤ 9223372036854775807) :
    Calls Try.prog 42 #[.int .i64 a, .int .i64 b] w fun e w' => e = .returned (.int .i64 (a + b)) ∧ w = w' := by
  go_enter Try.func42, Try.ntmps42
  go_wp2
  go_ret
  exact ⟨rfl, rfl⟩

theorem subfn_any (a b : Int) (w : World) (h1 : -9223372036854775808 ≤ a - b) (h2 : a - b ≤ 9223372036854775807) :
    Calls Try.prog 41 #[.int .i64 a, .int .i64 b] w fun e w' => e = .returned (.int .i64 (a - b)) ∧ w = w' := by
  go_enter Try.func41, Try.ntmps41
  go_wp2
  go_ret
  exact ⟨rfl, rfl⟩

theorem per_add (a0 a1 b0 b1 : Int) (w : World) (ha0 : Bd a0) (ha1 : Bd a1) (hb0 : Bd b0) (hb1 : Bd b1) :
    Calls Try.prog 40 #[.agg #[.int .i64 a0, .int .i64 a1], .agg #[.int .i64 b0, .int .i64 b1], .func (.func 42) #[] #[]] w fun e w' => e = .returned (.agg #[.int .i64 (a0 + b0), .int .i64 (a1 + b1)]) ∧ Below w.heap.size w w' := by
  go_enter Try.func40, Try.ntmps40
  go_wp2
  refine wp_region_tail 13 (by kernel_rfl) (by kernel_rfl) ?_
  intro W hK
  obtain ⟨hc, hf, hz, hb⟩ := hK
  simp only [List.take_succ_cons, List.take_zero, List.drop_succ_cons, List.drop_zero]
  repeat (go_big_quiet_step ((go_at_call 42; unfold Bd at ha0 ha1 hb0 hb1; exact met_same (addfn_any _ _ _ (by omega) (by omega)))))
  refine wpQuiet_nil ?_
  intro _ hw'
  obtain ⟨xq, hw''⟩ := hw'
  subst hw''
  go_wp2
  refine bodyPost_ret (v := .agg #[.int .i64 (a0 + b0), .int .i64 (a1 + b1)]) (by simp [results, Try.results40, go_sem, hc, hf]) rfl ⟨rfl, ?_⟩
  repeat (first | exact Below.refl _ _ | (refine Below.setCell ?_ (by first | (simp; done) | (simp; omega) | omega) _) | (refine Below.alloc ?_ (by first | exact Nat.le_refl _ | (simp; done) | (simp; omega) | omega) _) | refine Below.drew ?_ | (refine Below.trans ?_ ((hb _).mono (by first | (simp; done) | (simp; omega) | omega))) | (refine Below.trans ?_ (hb1.mono (by first | (simp; done) | (simp; omega) | omega))))

theorem per_sub (a0 a1 b0 b1 : Int) (w : World) (ha0 : Bd a0) (ha1 : Bd a1) (hb0 : Bd b0) (hb1 : Bd b1) :
    Calls Try.prog 40 #[.agg #[.int .i64 a0, .int .i64 a1], .agg #[.int .i64 b0, .int .i64 b1], .func (.func 41) #[] #[]] w fun e w' => e = .returned (.agg #[.int .i64 (a0 - b0), .int .i64 (a1 - b1)]) ∧ Below w.heap.size w w' := by
  go_enter Try.func40, Try.ntmps40
  go_wp2
  refine wp_region_tail 13 (by kernel_rfl) (by kernel_rfl) ?_
  intro W hK
  obtain ⟨hc, hf, hz, hb⟩ := hK
  simp only [List.take_succ_cons, List.take_zero, List.drop_succ_cons, List.drop_zero]
  repeat (go_big_quiet_step ((go_at_call 41; unfold Bd at ha0 ha1 hb0 hb1; exact met_same (subfn_any _ _ _ (by omega) (by omega)))))
  refine wpQuiet_nil ?_
  intro _ hw'
  obtain ⟨xq, hw''⟩ := hw'
  subst hw''
  go_wp2
  refine bodyPost_ret (v := .agg #[.int .i64 (a0 - b0), .int .i64 (a1 - b1)]) (by simp [results, Try.results40, go_sem, hc, hf]) rfl ⟨rfl, ?_⟩
  repeat (first | exact Below.refl _ _ | (refine Below.setCell ?_ (by first | (simp; done) | (simp; omega) | omega) _) | (refine Below.alloc ?_ (by first | exact Nat.le_refl _ | (simp; done) | (simp; omega) | omega) _) | refine Below.drew ?_ | (refine Below.trans ?_ ((hb _).mono (by first | (simp; done) | (simp; omega) | omega))) | (refine Below.trans ?_ (hb1.mono (by first | (simp; done) | (simp; omega) | omega))))

theorem per_mul (a0 a1 b0 b1 : Int) (w : World) (ha0 : Bd a0) (ha1 : Bd a1) (hb0 : Bd b0) (hb1 : Bd b1) :
    Calls Try.prog 40 #[.agg #[.int .i64 a0, .int .i64 a1], .agg #[.int .i64 b0, .int .i64 b1], .func (.func 28) #[] #[]] w fun e w' => e = .returned (.agg #[.int .i64 (flr (a0 * b0) 1024), .int .i64 (flr (a1 * b1) 1024)]) ∧ Below w.heap.size w w' := by
  go_enter Try.func40, Try.ntmps40
  go_wp2
  refine wp_region_tail 13 (by kernel_rfl) (by kernel_rfl) ?_
  intro W hK
  obtain ⟨hc, hf, hz, hb⟩ := hK
  simp only [List.take_succ_cons, List.take_zero, List.drop_succ_cons, List.drop_zero]
  repeat (go_big_quiet_step ((go_at_call 28; have p0 := prod25 ha0 hb0; have p1 := prod25 ha1 hb1; exact met_drawn (mul_any _ _ _ (by omega) (by omega)))))
  refine wpQuiet_nil ?_
  intro _ hw'
  obtain ⟨xq, hw''⟩ := hw'
  subst hw''
  go_wp2
  refine bodyPost_ret (v := .agg #[.int .i64 (flr (a0 * b0) 1024), .int .i64 (flr (a1 * b1) 1024)]) (by simp [results, Try.results40, go_sem, hc, hf]) rfl ⟨rfl, ?_⟩
  repeat (first | exact Below.refl _ _ | (refine Below.setCell ?_ (by first | (simp; done) | (simp; omega) | omega) _) | (refine Below.alloc ?_ (by first | exact Nat.le_refl _ | (simp; done) | (simp; omega) | omega) _) | refine Below.drew ?_ | (refine Below.trans ?_ ((hb _).mono (by first | (simp; done) | (simp; omega) | omega))) | (refine Below.trans ?_ (hb1.mono (by first | (simp; done) | (simp; omega) | omega))))

end Go.Proofs.Ytihoanoanoaneaa
