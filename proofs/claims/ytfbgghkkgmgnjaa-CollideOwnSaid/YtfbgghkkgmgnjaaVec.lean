/- Contracts of package vec and of its reference. -/
import Derived.Test.YtfbgghkkgmgnjaaFixed
import Derived.Test.YtfbgghkkgmgnjaaFixSqrt
import Derived.Test.YtfbgghkkgmgnjaaMadeTail
import Derived.Outline
namespace Go.Proofs.Ytfbgghkkgmgnjaa
open Go.ChangeShapes Go.WideShapes Go.ChangeAt Go.RowKit
open Fxm
set_option linter.unusedSimpArgs false
set_option linter.unusedVariables false

/-- A component's bound in these contracts: 2^25. -/
def Bd (a : Int) : Prop := -33554432 ≤ a ∧ a ≤ 33554432
theorem prod25 {a b : Int} (ha : Bd a) (hb : Bd b) : -1125899906842624 ≤ a * b ∧ a * b ≤ 1125899906842624 := by
  have := prod_bd (a := a) (b := b) (A := 33554432) (B := 33554432) (by omega) (by omega) ha.1 ha.2 hb.1 hb.2
  omega
theorem bcell {W w1 : World} (hb : Below W.heap.size W w1) : (∀ b o, b < W.heap.size → w1.cell? ⟨b, o, none⟩ = W.cell? ⟨b, o, none⟩) ∧ (∀ b o, b < W.heap.size → w1.frozen? ⟨b, o, none⟩ = W.frozen? ⟨b, o, none⟩) :=
  ⟨fun b o h => hb.cell (p := ⟨b, o, none⟩) h, fun b o h => hb.frozen (p := ⟨b, o, none⟩) h⟩

theorem both_any (n : Int) (w : World) :
    Calls Try.prog 58 #[.int .i64 n] w fun e w' => e = .returned (.agg #[.int .i64 n, .int .i64 n]) ∧ Below w.heap.size w w' := by
  go_enter Try.func58, Try.ntmps58
  go_wp2
  refine bodyPost_ret (v := .agg #[.int .i64 n, .int .i64 n]) (by simp [results, Try.results58, go_sem]) rfl ⟨rfl, ?_⟩
  repeat (first | exact Below.refl _ _ | (refine Below.setCell ?_ (by first | (simp; done) | (simp; omega) | omega) _) | (refine Below.alloc ?_ (by first | exact Nat.le_refl _ | (simp; done) | (simp; omega) | omega) _) | refine Below.drew ?_ | (refine Below.trans ?_ ((hb _).mono (by first | (simp; done) | (simp; omega) | omega))) | (refine Below.trans ?_ (hb1.mono (by first | (simp; done) | (simp; omega) | omega))))

theorem addfn_any (a b : Int) (w : World) (h1 : -9223372036854775808 ≤ a + b) (h2 : a + b ≤ 9223372036854775807) :
    Calls Try.prog 61 #[.int .i64 a, .int .i64 b] w fun e w' => e = .returned (.int .i64 (a + b)) ∧ w = w' := by
  go_enter Try.func61, Try.ntmps61
  go_wp2
  go_ret
  exact ⟨rfl, rfl⟩

theorem subfn_any (a b : Int) (w : World) (h1 : -9223372036854775808 ≤ a - b) (h2 : a - b ≤ 9223372036854775807) :
    Calls Try.prog 76 #[.int .i64 a, .int .i64 b] w fun e w' => e = .returned (.int .i64 (a - b)) ∧ w = w' := by
  go_enter Try.func76, Try.ntmps76
  go_wp2
  go_ret
  exact ⟨rfl, rfl⟩

theorem mulDivfn_any (a b d : Int) (p : Addr) (w : World) (hc : w.cell? p = some (.int .i64 d)) (ha : Bd a) (hb : Bd b) :
    Calls Try.prog 59 #[.int .i64 a, .int .i64 b, .pointer (some p)] w fun e w' => e = .returned (.int .i64 (flr (a * b) d)) ∧ ∃ k, w' = w.drewN k := by
  obtain ⟨h1, h2⟩ := prod25 ha hb
  go_enter Try.func59, Try.ntmps59
  go_wp2_with (go_at_call 60; refine (mulDiv_any _ _ _ _ (by omega) (by omega)).mono ?_; rintro e w' ⟨rfl, k, rfl⟩)
  go_ret
  exact ⟨rfl, _, rfl⟩

theorem per_add (a0 a1 b0 b1 : Int) (w : World) (ha0 : Bd a0) (ha1 : Bd a1) (hb0 : Bd b0) (hb1 : Bd b1) :
    Calls Try.prog 57 #[.agg #[.int .i64 a0, .int .i64 a1], .agg #[.int .i64 b0, .int .i64 b1], .func (.func 61) #[] #[]] w fun e w' => e = .returned (.agg #[.int .i64 (a0 + b0), .int .i64 (a1 + b1)]) ∧ Below w.heap.size w w' := by
  go_enter Try.func57, Try.ntmps57
  go_wp2
  refine wp_region_tail 13 (by kernel_rfl) (by kernel_rfl) ?_
  intro W hK
  obtain ⟨hc, hf, hz, hb⟩ := hK
  simp only [List.take_succ_cons, List.take_zero, List.drop_succ_cons, List.drop_zero]
  repeat (go_big_quiet_step ((go_at_call 61; unfold Bd at ha0 ha1 hb0 hb1; exact met_same (addfn_any _ _ _ (by omega) (by omega)))))
  refine wpQuiet_nil ?_
  intro _ hw'
  obtain ⟨xq, hw''⟩ := hw'
  subst hw''
  go_wp2
  refine bodyPost_ret (v := .agg #[.int .i64 (a0 + b0), .int .i64 (a1 + b1)]) (by simp [results, Try.results57, go_sem, hc, hf]) rfl ⟨rfl, ?_⟩
  repeat (first | exact Below.refl _ _ | (refine Below.setCell ?_ (by first | (simp; done) | (simp; omega) | omega) _) | (refine Below.alloc ?_ (by first | exact Nat.le_refl _ | (simp; done) | (simp; omega) | omega) _) | refine Below.drew ?_ | (refine Below.trans ?_ ((hb _).mono (by first | (simp; done) | (simp; omega) | omega))) | (refine Below.trans ?_ (hb1.mono (by first | (simp; done) | (simp; omega) | omega))))

theorem per_sub (a0 a1 b0 b1 : Int) (w : World) (ha0 : Bd a0) (ha1 : Bd a1) (hb0 : Bd b0) (hb1 : Bd b1) :
    Calls Try.prog 57 #[.agg #[.int .i64 a0, .int .i64 a1], .agg #[.int .i64 b0, .int .i64 b1], .func (.func 76) #[] #[]] w fun e w' => e = .returned (.agg #[.int .i64 (a0 - b0), .int .i64 (a1 - b1)]) ∧ Below w.heap.size w w' := by
  go_enter Try.func57, Try.ntmps57
  go_wp2
  refine wp_region_tail 13 (by kernel_rfl) (by kernel_rfl) ?_
  intro W hK
  obtain ⟨hc, hf, hz, hb⟩ := hK
  simp only [List.take_succ_cons, List.take_zero, List.drop_succ_cons, List.drop_zero]
  repeat (go_big_quiet_step ((go_at_call 76; unfold Bd at ha0 ha1 hb0 hb1; exact met_same (subfn_any _ _ _ (by omega) (by omega)))))
  refine wpQuiet_nil ?_
  intro _ hw'
  obtain ⟨xq, hw''⟩ := hw'
  subst hw''
  go_wp2
  refine bodyPost_ret (v := .agg #[.int .i64 (a0 - b0), .int .i64 (a1 - b1)]) (by simp [results, Try.results57, go_sem, hc, hf]) rfl ⟨rfl, ?_⟩
  repeat (first | exact Below.refl _ _ | (refine Below.setCell ?_ (by first | (simp; done) | (simp; omega) | omega) _) | (refine Below.alloc ?_ (by first | exact Nat.le_refl _ | (simp; done) | (simp; omega) | omega) _) | refine Below.drew ?_ | (refine Below.trans ?_ ((hb _).mono (by first | (simp; done) | (simp; omega) | omega))) | (refine Below.trans ?_ (hb1.mono (by first | (simp; done) | (simp; omega) | omega))))

theorem per_div (a0 a1 b0 b1 : Int) (w : World) (ha0 : Bd a0) (ha1 : Bd a1) :
    Calls Try.prog 57 #[.agg #[.int .i64 a0, .int .i64 a1], .agg #[.int .i64 b0, .int .i64 b1], .func (.func 93) #[] #[]] w fun e w' => e = .returned (.agg #[.int .i64 (flr (a0 * 1024) b0), .int .i64 (flr (a1 * 1024) b1)]) ∧ Below w.heap.size w w' := by
  go_enter Try.func57, Try.ntmps57
  go_wp2
  refine wp_region_tail 13 (by kernel_rfl) (by kernel_rfl) ?_
  intro W hK
  obtain ⟨hc, hf, hz, hb⟩ := hK
  simp only [List.take_succ_cons, List.take_zero, List.drop_succ_cons, List.drop_zero]
  repeat (go_big_quiet_step ((go_at_call 93; unfold Bd at ha0 ha1; exact met_drawn (div_any _ _ _ (by omega) (by omega)))))
  refine wpQuiet_nil ?_
  intro _ hw'
  obtain ⟨xq, hw''⟩ := hw'
  subst hw''
  go_wp2
  refine bodyPost_ret (v := .agg #[.int .i64 (flr (a0 * 1024) b0), .int .i64 (flr (a1 * 1024) b1)]) (by simp [results, Try.results57, go_sem, hc, hf]) rfl ⟨rfl, ?_⟩
  repeat (first | exact Below.refl _ _ | (refine Below.setCell ?_ (by first | (simp; done) | (simp; omega) | omega) _) | (refine Below.alloc ?_ (by first | exact Nat.le_refl _ | (simp; done) | (simp; omega) | omega) _) | refine Below.drew ?_ | (refine Below.trans ?_ ((hb _).mono (by first | (simp; done) | (simp; omega) | omega))) | (refine Below.trans ?_ (hb1.mono (by first | (simp; done) | (simp; omega) | omega))))

theorem per_mulDiv (a0 a1 b0 b1 d : Int) (p : Nat) (w : World) (hp : p < w.heap.size) (hd : w.cell? ⟨p, 0, none⟩ = some (.int .i64 d)) (ha0 : Bd a0) (ha1 : Bd a1) (hb0 : Bd b0) (hb1 : Bd b1) :
    Calls Try.prog 57 #[.agg #[.int .i64 a0, .int .i64 a1], .agg #[.int .i64 b0, .int .i64 b1], .func (.func 59) #[] #[.pointer (some ⟨p, 0, none⟩)]] w fun e w' => e = .returned (.agg #[.int .i64 (flr (a0 * b0) d), .int .i64 (flr (a1 * b1) d)]) ∧ Below w.heap.size w w' := by
  go_enter Try.func57, Try.ntmps57
  go_wp2
  refine wp_region_tail 13 (by kernel_rfl) (by kernel_rfl) ?_
  intro W hK
  have hd' : ∀ x, (over W x).cell? ⟨p, 0, none⟩ = some (.int .i64 d) := fun x => (hK.cell x p 0 (by simp; omega)).trans (cell_alloc (cell_alloc (cell_alloc hd hp) (by simp; omega)) (by simp; omega))
  obtain ⟨hc, hf, hz, hb⟩ := hK
  simp only [List.take_succ_cons, List.take_zero, List.drop_succ_cons, List.drop_zero]
  repeat (go_big_quiet_step ((go_at_call 59; exact met_drawn (mulDivfn_any _ _ _ _ _ (hd' _) (by assumption) (by assumption)))))
  refine wpQuiet_nil ?_
  intro _ hw'
  obtain ⟨xq, hw''⟩ := hw'
  subst hw''
  go_wp2
  refine bodyPost_ret (v := .agg #[.int .i64 (flr (a0 * b0) d), .int .i64 (flr (a1 * b1) d)]) (by simp [results, Try.results57, go_sem, hc, hf]) rfl ⟨rfl, ?_⟩
  repeat (first | exact Below.refl _ _ | (refine Below.setCell ?_ (by first | (simp; done) | (simp; omega) | omega) _) | (refine Below.alloc ?_ (by first | exact Nat.le_refl _ | (simp; done) | (simp; omega) | omega) _) | refine Below.drew ?_ | (refine Below.trans ?_ ((hb _).mono (by first | (simp; done) | (simp; omega) | omega))) | (refine Below.trans ?_ (hb1.mono (by first | (simp; done) | (simp; omega) | omega))))

end Go.Proofs.Ytfbgghkkgmgnjaa
