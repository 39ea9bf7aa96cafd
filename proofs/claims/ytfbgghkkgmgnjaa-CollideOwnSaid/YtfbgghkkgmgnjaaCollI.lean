/- Package collide: the laws' helpers: Place, Equal, lives. -/
import Derived.Test.YtfbgghkkgmgnjaaCollH
import Derived.Test.YtfbgghkkgmgnjaaMadeAlloc
namespace Go.Proofs.Ytfbgghkkgmgnjaa
open Go.ChangeShapes Go.WideShapes Go.ChangeAt Go.RowKit Go.Shelf
open Fxm
set_option linter.unusedSimpArgs false
set_option linter.unusedVariables false

theorem ax_line {d : Int} (h : 0 < d) : axV (d, 0) = (1024, 0) := by
  have e1 : nrm (d, 0) = (1024, 0) := by
    unfold nrm
    simp only [Int.mul_zero, Int.add_zero, Int.zero_mul]
    rw [isq_sq (by omega), Int.mul_comm d 1024, flr_mul_self 1024 (by omega)]
    rw [show flr 0 d = 0 from by unfold flr; exact Int.zero_fdiv d]
  unfold axV
  rw [e1]
  rfl
def two (d : Int) : Prop := Hit (.c 2048) (.c 2048) (0, 0) (d, 0)
theorem two_ndir : ndir (.c 2048) (.c 2048) = 1 := rfl
theorem two_axis {d : Int} (h : 0 < d) : axisV (.c 2048) (.c 2048) (0, 0) (d, 0) 0 = (1024, 0) := by
  unfold axisV
  rw [show dirV (.c 2048) (.c 2048) (0, 0) (d, 0) 0 = (d - 0, 0 - 0) from rfl, Int.sub_zero, Int.sub_zero]
  exact ax_line h
theorem two_dpt {d : Int} (h : 0 < d) : dpt (.c 2048) (.c 2048) (0, 0) (d, 0) 0 = 4096 - d := by
  unfold dpt
  rw [two_axis h]
  unfold depthV
  show min (flr (0 * 1024 + 0 * 0) 1024 + 2048) (flr (d * 1024 + 0 * 0) 1024 + 2048) - max (flr (0 * 1024 + 0 * 0) 1024 - 2048) (flr (d * 1024 + 0 * 0) 1024 - 2048) = _
  simp only [Int.mul_zero, Int.zero_mul, Int.add_zero]
  rw [flr_mul_self d (by omega), show flr 0 1024 = 0 from rfl]
  omega
theorem two_yes : Hit (.c 2048) (.c 2048) (0, 0) (3072, 0) := by
  refine ⟨by unfold Bo.Ov bxS; simp [Sp.xa, Sp.ya, Sp.xb, Sp.yb], ?_⟩
  rintro ⟨k, hk, hd⟩
  obtain rfl : k = 0 := by rw [two_ndir] at hk; omega
  rw [two_dpt (by omega)] at hd
  omega
theorem two_no : ¬ Hit (.c 2048) (.c 2048) (0, 0) (4097, 0) := by
  rintro ⟨_, h⟩
  exact h ⟨0, by rw [two_ndir]; omega, by rw [two_dpt (by omega)]; omega⟩
theorem two_hitN : hitN (.c 2048) (.c 2048) (0, 0) (3072, 0) = (1024, 0) := by
  unfold hitN hitA
  rw [show hitK (.c 2048) (.c 2048) (0, 0) (3072, 0) = 0 from rfl, two_axis (by omega)]
  rw [if_neg]
  rw [show ((3072 : Int) - 0) * 1024 + (0 - 0) * 0 = 3072 * 1024 from rfl]
  show ¬ flr (3072 * 1024) 1024 < 0
  rw [flr_mul_self 3072 (by omega)]
  omega
theorem two_hitD : hitD (.c 2048) (.c 2048) (0, 0) (3072, 0) = 1024 := by
  unfold hitD
  rw [show hitK (.c 2048) (.c 2048) (0, 0) (3072, 0) = 0 from rfl, two_dpt (by omega)]
  rfl
theorem be_of {a : Int} (h1 : -8388608 ≤ a) (h2 : a ≤ 8388608) : Be a := ⟨h1, h2⟩
theorem liveA (w : World) : Calls Try.prog 18 #[.agg #[.int .i64 2048, .slice none 0 0], .agg #[.int .i64 0, .int .i64 0], .agg #[.int .i64 2048, .slice none 0 0], .agg #[.int .i64 3072, .int .i64 0]] w fun e w' =>
    e = .returned (.tuple #[.agg #[.int .i64 1024, .int .i64 0, .int .i64 1024], .bool true]) ∧ Below w.heap.size w w' := by
  refine (collide_any (.c 2048) (.c 2048) 0 0 3072 0 w ⟨by omega, by omega⟩ ⟨by omega, by omega⟩ (be_of (by omega) (by omega)) (be_of (by omega) (by omega)) (be_of (by omega) (by omega)) (be_of (by omega) (by omega))).mono ?_
  rintro e w' ⟨⟨h, _⟩ | ⟨_, he⟩, hb⟩
  · exact absurd two_yes h
  · rw [two_hitN, two_hitD] at he
    exact ⟨he, hb⟩
theorem liveB (w : World) : Calls Try.prog 18 #[.agg #[.int .i64 2048, .slice none 0 0], .agg #[.int .i64 0, .int .i64 0], .agg #[.int .i64 2048, .slice none 0 0], .agg #[.int .i64 4097, .int .i64 0]] w fun e w' =>
    e = .returned (.tuple #[.agg #[.int .i64 0, .int .i64 0, .int .i64 0], .bool false]) ∧ Below w.heap.size w w' := by
  refine (collide_any (.c 2048) (.c 2048) 0 0 4097 0 w ⟨by omega, by omega⟩ ⟨by omega, by omega⟩ (be_of (by omega) (by omega)) (be_of (by omega) (by omega)) (be_of (by omega) (by omega)) (be_of (by omega) (by omega))).mono ?_
  rintro e w' ⟨⟨_, he⟩ | ⟨h, _⟩, hb⟩
  · exact ⟨he, hb⟩
  · exact absurd h two_no

set_option maxHeartbeats 2000000 in
theorem lives5_any (w : World) : Calls Try.prog 20 #[] w fun e w' => e = .returned (.bool true) ∧ Below w.heap.size w w' := by
  go_enter Try.func20, Try.ntmps20
  go_wp2_with fail
  refine (liveA _).mono ?_
  rintro e w1 ⟨rfl, hb1⟩
  have c0 : w1.cell? ⟨w.heap.size, 0, none⟩ = some (.int .i64 2048) := carry hb1 (by simp)
  have c1 : w1.cell? ⟨w.heap.size, 1, none⟩ = some (.slice none 0 0) := carry hb1 (by simp)
  have hB1 := below_step (alloc_below w (.cells #[.int .i64 2048, .slice none 0 0] 25)) hb1
  have n0 := block_lt_of_cell c0
  simp only at n0
  clear hb1
  go_wp2_with fail
  refine (liveB _).mono ?_
  rintro e w2 ⟨rfl, hb2⟩
  have d0 : w2.cell? ⟨w1.heap.size, 0, none⟩ = some (.int .i64 1024) := carry hb2 (by simp)
  have d1 : w2.cell? ⟨w1.heap.size, 1, none⟩ = some (.int .i64 0) := carry hb2 (by simp)
  have d2 : w2.cell? ⟨w1.heap.size, 2, none⟩ = some (.int .i64 1024) := carry hb2 (by simp)
  have n1 := block_lt_of_cell d0
  simp only at n1
  have hB2 := below_step hB1 (below_step (alloc_below w1 (.cells #[.int .i64 1024, .int .i64 0, .int .i64 1024] 34)) hb2)
  clear hb2 hB1 c0 c1
  go_wp2
  go_ret
  exact ⟨rfl, below_step hB2 (alloc_below _ _)⟩
end Go.Proofs.Ytfbgghkkgmgnjaa
