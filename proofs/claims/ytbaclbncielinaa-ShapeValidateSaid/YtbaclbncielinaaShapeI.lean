/- The law's own helpers: near, axis, lives; generated shapes by one contract. -/
import Derived.Test.YtbaclbncielinaaShapeH
import Derived.Test.YtbaclbncielinaaFixMath
namespace Go.Proofs.Ytbaclbncielinaa
open Go.ChangeShapes Go.WideShapes Go.ChangeAt Go.RowKit
open Fxm
set_option linter.unusedSimpArgs false
set_option linter.unusedVariables false

/-- The section's example: the square. -/
def sq : List (Int × Int) := [(-2, -2), (2, -2), (2, 2), (-2, 2)]
theorem sq_gen : Gen sq := ⟨by decide, by decide, by unfold Small; decide, by unfold Convex; decide, by decide⟩
theorem sq_bounds : lo (fun p => 10 + p.1) sq 4 = 8 ∧ lo (fun p => 0 + p.2) sq 4 = -2 ∧ hi (fun p => 10 + p.1) sq 4 = 12 ∧ hi (fun p => 0 + p.2) sq 4 = 2 := by decide
theorem sq_in : insideB sq (12 - 10, 2 - 0) = true := by decide
theorem sq_out : insideB sq (13 - 10, 0 - 0) = false := by decide
theorem no_valid : ¬ Valid 0 [] := by
  rintro (⟨_, h, _⟩ | h)
  · omega
  · have := h.2.1; simp at this
theorem circ_valid {r : Int} (h : 1 ≤ r ∧ r ≤ 32768) : Valid r [] := Or.inl ⟨rfl, h.1, h.2⟩

set_option maxRecDepth 100000 in
set_option maxHeartbeats 4000000 in
theorem lives3_any (w : World) :
    Calls Try.prog 8 #[] w fun e w' => e = .returned (.bool true) ∧ Below w.heap.size w w' := by
  go_enter Try.func8, Try.ntmps8
  go_wp2_with fail
  obtain ⟨w1, hw1⟩ : ∃ w1, w1 = (((w.alloc (.cells #[.int .i64 (-2), .int .i64 (-2), .int .i64 2, .int .i64 (-2), .int .i64 2, .int .i64 2, .int .i64 (-2), .int .i64 2] 37)).alloc (.cells #[.int .i64 0, .slice (some ⟨w.heap.size, 0, none⟩) 4 4] 24)).alloc (.cells #[.int .i64 5, .slice none 0 0] 24)).alloc (.cells #[.int .i64 10, .int .i64 0] 37) := ⟨_, rfl⟩
  rw [← hw1]
  have hB : Below w.heap.size w w1 := by rw [hw1]; exact below_step (below_step (below_step (alloc_below _ _) (alloc_below _ _)) (alloc_below _ _)) (alloc_below _ _)
  have hR : Row w1 w.heap.size 4 sq := ⟨by decide, by unfold maxLen; decide, fun i u hu => by
    have hi : i < 8 := (List.getElem?_eq_some_iff.1 hu).1
    rw [hw1]
    match i, hi, hu with
    | 0, _, hu => cases hu; simp [go_sem]
    | 1, _, hu => cases hu; simp [go_sem]
    | 2, _, hu => cases hu; simp [go_sem]
    | 3, _, hu => cases hu; simp [go_sem]
    | 4, _, hu => cases hu; simp [go_sem]
    | 5, _, hu => cases hu; simp [go_sem]
    | 6, _, hu => cases hu; simp [go_sem]
    | 7, _, hu => cases hu; simp [go_sem]⟩
  have s0 : w1.cell? ⟨w.heap.size + 1, 0, none⟩ = some (.int .i64 0) := by rw [hw1]; simp [go_sem]
  have s1 : w1.cell? ⟨w.heap.size + 1, 1, none⟩ = some (.slice (some ⟨w.heap.size, 0, none⟩) 4 4) := by rw [hw1]; simp [go_sem]
  have c0 : w1.cell? ⟨w.heap.size + 1 + 1, 0, none⟩ = some (.int .i64 5) := by rw [hw1]; simp [go_sem]
  have c1 : w1.cell? ⟨w.heap.size + 1 + 1, 1, none⟩ = some (.slice none 0 0) := by rw [hw1]; simp [go_sem]
  have a0 : w1.cell? ⟨w.heap.size + 1 + 1 + 1, 0, none⟩ = some (.int .i64 10) := by rw [hw1]; simp [go_sem]
  have a1 : w1.cell? ⟨w.heap.size + 1 + 1 + 1, 1, none⟩ = some (.int .i64 0) := by rw [hw1]; simp [go_sem]
  have hRh := Lib.hid hR
  clear hw1 hR
  have B10 : Bp 10 := ⟨by omega, by omega⟩
  have B0 : Bp 0 := ⟨by omega, by omega⟩
  have D12 : Bd 12 := ⟨by omega, by omega⟩
  have D13 : Bd 13 := ⟨by omega, by omega⟩
  have D2 : Bd 2 := ⟨by omega, by omega⟩
  have D3 : Bd 3 := ⟨by omega, by omega⟩
  have D4 : Bd 4 := ⟨by omega, by omega⟩
  refine (validate_ok (Row.poly hRh.out) sq_gen.valid).mono ?_
  rintro e w2 ⟨rfl, hb2⟩
  replace s0 := carry (hb2) s0
  replace s1 := carry (hb2) s1
  replace c0 := carry (hb2) c0
  replace c1 := carry (hb2) c1
  replace a0 := carry (hb2) a0
  replace a1 := carry (hb2) a1
  replace hRh := Lib.hid (hRh.out.carry hb2)
  replace hB := below_step hB hb2
  clear hb2
  go_wp2_with fail
  refine (validate_ok (vs := []) (Or.inl ⟨rfl, _, _, rfl⟩) (circ_valid (by omega))).mono ?_
  rintro e w3 ⟨rfl, hb3⟩
  replace s0 := carry (hb3) s0
  replace s1 := carry (hb3) s1
  replace c0 := carry (hb3) c0
  replace c1 := carry (hb3) c1
  replace a0 := carry (hb3) a0
  replace a1 := carry (hb3) a1
  replace hRh := Lib.hid (hRh.out.carry hb3)
  replace hB := below_step hB hb3
  clear hb3
  go_wp2_with fail
  refine (validate_no (vs := []) (Or.inl ⟨rfl, _, _, rfl⟩) no_valid).mono ?_
  rintro e w4 ⟨rfl, hb4⟩
  replace s0 := carry (hb4) s0
  replace s1 := carry (hb4) s1
  replace c0 := carry (hb4) c0
  replace c1 := carry (hb4) c1
  replace a0 := carry (hb4) a0
  replace a1 := carry (hb4) a1
  replace hRh := Lib.hid (hRh.out.carry hb4)
  replace hB := below_step hB hb4
  clear hb4
  go_wp2_with fail
  have kb := bounds_any 10 0 w.heap.size 4 sq w4 hRh.out (by decide) (by decide) sq_gen.small B10 B0
  rw [show sq.length = 4 from rfl, sq_bounds.1, sq_bounds.2.1, sq_bounds.2.2.1, sq_bounds.2.2.2] at kb
  refine kb.mono ?_
  clear kb
  rintro e w5 ⟨rfl, hb5⟩
  replace s0 := carry (hb5) s0
  replace s1 := carry (hb5) s1
  replace c0 := carry (hb5) c0
  replace c1 := carry (hb5) c1
  replace a0 := carry (hb5) a0
  replace a1 := carry (hb5) a1
  replace hRh := Lib.hid (hRh.out.carry hb5)
  replace hB := below_step hB hb5
  clear hb5
  go_wp2_with fail
  have kc := shContains_any 0 10 0 12 2 w.heap.size 4 sq w5 hRh.out (by decide) (by decide) sq_gen.small B10.bd B0.bd D12 D2
  rw [sq_in] at kc
  refine kc.mono ?_
  clear kc
  rintro e w6 ⟨rfl, hb6⟩
  replace s0 := carry (hb6) s0
  replace s1 := carry (hb6) s1
  replace c0 := carry (hb6) c0
  replace c1 := carry (hb6) c1
  replace a0 := carry (hb6) a0
  replace a1 := carry (hb6) a1
  replace hRh := Lib.hid (hRh.out.carry hb6)
  replace hB := below_step hB hb6
  clear hb6
  go_wp2_with fail
  have kc := shContains_any 0 10 0 13 0 w.heap.size 4 sq w6 hRh.out (by decide) (by decide) sq_gen.small B10.bd B0.bd D13 B0.bd
  rw [sq_out] at kc
  refine kc.mono ?_
  clear kc
  rintro e w7 ⟨rfl, hb7⟩
  replace s0 := carry (hb7) s0
  replace s1 := carry (hb7) s1
  replace c0 := carry (hb7) c0
  replace c1 := carry (hb7) c1
  replace a0 := carry (hb7) a0
  replace a1 := carry (hb7) a1
  replace hRh := Lib.hid (hRh.out.carry hb7)
  replace hB := below_step hB hb7
  clear hb7
  go_wp2_with fail
  have kc := shContainsC_any 5 0 0 3 4 w7 (by omega) B0.bd B0.bd D3 D4
  rw [show decide ((3 - 0) * (3 - 0) + (4 - 0) * (4 - 0) ≤ (5 : Int) * 5) = true from by decide] at kc
  refine kc.mono ?_
  clear kc
  rintro e w8 ⟨rfl, hb8⟩
  replace s0 := carry (hb8) s0
  replace s1 := carry (hb8) s1
  replace c0 := carry (hb8) c0
  replace c1 := carry (hb8) c1
  replace a0 := carry (hb8) a0
  replace a1 := carry (hb8) a1
  replace hRh := Lib.hid (hRh.out.carry hb8)
  replace hB := below_step hB hb8
  clear hb8
  go_wp2_with fail
  have kc := shContainsC_any 5 0 0 4 4 w8 (by omega) B0.bd B0.bd D4 D4
  rw [show decide ((4 - 0) * (4 - 0) + (4 - 0) * (4 - 0) ≤ (5 : Int) * 5) = false from by decide] at kc
  refine kc.mono ?_
  clear kc
  rintro e w9 ⟨rfl, hb9⟩
  replace hB := below_step hB hb9
  clear hb9
  go_wp2
  go_ret
  exact ⟨rfl, hB⟩
end Go.Proofs.Ytbaclbncielinaa
