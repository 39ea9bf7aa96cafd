/- The law's lives; SameInts, SameBytes. -/
import Derived.Test.YtgbahacodamhjaaHaJ
namespace Go.Proofs.Ytgbahacodamhjaa
open Go.ChangeShapes Go.WideShapes Go.ChangeAt Go.RowKit Go.Shelf
set_option linter.unusedSimpArgs false
set_option linter.unusedVariables false

theorem bytes_new (w : World) (x y : Nat) (hx : x < 256) (hy : y < 256) :
    ByRow (w.alloc (.cells #[.int .u8 (x : Nat), .int .u8 (y : Nat)] 5)) (fun r => r < (w.alloc (.cells #[.int .u8 (x : Nat), .int .u8 (y : Nat)] 5)).heap.size) (some ⟨w.heap.size, 0, none⟩) 2 2 [x, y] := by
  refine ⟨rfl, Nat.le_refl _, by decide, ?_, fun _ => ⟨w.heap.size, 0, rfl, by simp, by simp, fun i b hi => ?_⟩⟩
  · intro b hb
    simp only [List.mem_cons, List.not_mem_nil, or_false] at hb
    rcases hb with rfl | rfl <;> assumption
  · rw [Nat.zero_add, World.cell?_alloc_new]
    have := byts_at hi
    simpa [byts] using this
theorem aLab : labL { data := #[97] } = [97] := by decide
theorem aSize : ByteArray.size { data := #[97] } ≤ 1000 := by decide
theorem beq_toNat {a b : W64} : (((a.toNat : Int)) == (b.toNat : Int)) = decide (a = b) := by
  by_cases h : a = b
  · subst h; simp
  · rw [decide_eq_false h]
    simp only [beq_eq_false_iff_ne, ne_eq]
    exact fun e => h (toNat_inj'.1 e)

set_option maxHeartbeats 4000000 in
theorem lives10_any (w : World) : Calls Try.prog 15 #[] w fun e w' => e = .returned (.bool true) ∧ Below w.heap.size w w' := by
  have K1 := fun w => sum_any { data := #[97] } _ [5] _ (one_new w 5) aSize (by decide)
  have K2 := fun w => sum_any { data := #[97] } _ [6] _ (one_new w 6) aSize (by decide)
  have K3 := fun w => bytes_any { data := #[97] } _ 2 2 [1, 2] _ (bytes_new w 1 2 (by decide) (by decide)) aSize (by decide)
  have K4 := fun w => sum_any { data := #[97] } _ [513, 2] _ (two_new w 513 2) aSize (by decide)
  have K5 := fun w => pair_any 1 2 w
  have K6 := fun w => pair_any 1 3 w
  rw [aLab] at K1 K2 K3 K4
  simp only [show ((1 : Nat) : Int) = 1 from rfl, show ((2 : Nat) : Int) = 2 from rfl] at K3
  have d1 : ((((sumW [97] ([5].map (BitVec.ofInt 64))).toNat : Int)) == ((sumW [97] ([6].map (BitVec.ofInt 64))).toNat : Int)) = false := by rw [beq_toNat]; decide
  have d2 : ((((bytesW [97] [1, 2]).toNat : Int)) == ((sumW [97] ([513, 2].map (BitVec.ofInt 64))).toNat : Int)) = true := by rw [beq_toNat]; decide
  have d3 : ((((pairW 1 2).toNat : Int)) == ((pairW 1 3).toNat : Int)) = false := by rw [beq_toNat]; decide
  rw [show (((1 : W64).toNat : Int)) = 1 from rfl] at K5 K6
  rw [show (((2 : W64).toNat : Int)) = 2 from rfl] at K5
  rw [show (((3 : W64).toNat : Int)) = 3 from rfl] at K6
  generalize ((sumW [97] ([5].map (BitVec.ofInt 64))).toNat : Int) = z1 at *
  generalize ((sumW [97] ([6].map (BitVec.ofInt 64))).toNat : Int) = z2 at *
  generalize ((bytesW [97] [1, 2]).toNat : Int) = z3 at *
  generalize ((sumW [97] ([513, 2].map (BitVec.ofInt 64))).toNat : Int) = z4 at *
  generalize ((pairW 1 2).toNat : Int) = z5 at *
  generalize ((pairW 1 3).toNat : Int) = z6 at *
  have e1 : ¬ z1 = z2 := by simpa using d1
  have e3 : ¬ z5 = z6 := by simpa using d3
  clear d1 d3
  have k1 := Lib.hid K1
  have k2 := Lib.hid K2
  have k3 := Lib.hid K3
  have k4 := Lib.hid K4
  have k5 := Lib.hid K5
  have k6 := Lib.hid K6
  clear K1 K2 K3 K4 K5 K6
  go_enter Try.func15, Try.ntmps15
  go_wp2_with (first
    | (go_at_call 13; with_reducible refine (k1.out w).mono ?_; rintro e w1 ⟨rfl, hb⟩; have hB1 := Lib.hid (below_step (alloc_below w _) hb); clear hb)
    | (go_at_call 13; with_reducible refine (k2.out w1).mono ?_; rintro e w2 ⟨rfl, hb⟩; have hB2 := Lib.hid (below_step hB1.out (below_step (alloc_below w1 _) hb)); clear hb)
    | (go_at_call 17; with_reducible refine (k3.out w2).mono ?_; rintro e w3 ⟨rfl, hb⟩; have hB3 := Lib.hid (below_step hB2.out (below_step (alloc_below w2 _) hb)); clear hb)
    | (go_at_call 13; with_reducible refine (k4.out w3).mono ?_; rintro e w4 ⟨rfl, hb⟩; have hB4 := Lib.hid (below_step hB3.out (below_step (alloc_below w3 _) hb)); clear hb)
    | (go_at_call 19; with_reducible refine (k5.out w4).mono ?_; rintro e w5 ⟨rfl, hb⟩; have hB5 := Lib.hid (below_step hB4.out hb); clear hb)
    | (go_at_call 19; with_reducible refine (k6.out w5).mono ?_; rintro e w6 ⟨rfl, hb⟩; have hB6 := Lib.hid (below_step hB5.out hb); clear hb))
  go_ret
  exact ⟨by show Ending.returned (Value.bool (z1 != z2 && z5 != z6)) = _; simp [e1, e3], hB6.out⟩
end Go.Proofs.Ytgbahacodamhjaa
