/- The laws' lives of merkle. -/
import Derived.Test.YtknjdkgemkmoeaaMlK
namespace Go.Proofs.Ytknjdkgemkmoeaa
open Go.ChangeShapes Go.WideShapes Go.ChangeAt Go.RowKit Go.Shelf
set_option linter.unusedSimpArgs false
set_option linter.unusedVariables false
attribute [local go_sem] Oper.semAt_some

theorem three_new (w : World) (x y z : Int) : IL (w.alloc (.cells #[.int .i64 x, .int .i64 y, .int .i64 z] 3)) (.slice (some ⟨w.heap.size, 0, none⟩) 3 3) [x, y, z] := by
  refine ⟨_, 3, rfl, Nat.le_refl _, by decide, .inr ⟨w.heap.size, 0, rfl, by simp, fun i u hu => ?_⟩⟩
  rw [Nat.zero_add, World.cell?_alloc_new]
  simpa [ints] using hu
theorem ht_one : ht 1 = 0 := by decide
theorem ht_three : ht 3 = 2 := by decide
theorem root_one : rootW [7] = leafV 0 7 := by
  show nodeW [7] (ht 1) 0 = _
  rw [ht_one]; rfl
theorem sum_leaf07 (w : World) (v : Value) (h : IL w v [0, 7]) : Calls Try.prog 51 #[.string { data := #[108, 101, 97, 102] }, v] w fun e w' => e = .returned (.int .u64 ((rootW [7]).toNat : Int)) ∧ Below w.heap.size w w' := by
  have K := sum_any { data := #[108, 101, 97, 102] } _ [0, 7] _ h (by decide) (by simp)
  rw [show labL { data := #[108, 101, 97, 102] } = leafLab by decide] at K
  rw [root_one]
  exact K

theorem prove_one (w : World) (b : Nat) (x : TrX) (h : Tr w b x [7] (rowsW [7])) : Calls Try.prog 15 #[.pointer (some ⟨b, 0, none⟩), .int .i64 0] w fun e w' => ∃ a c, e = .returned (.agg #[.int .i64 0, .int .i64 7, .slice a 0 c]) ∧ Below w.heap.size w w' := by
  have K := treeProve_any w b x [7] 0 h (by decide)
  obtain ⟨q1, q2, q3⟩ := pr_in (show ([7] : List Int)[0]? = some 7 from rfl)
  rw [show (((0 : Nat) : Int)) = 0 from rfl] at q1 q2 q3
  rw [q1, q2, q3] at K
  refine K.mono ?_
  rintro e w' ⟨pv, rfl, ho, hb⟩
  obtain ⟨a, c, rfl, _⟩ := (SRow.owned ho).shape Nat.one_pos
  rw [proofW_len, show ht ([7] : List Int).length = 0 from ht_one]
  exact ⟨a, c, rfl, hb⟩
theorem prove_three (w : World) (b : Nat) (x : TrX) (h : Tr w b x [7, 8, 9] (rowsW [7, 8, 9])) : Calls Try.prog 15 #[.pointer (some ⟨b, 0, none⟩), .int .i64 2] w fun e w' => ∃ a c pl, e = .returned (.agg #[.int .i64 2, .int .i64 9, .slice a 2 c]) ∧
    VL w' (.slice a 2 c) (u64s pl) ∧ pl.length = 2 ∧ verW (rootW [7, 8, 9]) 3 2 9 pl = true ∧ Below w.heap.size w w' := by
  have K := treeProve_any w b x [7, 8, 9] 2 h (by decide)
  obtain ⟨q1, q2, q3⟩ := pr_in (show ([7, 8, 9] : List Int)[2]? = some 9 from rfl)
  rw [show (((2 : Nat) : Int)) = 2 from rfl] at q1 q2 q3
  rw [q1, q2, q3] at K
  refine K.mono ?_
  rintro e w' ⟨pv, rfl, ho, hb⟩
  have hlen : (proofW [7, 8, 9] 2 (ht ([7, 8, 9] : List Int).length)).length = 2 := by rw [proofW_len]; exact ht_three
  have hver := ver_proof (show ([7, 8, 9] : List Int)[2]? = some 9 from rfl)
  have hVL := VL.owned ho
  obtain ⟨a, c, rfl, _⟩ := (SRow.owned ho).shape Nat.one_pos
  rw [hlen] at hVL ⊢
  exact ⟨a, c, _, rfl, hVL, hlen, hver, hb⟩

set_option maxRecDepth 100000 in
set_option maxHeartbeats 8000000 in
theorem lives11_any (w : World) : Calls Try.prog 24 #[] w fun e w' => e = .returned (.bool true) ∧ Below w.heap.size w w' := by
  go_enter Try.func24, Try.ntmps24
  go_wp2_with fail
  refine (new_any _ [7] _ (one_new w 7) (by decide)).mono ?_
  rintro e w1 ⟨b1, x1, rfl, hT1, _, hb1⟩
  replace hb1 := below_step (alloc_below w _) hb1
  go_wp2_with fail
  refine (new_any _ [7, 8, 9] _ (three_new w1 7 8 9) (by decide)).mono ?_
  rintro e w2 ⟨b3, x3, rfl, hT3, _, hb2⟩
  replace hb2 := below_step (alloc_below w1 _) hb2
  replace hT1 := hT1.carry hb2
  replace hb1 := below_step hb1 hb2
  clear hb2
  go_wp2_with fail
  refine (prove_three w2 b3 x3 hT3).mono ?_
  rintro e w3 ⟨pa, pc, pl, rfl, hVL, hlen, hver, hb2⟩
  replace hT1 := hT1.carry hb2
  replace hT3 := hT3.carry hb2
  replace hb1 := below_step hb1 hb2
  clear hb2
  go_upto_region 6 with fail
  obtain ⟨V, hV⟩ : ∃ V, V = w3.alloc (.cells #[.int .i64 2, .int .i64 9, .slice pa 2 pc] 30) := ⟨_, rfl⟩
  have hbV : Below w3.heap.size w3 V := by rw [hV]; exact alloc_below _ _
  have hLV : LfB V w3.heap.size 2 9 (.slice pa 2 pc) := by rw [hV]; exact LfB.new _ _ _ _
  rw [← hV]
  clear hV
  have hT1' := Lib.hid (hT1.carry hbV)
  have hT3' := Lib.hid (hT3.carry hbV)
  have hVL' := Lib.hid (hVL.carry hbV)
  have hBV := Lib.hid (below_step hb1 hbV)
  have hLV' := Lib.hid hLV
  generalize w3.heap.size = lb at *
  clear hT1 hT3 hVL hb1 hbV
  have k1 := Lib.hid (fun W hW => prove_one W b1 x1 hW)
  have k2 := Lib.hid (fun W hW => treeRoot_any W b1 x1 [7] hW (by decide))
  have k3 := Lib.hid sum_leaf07
  have k4 := Lib.hid (fun W hW => treeRoot_any W b3 x3 [7, 8, 9] hW (by decide))
  have k5 := Lib.hid (fun W (hW : VL W (.slice pa 2 pc) (u64s pl)) => verify_any (rootW [7, 8, 9]) 3 2 9 _ pl W hW (by decide) (by omega))
  rw [hver] at k5
  simp only [show (((3 : Nat) : Int)) = 3 from rfl] at k5
  generalize ((rootW [7]).toNat : Int) = r1 at *
  generalize ((rootW [7, 8, 9]).toNat : Int) = r3 at *
  have e1 : (r1 == r1) = true := bq_self _
  clear hlen hver
  obtain ⟨c0, c1, c2⟩ : V.cell? ⟨lb, 0, none⟩ = some (.int .i64 2) ∧ V.cell? ⟨lb, 1, none⟩ = some (.int .i64 9) ∧ V.cell? ⟨lb, 2, none⟩ = some (.slice pa 2 pc) := ⟨hLV.c0, hLV.c1, hLV.c2⟩
  have bD : Below V.heap.size V V.drew := (Below.refl _ V).drew
  clear hLV
  have hfld : ∀ (qa : Option Addr) (qc : Nat) (w : World), (Instr.field 30 (.agg #[.int .i64 0, .int .i64 7, .slice qa 0 qc]) 2).run Try.prog w = .ok (.slice qa 0 qc) w := fun _ _ _ => by kernel_rfl
  go_region_with (first
    | (go_at_call 15; with_reducible refine (k1.out _ (hT1'.out.carry bD)).mono ?_; rintro e y1 ⟨qa, qc, rfl, hb⟩; have hY1 := Lib.hid (below_step bD hb); clear hb)
    | (go_at_call 17; with_reducible refine (k2.out _ (hT1'.out.carry hY1.out)).mono ?_; rintro e y2 ⟨rfl, hb⟩; have hY2 := Lib.hid (below_step hY1.out hb); clear hb)
    | (go_at_call 17; with_reducible refine (k2.out _ (hT1'.out.carry (below_step hY1.out (alloc_below y1 _)))).mono ?_; rintro e y2 ⟨rfl, hb⟩; have hI2 := Lib.hid ((two_new y1 0 7).carry hb); have hY2 := Lib.hid (below_step (below_step hY1.out (alloc_below y1 _)) hb); clear hb)
    | (go_at_call 51; with_reducible refine (k3.out _ _ (two_new y2 0 7)).mono ?_; rintro e y3 ⟨rfl, hb⟩; have hY3 := Lib.hid (below_step (below_step hY2.out (alloc_below y2 _)) hb); have d2 := carry hY3.out c2; have d1 := carry hY3.out c1; have d0 := carry hY3.out c0; clear hb)
    | (go_at_call 51; with_reducible refine (k3.out _ _ hI2.out).mono ?_; rintro e y3 ⟨rfl, hb⟩; have hY3 := Lib.hid (below_step hY2.out hb); have d2 := carry hY3.out c2; have d1 := carry hY3.out c1; have d0 := carry hY3.out c0; clear hb)
    | (go_at_call 17; with_reducible refine (k4.out _ (hT3'.out.carry hY3.out)).mono ?_; rintro e y4 ⟨rfl, hb⟩; have hY4 := Lib.hid (below_step hY3.out hb); have e2 := carry hY4.out c2; have e1 := carry hY4.out c1; have e0 := carry hY4.out c0; clear hb)
    | (go_at_call 62; with_reducible refine (k5.out _ (hVL'.out.carry hY4.out)).mono ?_; rintro e y5 ⟨rfl, hb⟩; have hY5 := Lib.hid (below_step hY4.out hb); clear hb))
  all_goals
    go_wp2
    go_ret
    exact ⟨rfl, below_step hBV.out hY5.out⟩
end Go.Proofs.Ytknjdkgemkmoeaa
