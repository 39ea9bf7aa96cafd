/- The section's example. -/
import Derived.Test.YtbgafimiodfkaaaBroadH
import Derived.Deep.RegionHeld3
namespace Go.Proofs.Ytbgafimiodfkaaa
open Go.ChangeShapes Go.WideShapes Go.ChangeAt Go.RowKit
open Bo
set_option linter.unusedSimpArgs false
set_option linter.unusedVariables false

def ex3 : List Bx := [⟨0, 0, 2, 2⟩, ⟨2, 2, 3, 3⟩, ⟨4, 0, 5, 1⟩]
theorem ex3_pairs : pairs ex3 = [(0, 1)] := by decide
theorem ex3_yes : Ov ⟨0, 0, 2, 2⟩ ⟨2, 2, 3, 3⟩ := by decide
theorem ex3_no : ¬ Ov ⟨2, 2, 3, 3⟩ ⟨4, 0, 5, 1⟩ := by decide
def one01 : List (Nat × Nat) := [(0, 1)]
theorem one_at (w : World) (n : Nat) (hn : n = w.heap.size) : PairsAt (w.alloc (.cells #[.int .i64 0, .int .i64 1] 39)) (.slice (some ⟨n, 0, none⟩) 1 1) one01 := by
  subst hn
  refine Or.inr ⟨w.heap.size, 0, 1, rfl, ⟨by decide, by unfold maxLen; decide, fun i u hu => ?_⟩⟩
  have := World.cell?_alloc_new (w := w) #[.int .i64 0, .int .i64 1] 39 i
  rw [Nat.zero_add, this]
  simpa [one01, encPr] using hu

set_option maxRecDepth 100000 in
set_option maxHeartbeats 1000000 in
theorem lives4_any (w : World) :
    Calls Try.prog 13 #[] w fun e w' => e = .returned (.bool true) ∧ Below w.heap.size w w' := by
  go_enter Try.func13, Try.ntmps13
  go_wp2_with fail
  obtain ⟨U, hU⟩ : ∃ U, U = w.alloc (.cells #[.int .i64 0, .int .i64 0, .int .i64 2, .int .i64 2, .int .i64 2, .int .i64 2, .int .i64 3, .int .i64 3, .int .i64 4, .int .i64 0, .int .i64 5, .int .i64 1] 23) := ⟨_, rfl⟩
  rw [← hU]
  have hB : Below w.heap.size w U := by rw [hU]; exact alloc_below _ _
  have hq : w.heap.size < U.heap.size := by rw [hU]; simp
  have cc : ∀ i, U.cell? ⟨w.heap.size, i, none⟩ = (#[.int .i64 0, .int .i64 0, .int .i64 2, .int .i64 2, .int .i64 2, .int .i64 2, .int .i64 3, .int .i64 3, .int .i64 4, .int .i64 0, .int .i64 5, .int .i64 1] : Array Value)[i]? := fun i => by rw [hU]; exact World.cell?_alloc_new (w := w) _ _ i
  have c0 : U.cell? ⟨w.heap.size, 0, none⟩ = some (.int .i64 0) := cc 0
  have c1 : U.cell? ⟨w.heap.size, 1, none⟩ = some (.int .i64 0) := cc 1
  have c2 : U.cell? ⟨w.heap.size, 2, none⟩ = some (.int .i64 2) := cc 2
  have c3 : U.cell? ⟨w.heap.size, 3, none⟩ = some (.int .i64 2) := cc 3
  have c4 : U.cell? ⟨w.heap.size, 4, none⟩ = some (.int .i64 2) := cc 4
  have c5 : U.cell? ⟨w.heap.size, 5, none⟩ = some (.int .i64 2) := cc 5
  have c6 : U.cell? ⟨w.heap.size, 6, none⟩ = some (.int .i64 3) := cc 6
  have c7 : U.cell? ⟨w.heap.size, 7, none⟩ = some (.int .i64 3) := cc 7
  have c8 : U.cell? ⟨w.heap.size, 8, none⟩ = some (.int .i64 4) := cc 8
  have c9 : U.cell? ⟨w.heap.size, 9, none⟩ = some (.int .i64 0) := cc 9
  have c10 : U.cell? ⟨w.heap.size, 10, none⟩ = some (.int .i64 5) := cc 10
  have c11 : U.cell? ⟨w.heap.size, 11, none⟩ = some (.int .i64 1) := cc 11
  have hat : BoxesAt U (.slice (some ⟨w.heap.size, 0, none⟩) 3 3) ex3 := Or.inr ⟨w.heap.size, 0, 3, rfl, ⟨by decide, by unfold maxLen; decide, fun i u hu => by
    rw [Nat.zero_add, cc i]
    simpa [ex3, Bx.cells] using hu⟩⟩
  have hat' := Lib.hid hat
  have hB' := Lib.hid hB
  clear hat hB cc hU
  have kY0 : ∀ W, Calls Try.prog 11 #[.agg #[.int .i64 0, .int .i64 0, .int .i64 2, .int .i64 2], .agg #[.int .i64 2, .int .i64 2, .int .i64 3, .int .i64 3]] W fun e w' => e = .returned (.bool true) ∧ Below W.heap.size W w' := fun W => overlapY ⟨0, 0, 2, 2⟩ ⟨2, 2, 3, 3⟩ ex3_yes W
  have kN0 : ∀ W, Calls Try.prog 11 #[.agg #[.int .i64 2, .int .i64 2, .int .i64 3, .int .i64 3], .agg #[.int .i64 4, .int .i64 0, .int .i64 5, .int .i64 1]] W fun e w' => e = .returned (.bool false) ∧ Below W.heap.size W w' := fun W => overlapN ⟨2, 2, 3, 3⟩ ⟨4, 0, 5, 1⟩ ex3_no W
  have kP0 : ∀ W, Below U.heap.size U W → Calls Try.prog 16 #[.slice (some ⟨w.heap.size, 0, none⟩) 3 3] W fun e w' => (∃ v, e = .returned v ∧ PairsAt w' v one01) ∧ Below W.heap.size W w' := fun W hW =>
    (pairs_any _ ex3 W (hat'.out.carry hW) (by decide)).mono fun e w' ⟨⟨v, he, ho⟩, hb⟩ => ⟨⟨v, he, by rw [ex3_pairs] at ho; exact PairsAt.owned ho⟩, hb⟩
  have kS0 : ∀ v v' W, PairsAt W v one01 → PairsAt W v' one01 → Calls Try.prog 15 #[v, v'] W fun e w' => e = .returned (.bool true) ∧ Below W.heap.size W w' := fun v v' W h h' =>
    (same_any v v' one01 one01 W h h').mono fun e w' ⟨he, hk⟩ => ⟨by rw [he, decide_eq_true rfl], below_drawn hk⟩
  have kY := Lib.hid kY0
  have kN := Lib.hid kN0
  have kP := Lib.hid kP0
  have kS := Lib.hid kS0
  clear kY0 kN0 kP0 kS0
  have mk := Lib.hid (fun w' (h : Below U.heap.size U w') => (⟨(h.cell hq).trans c0, (h.cell hq).trans c1, (h.cell hq).trans c2, (h.cell hq).trans c3, (h.cell hq).trans c4, (h.cell hq).trans c5, (h.cell hq).trans c6, (h.cell hq).trans c7, (h.cell hq).trans c8, (h.cell hq).trans c9, (h.cell hq).trans c10, (h.cell hq).trans c11, h⟩ :
    w'.cell? ⟨w.heap.size, 0, none⟩ = some (.int .i64 0) ∧ w'.cell? ⟨w.heap.size, 1, none⟩ = some (.int .i64 0) ∧ w'.cell? ⟨w.heap.size, 2, none⟩ = some (.int .i64 2) ∧ w'.cell? ⟨w.heap.size, 3, none⟩ = some (.int .i64 2) ∧ w'.cell? ⟨w.heap.size, 4, none⟩ = some (.int .i64 2) ∧ w'.cell? ⟨w.heap.size, 5, none⟩ = some (.int .i64 2) ∧ w'.cell? ⟨w.heap.size, 6, none⟩ = some (.int .i64 3) ∧ w'.cell? ⟨w.heap.size, 7, none⟩ = some (.int .i64 3) ∧ w'.cell? ⟨w.heap.size, 8, none⟩ = some (.int .i64 4) ∧ w'.cell? ⟨w.heap.size, 9, none⟩ = some (.int .i64 0) ∧ w'.cell? ⟨w.heap.size, 10, none⟩ = some (.int .i64 5) ∧ w'.cell? ⟨w.heap.size, 11, none⟩ = some (.int .i64 1) ∧ Below U.heap.size U w'))
  go_region_held3 (fun w' => w'.cell? ⟨w.heap.size, 0, none⟩ = some (.int .i64 0) ∧ w'.cell? ⟨w.heap.size, 1, none⟩ = some (.int .i64 0) ∧ w'.cell? ⟨w.heap.size, 2, none⟩ = some (.int .i64 2) ∧ w'.cell? ⟨w.heap.size, 3, none⟩ = some (.int .i64 2) ∧ w'.cell? ⟨w.heap.size, 4, none⟩ = some (.int .i64 2) ∧ w'.cell? ⟨w.heap.size, 5, none⟩ = some (.int .i64 2) ∧ w'.cell? ⟨w.heap.size, 6, none⟩ = some (.int .i64 3) ∧ w'.cell? ⟨w.heap.size, 7, none⟩ = some (.int .i64 3) ∧ w'.cell? ⟨w.heap.size, 8, none⟩ = some (.int .i64 4) ∧ w'.cell? ⟨w.heap.size, 9, none⟩ = some (.int .i64 0) ∧ w'.cell? ⟨w.heap.size, 10, none⟩ = some (.int .i64 5) ∧ w'.cell? ⟨w.heap.size, 11, none⟩ = some (.int .i64 1) ∧ Below U.heap.size U w')
    (first | (exact mk.out _ (Below.refl _ _).drew) | (exact mk.out _ (by assumption)) | (exact mk.out _ (below_step (by assumption) (alloc_below _ _))))
    (first
      | (go_at_call 11; (with_reducible refine (kY.out _).mono ?_); rintro e w2 ⟨rfl, hb2⟩; have hA2 : Below U.heap.size U w2 := below_step ((Below.refl _ _).drew) hb2)
      | (go_at_call 11; (with_reducible refine (kN.out _).mono ?_); rintro e w3 ⟨rfl, hb3⟩; have hA3 : Below U.heap.size U w3 := below_step hA2 hb3)
      | (go_at_call 16; refine (kP.out _ (by first | exact hA3 | exact below_step hA3 (alloc_below _ _))).mono ?_; rintro e w4 ⟨⟨v, rfl, hown⟩, hb4⟩; have hA4 : Below U.heap.size U w4 := (by first | exact below_step hA3 hb4 | exact below_step (below_step hA3 (alloc_below _ _)) hb4))
      | (go_at_call 15; (with_reducible refine (kS.out _ _ _ (hown.carry (alloc_below _ _)) (one_at _ _ rfl)).mono ?_); rintro e w5 ⟨rfl, hb5⟩; have hA5 : Below U.heap.size U w5 := below_step (below_step hA4 (alloc_below _ _)) hb5)
      | (go_at_call 15; (with_reducible refine (kS.out _ _ _ hown ((one_at _ _ rfl).carry hb4)).mono ?_); rintro e w5 ⟨rfl, hb5⟩; have hA5 : Below U.heap.size U w5 := below_step hA4 hb5))
  all_goals
    clear kY kN kP kS mk c0 c1 c2 c3 c4 c5 c6 c7 c8 c9 c10 c11 hb2 hb3 hb4 hb5 hown
    go_wp2
    go_ret
    exact ⟨rfl, below_step hB'.out hA5⟩
end Go.Proofs.Ytbgafimiodfkaaa
