/- The reference of package broadphase: Same, Pairs; slices of pairs. -/
import Derived.Test.YtbgafimiodfkaaaBroadE
import Derived.ChangeKeysEq
namespace Go.Proofs.Ytbgafimiodfkaaa
open Go.ChangeShapes Go.WideShapes Go.ChangeAt Go.RowKit
open Bo
set_option linter.unusedSimpArgs false
set_option linter.unusedVariables false

theorem infoInt : ∃ i, Try.prog.info? 3 = some i := by
  have : (Try.prog.info? 3).isSome = true := by kernel_rfl
  exact Option.isSome_iff_exists.1 this
theorem cellsInt : Try.prog.cellsOf 3 = 1 := by kernel_rfl
theorem part0 (a0 a1 : Int) (w : World) : (part 3 #[.int .i64 a0, .int .i64 a1] 0).run Try.prog w = .ok (.int .i64 a0) w := by kernel_rfl
theorem part1 (a0 a1 : Int) (w : World) : (part 3 #[.int .i64 a0, .int .i64 a1] 1).run Try.prog w = .ok (.int .i64 a1) w := by kernel_rfl
/-- == of two pairs. -/
theorem eqPr (a0 a1 b0 b1 : Int) (w : World) : (Op.equalIn 10000 39 (.agg #[.int .i64 a0, .int .i64 a1]) (.agg #[.int .i64 b0, .int .i64 b1])).run Try.prog w = .ok (a0 == b0 && a1 == b1) w := by
  obtain ⟨i, hi⟩ := infoInt
  rw [run_equalIn_array (i := i) (w := w) 9999 _ _ Try.underlying39 hi]
  rw [cellsInt, show List.range 2 = [0, 1] by rfl]
  simp only [Op.eqItems, Sem.run_bind, Nat.zero_mul, Nat.one_mul, part0, Result.andThen_ok, run_equalIn_int w 9998 3 .i64 .i64 _ _ Try.underlying3]
  cases h : (a0 == b0)
  · simp
  · simp only [Bool.not_true, Bool.false_eq_true, if_false, Bool.true_and, Sem.run_bind, part1, Result.andThen_ok, run_equalIn_int w 9998 3 .i64 .i64 _ _ Try.underlying3]
    cases h2 : (a1 == b1) <;> simp

/-- A slice of pairs, nil and empty ones too. -/
def PairsAt (w : World) (v : Value) (ps : List (Nat × Nat)) : Prop := (ps = [] ∧ ∃ a cap, v = .slice a 0 cap) ∨ ∃ g off cap, v = .slice (some ⟨g, off, none⟩) ps.length cap ∧ RowK encPr w g off cap ps
theorem PairsAt.carry {w w' : World} {v : Value} {ps : List (Nat × Nat)} (h : PairsAt w v ps) (hb : Below w.heap.size w w') : PairsAt w' v ps := by
  rcases h with h | ⟨g, off, cap, h1, h2⟩
  · exact Or.inl h
  · exact Or.inr ⟨g, off, cap, h1, h2.carry hb⟩
theorem PairsAt.drewN {w : World} {v : Value} {ps : List (Nat × Nat)} (h : PairsAt w v ps) (k : Nat) : PairsAt (w.drewN k) v ps := h.carry (below_drewN w k)
theorem PairsAt.owned {w : World} {base : Nat} {v : Value} {ps : List (Nat × Nat)} (h : w.ownsRow base 39 2 v ps.length (ps.flatMap encPr)) : PairsAt w v ps := by
  rcases owned_row h with ⟨rfl, rfl⟩ | ⟨g, cap, rfl, _, _, hR, _⟩
  · exact Or.inl ⟨rfl, none, 0, rfl⟩
  · exact Or.inr ⟨g, 0, cap, rfl, hR⟩
theorem PairsAt.shape {w : World} {v : Value} {ps : List (Nat × Nat)} (h : PairsAt w v ps) : ∃ a cap, v = .slice a ps.length cap := by
  rcases h with ⟨rfl, a, cap, rfl⟩ | ⟨g, off, cap, rfl, _⟩
  · exact ⟨a, cap, rfl⟩
  · exact ⟨_, cap, rfl⟩
theorem PairsAt.row {w : World} {v : Value} {ps : List (Nat × Nat)} (h : PairsAt w v ps) (hn : 0 < ps.length) : ∃ g off cap, v = .slice (some ⟨g, off, none⟩) ps.length cap ∧ RowK encPr w g off cap ps := by
  rcases h with ⟨rfl, _⟩ | h
  · simp at hn
  · exact h
def atP (ps : List (Nat × Nat)) (i : Nat) : Nat × Nat := ps.getD i (0, 0)
theorem atP_get {ps : List (Nat × Nat)} {i : Nat} (h : i < ps.length) : ps[i]? = some (atP ps i) := by
  simp [atP, List.getD, List.getElem?_eq_getElem h]
theorem row_pair {w : World} {g off cap : Nat} {ps : List (Nat × Nat)} (h : RowK encPr w g off cap ps) {i : Nat} (hi : i < ps.length) :
    w.cell? ⟨g, off + i * 2, none⟩ = some (.int .i64 ((atP ps i).1 : Int)) ∧ w.cell? ⟨g, off + i * 2 + 1, none⟩ = some (.int .i64 ((atP ps i).2 : Int)) :=
  ⟨by have := h.at pr_len (j := 0) (atP_get hi) rfl; simpa using this, by have := h.at pr_len (j := 1) (atP_get hi) rfl; simpa [Nat.add_assoc] using this⟩
theorem eq_of_atP {ps qs : List (Nat × Nat)} (hl : ps.length = qs.length) (h : ∀ i, i < ps.length → atP ps i = atP qs i) : ps = qs := by
  refine List.ext_getElem? fun i => ?_
  by_cases hi : i < ps.length
  · rw [atP_get hi, atP_get (hl ▸ hi), h i hi]
  · rw [List.getElem?_eq_none (by omega), List.getElem?_eq_none (by omega)]

set_option maxHeartbeats 4000000 in
theorem sameR_any (g off cap g' off' cap' : Nat) (ps qs : List (Nat × Nat)) (w : World) (hl : ps.length = qs.length) (hn : 0 < ps.length) (h1 : RowK encPr w g off cap ps) (h2 : RowK encPr w g' off' cap' qs) :
    Calls Try.prog 15 #[.slice (some ⟨g, off, none⟩) ps.length cap, .slice (some ⟨g', off', none⟩) ps.length cap'] w fun e w' => e = .returned (.bool (decide (ps = qs))) ∧ ∃ k, w' = w.drewN k := by
  have m1 := h1.le
  have m2 := h1.max
  have m3 := h2.le
  have m4 := h2.max
  unfold maxLen at m2 m4
  rw [← hl] at m3
  have hc : ((ps.length : Int) != (ps.length : Int)) = false := by simp
  have h1' := Lib.hid h1
  have h2' := Lib.hid h2
  have hl' := Lib.hid hl
  clear h1 h2 hl
  go_enter Try.func15, Try.ntmps15
  go_wp2_with fail
  go_loopw [5] (fun i wr => ∃ k q : Nat, k ≤ ps.length ∧ i = .int .i64 k ∧ wr = w.drewN q ∧ ∀ t, t < k → atP ps t = atP qs t) (fun i _ => ps.length - (intOf i).toNat)
  case atStart => exact ⟨0, 0, Nat.zero_le _, rfl, rfl, fun t ht => absurd ht (Nat.not_lt_zero _)⟩
  case round =>
    obtain ⟨k, q, hk, rfl, rfl, hall⟩ := hrel
    have hall' := Lib.hid hall
    clear hall
    by_cases hlt : k < ps.length
    · obtain ⟨c0, c1⟩ := row_pair h1'.out hlt
      obtain ⟨d0, d1⟩ := row_pair (i := k) h2'.out (by have := hl'.out; omega)
      by_cases he : atP ps k = atP qs k
      · have he' := Lib.hid he
        rw [← he] at d0 d1
        clear he
        generalize (atP ps k).1 = A at *
        generalize (atP ps k).2 = B at *
        have heq : ∀ w, Sem.run Try.prog (Op.equalIn 10000 39 (.agg #[.int .i64 (A : Int), .int .i64 (B : Int)]) (.agg #[.int .i64 (A : Int), .int .i64 (B : Int)])) w = .ok true w := fun w => by rw [eqPr]; simp
        go_wp2_with fail
        go_quiet (fail)
        go_wp2
        go_roundw
        case rel => exact ⟨k + 1, _, by omega, by go_num, rfl, fun t ht => by
          rcases Nat.lt_or_ge t k with h | h
          · exact hall'.out t h
          · obtain rfl : t = k := by omega
            exact he'.out⟩
        case measure => simp [intOf]; omega
      · have hne : decide (ps = qs) = false := decide_eq_false fun e => he (by rw [e])
        have hne' := Lib.hid hne
        have hb : (((atP ps k).1 : Int) == ((atP qs k).1 : Int) && ((atP ps k).2 : Int) == ((atP qs k).2 : Int)) = false := by
          cases hz : (((atP ps k).1 : Int) == ((atP qs k).1 : Int) && ((atP ps k).2 : Int) == ((atP qs k).2 : Int))
          · rfl
          · simp only [Bool.and_eq_true, beq_iff_eq] at hz
            exact absurd (by obtain ⟨z1, z2⟩ := hz; exact Prod.ext (by omega) (by omega)) he
        clear hne he
        generalize (atP ps k).1 = A at *
        generalize (atP ps k).2 = B at *
        generalize (atP qs k).1 = C at *
        generalize (atP qs k).2 = D at *
        have heq : ∀ w, Sem.run Try.prog (Op.equalIn 10000 39 (.agg #[.int .i64 (A : Int), .int .i64 (B : Int)]) (.agg #[.int .i64 (C : Int), .int .i64 (D : Int)])) w = .ok false w := fun w => by rw [eqPr, hb]
        clear hb
        go_wp2_with fail
        go_quiet (fail)
        go_wp2
        go_ret
        exact ⟨by rw [hne'.out]; first | done | rfl, _, World.drewN_drewN _ _ _⟩
    · obtain rfl : k = ps.length := by omega
      have hy : decide (ps = qs) = true := decide_eq_true (eq_of_atP hl'.out hall'.out)
      have hy' := Lib.hid hy
      clear hy
      go_wp2
      go_ret
      exact ⟨by rw [hy'.out]; first | done | rfl, _, rfl⟩
theorem sameE_any (a a' : Option Addr) (cap cap' : Nat) (w : World) :
    Calls Try.prog 15 #[.slice a 0 cap, .slice a' 0 cap'] w fun e w' => e = .returned (.bool true) ∧ ∃ k, w' = w.drewN k := by
  go_enter Try.func15, Try.ntmps15
  go_wp2_with fail
  refine wp_loop_rounds 1 ?_
  rw [rounds_succ]
  go_wp2
  go_ret
  exact ⟨rfl, 0, rfl⟩
theorem sameN_any (a a' : Option Addr) (n n' cap cap' : Nat) (w : World) (hn : n ≠ n') :
    Calls Try.prog 15 #[.slice a n cap, .slice a' n' cap'] w fun e w' => e = .returned (.bool false) ∧ ∃ k, w' = w.drewN k := by
  have hc : ((n : Int) != (n' : Int)) = true := by simp; omega
  go_enter Try.func15, Try.ntmps15
  go_wp2
  go_ret
  exact ⟨rfl, 0, rfl⟩
theorem same_any (v v' : Value) (ps qs : List (Nat × Nat)) (w : World) (h : PairsAt w v ps) (h' : PairsAt w v' qs) :
    Calls Try.prog 15 #[v, v'] w fun e w' => e = .returned (.bool (decide (ps = qs))) ∧ ∃ k, w' = w.drewN k := by
  by_cases hl : ps.length = qs.length
  · by_cases h0 : ps.length = 0
    · have e1 := List.length_eq_zero_iff.1 h0
      have e2 := List.length_eq_zero_iff.1 (hl ▸ h0)
      obtain ⟨a, cap, rfl⟩ := h.shape
      obtain ⟨a', cap', rfl⟩ := h'.shape
      subst e1; subst e2
      rw [decide_eq_true rfl]
      exact sameE_any a a' cap cap' w
    · obtain ⟨g, off, cap, rfl, hR⟩ := h.row (by omega)
      obtain ⟨g', off', cap', rfl, hR'⟩ := h'.row (by omega)
      rw [← hl]
      exact sameR_any g off cap g' off' cap' ps qs w hl (by omega) hR hR'
  · obtain ⟨a, cap, rfl⟩ := h.shape
    obtain ⟨a', cap', rfl⟩ := h'.shape
    rw [decide_eq_false fun e => hl (by rw [e])]
    exact sameN_any a a' _ _ cap cap' w hl
end Go.Proofs.Ytbgafimiodfkaaa
