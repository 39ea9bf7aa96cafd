/- Package cellmem: what only reads; copies; New. -/
import Derived.Test.YtlpacihkmfgegaaCm
import Derived.BigQuiet
import Derived.Lib.Hide
namespace Go.Proofs.Ytlpacihkmfgegaa
open Go.ChangeShapes Go.WideShapes Go.ChangeAt Go.RowKit
open Cm
set_option linter.unusedSimpArgs false
set_option linter.unusedVariables false

/-! ## slices.Clone -/
theorem cloneI_some (ad : Addr) (n c : Nat) (news : List Value) (w : World) (hl : news.length = n) (hn : n ≤ maxLen) (hbig : n * 8 ≤ 140737488355328)
    (hc : ∀ j u, news[j]? = some u → w.cell? (ad.add j) = some u) (h1 : ∀ u ∈ news, u.oneCell' = true) :
    Calls Try.prog 39 #[.slice (some ad) n c] w fun e w' => ∃ v', e = .returned v' ∧ w'.ownsRow w.heap.size 3 1 v' n news ∧ v' ≠ .slice none 0 0 ∧ Below w.heap.size w w' := by
  have q22 : ∀ (w : World) (a : Option Addr) (n c n' c' : Nat), (binOp .eql 22 (.slice a n c) (.slice none n' c')).run Try.prog w = .ok (.bool a.isNone) w := fun w a n c n' c' => Lib.run_eql_slice_nil w _ _ a n c n' c' Try.underlying22
  obtain ⟨i0, hi0, hz0, hz1, hz2⟩ := info_parts info_int
  have A : Aside (∀ j u, news[j]? = some u → w.cell? (ad.add j) = some u) := hc
  clear hc
  go_enter Try.func39, Try.ntmps39
  go_wp2_with (at_builtin; refine wpList_append_own _ rfl _ _ 22 rfl w.heap.size 3 i0 _ 1 8 Try.underlying22 hi0 hz0 hz1 hz2 rfl (by decide) _ _ _ rfl (World.ownsRow_made w #[] 0 (Nat.le_refl _) (Nat.zero_le _) (by simp)) ad n c news rfl ?qc1 ?qc2 ?qc3 ?qc4 ?qc5 ?qc6 ?_)
  case qc1 => rw [Nat.mul_one]; exact hl
  case qc2 =>
    intro j u hj
    exact Lib.cell?_alloc_some _ (A.out j u hj)
  case qc3 => exact h1
  case qc4 => rw [Nat.zero_add]; exact hn
  case qc5 => rw [Nat.zero_add]; exact hbig
  case qc6 => simp
  intro v' w1 hown hgrow hnil
  go_wp2
  go_ret
  refine ⟨v', rfl, by simpa using hown, ?_, ?_⟩
  · exact hnil
  · exact ((Below.refl _ w).alloc (Nat.le_refl _) _).grown hgrow (by simp) (by intro k hk; simp [Value.ownBlock] at hk; omega)
theorem cloneI_nil (n c : Nat) (w : World) :
    Calls Try.prog 39 #[.slice none n c] w fun e w' => e = .returned (.slice none 0 0) ∧ w = w' := by
  have q22 : ∀ (w : World) (a : Option Addr) (n c n' c' : Nat), (binOp .eql 22 (.slice a n c) (.slice none n' c')).run Try.prog w = .ok (.bool a.isNone) w := fun w a n c n' c' => Lib.run_eql_slice_nil w _ _ a n c n' c' Try.underlying22
  go_enter Try.func39, Try.ntmps39
  go_wp2
  go_ret
  exact ⟨rfl, rfl⟩
theorem cloneE_some (ad : Addr) (n c : Nat) (news : List Value) (w : World) (hl : news.length = n * 2) (hn : n ≤ maxLen) (hbig : n * 16 ≤ 140737488355328)
    (hc : ∀ j u, news[j]? = some u → w.cell? (ad.add j) = some u) (h1 : ∀ u ∈ news, u.oneCell' = true) :
    Calls Try.prog 44 #[.slice (some ad) n c] w fun e w' => ∃ v', e = .returned v' ∧ w'.ownsRow w.heap.size 69 2 v' n news ∧ v' ≠ .slice none 0 0 ∧ Below w.heap.size w w' := by
  have q22 : ∀ (w : World) (a : Option Addr) (n c n' c' : Nat), (binOp .eql 63 (.slice a n c) (.slice none n' c')).run Try.prog w = .ok (.bool a.isNone) w := fun w a n c n' c' => Lib.run_eql_slice_nil w _ _ a n c n' c' Try.underlying63
  obtain ⟨i0, hi0, hz0, hz1, hz2⟩ := info_parts info_entry
  have A : Aside (∀ j u, news[j]? = some u → w.cell? (ad.add j) = some u) := hc
  clear hc
  go_enter Try.func44, Try.ntmps44
  go_wp2_with (at_builtin; refine wpList_append_own _ rfl _ _ 63 rfl w.heap.size 69 i0 _ 2 16 Try.underlying63 hi0 hz0 hz1 hz2 rfl (by decide) _ _ _ rfl (World.ownsRow_made w #[] 0 (Nat.le_refl _) (Nat.zero_le _) (by simp)) ad n c news rfl ?qc1 ?qc2 ?qc3 ?qc4 ?qc5 ?qc6 ?_)
  case qc1 => exact hl
  case qc2 =>
    intro j u hj
    exact Lib.cell?_alloc_some _ (A.out j u hj)
  case qc3 => exact h1
  case qc4 => rw [Nat.zero_add]; exact hn
  case qc5 => rw [Nat.zero_add]; exact hbig
  case qc6 => simp
  intro v' w1 hown hgrow hnil
  go_wp2
  go_ret
  refine ⟨v', rfl, by simpa using hown, ?_, ?_⟩
  · exact hnil
  · exact ((Below.refl _ w).alloc (Nat.le_refl _) _).grown hgrow (by simp) (by intro k hk; simp [Value.ownBlock] at hk; omega)
theorem cloneE_nil (n c : Nat) (w : World) :
    Calls Try.prog 44 #[.slice none n c] w fun e w' => e = .returned (.slice none 0 0) ∧ w = w' := by
  have q22 : ∀ (w : World) (a : Option Addr) (n c n' c' : Nat), (binOp .eql 63 (.slice a n c) (.slice none n' c')).run Try.prog w = .ok (.bool a.isNone) w := fun w a n c n' c' => Lib.run_eql_slice_nil w _ _ a n c n' c' Try.underlying63
  go_enter Try.func44, Try.ntmps44
  go_wp2
  go_ret
  exact ⟨rfl, rfl⟩
/-- A copy of integers. -/
theorem cloneI_any (v : Value) (l : List Int) (w : World) (h : IL w v l) (hn : l.length ≤ 1000000) :
    Calls Try.prog 39 #[v] w fun e w' => ∃ v', e = .returned v' ∧ w'.ownsRow w.heap.size 3 1 v' l.length (ints l) ∧ Below w.heap.size w w' := by
  obtain ⟨a, cap, rfl, h1, h2, h3⟩ := h
  rw [ints_length] at *
  cases a with
  | none =>
    have hl : l = [] := by
      rcases h3 with h3 | ⟨g, off, h3, _⟩
      · unfold ints at h3; exact List.map_eq_nil_iff.1 h3
      · cases h3
    refine (cloneI_nil _ _ w).mono ?_
    rintro e w' ⟨rfl, rfl⟩
    exact ⟨_, rfl, by rw [hl]; exact World.ownsRow_nil _ _ _ _, Below.refl _ _⟩
  | some ad =>
    refine (cloneI_some ad l.length cap (ints l) w (ints_length l) (by unfold maxLen; omega) (by omega) (fun j u hu => ?_) (ints_one' l)).mono ?_
    · rcases h3 with h3 | ⟨g, off, h3, _, h4⟩
      · rw [h3] at hu; simp at hu
      · cases h3
        have ha : (⟨g, off, none⟩ : Addr).add j = ⟨g, off + j, none⟩ := by unfold Addr.add; split <;> simp_all
        rw [ha]; exact h4 j u hu
    · rintro e w' ⟨v', rfl, h5, _, h6⟩
      exact ⟨v', rfl, h5, h6⟩
/-- A copy of entries. -/
theorem cloneE_any (v : Value) (n : Nat) (xs : List Value) (w : World) (h : SRow w 69 2 v n xs) (h1 : ∀ u ∈ xs, u.oneCell' = true) (hn : n ≤ 1000000) :
    Calls Try.prog 44 #[v] w fun e w' => ∃ v', e = .returned v' ∧ w'.ownsRow w.heap.size 69 2 v' n xs ∧ Below w.heap.size w w' := by
  obtain ⟨hl, h2⟩ := h
  rcases h2 with ⟨rfl, rfl⟩ | ⟨g, off, cap, cur, rfl, h3, h4, h5, h6, h7⟩
  · obtain rfl : xs = [] := List.length_eq_zero_iff.1 (by omega)
    refine (cloneE_nil _ _ w).mono ?_
    rintro e w' ⟨rfl, rfl⟩
    exact ⟨_, rfl, World.ownsRow_nil _ _ _ _, Below.refl _ _⟩
  · refine (cloneE_some ⟨g, off, none⟩ n cap xs w hl (by unfold maxLen; omega) (by omega) (fun j u hu => ?_) h1).mono ?_
    · have ha : (⟨g, off, none⟩ : Addr).add j = ⟨g, off + j, none⟩ := by unfold Addr.add; split <;> simp_all
      rw [ha]
      rw [← h7, List.getElem?_take] at hu
      split at hu
      · rw [List.getElem?_drop] at hu
        simp only [World.cell?, h3]
        simpa using hu
      · cases hu
    · rintro e w' ⟨v', rfl, h8, _, h9⟩
      exact ⟨v', rfl, h8, h9⟩

/-! ## What only reads -/
section
variable {w : World} {b : Nat} {O : Nat → Prop} {S : Me} {cv lv : Value}
theorem Cm.Par.len (h : Par w b O S cv lv) : Calls Try.prog 27 #[.pointer (some ⟨b, 0, none⟩)] w fun e w' => e = .returned (.int .i64 (S.cs.length : Nat)) ∧ w = w' := by
  have c0 := h.at0
  obtain ⟨a, cap, rfl, _, _, _, _⟩ := h.cells.shape (by decide)
  clear h
  go_enter Try.func27, Try.ntmps27
  go_wp2
  go_ret
  exact ⟨rfl, rfl⟩
theorem Cm.Par.logged (h : Par w b O S cv lv) : Calls Try.prog 26 #[.pointer (some ⟨b, 0, none⟩)] w fun e w' => e = .returned (.int .i64 (S.lg.length : Nat)) ∧ w = w' := by
  have c1 := h.at1
  obtain ⟨a, cap, rfl, _, _, _, _⟩ := h.log.shape (by decide)
  clear h
  go_enter Try.func26, Try.ntmps26
  go_wp2
  go_ret
  exact ⟨rfl, rfl⟩
theorem Cm.Par.has (h : Par w b O S cv lv) (hN : S.cs.length ≤ 10000) (i : Int) : Calls Try.prog 42 #[.pointer (some ⟨b, 0, none⟩), .int .i64 i] w fun e w' => e = .returned (.bool (cin S.cs.length i)) ∧ w = w' := by
  have c0 := h.at0
  obtain ⟨a, cap, rfl, _, _, _, _⟩ := h.cells.shape (by decide)
  clear h
  generalize S.cs.length = n at *
  by_cases a0 : 0 ≤ i
  · have hy := Lib.hid (show cin n i = decide (i < (n : Int)) from by unfold cin; rw [decide_eq_true a0]; rfl)
    have d0 : decide (0 ≤ i) = true := by simpa using a0
    go_enter Try.func42, Try.ntmps42
    go_wp2
    go_ret
    exact ⟨by rw [hy.out]; first | done | rfl, rfl⟩
  · have hy := Lib.hid (show cin n i = false from by unfold cin; rw [decide_eq_false a0]; rfl)
    have d0 : decide (0 ≤ i) = false := by simpa using a0
    go_enter Try.func42, Try.ntmps42
    go_wp2
    go_ret
    exact ⟨by rw [hy.out]; first | done | rfl, rfl⟩
theorem Cm.Par.mark (h : Par w b O S cv lv) (hP : S.pos ≤ 10000) : Calls Try.prog 24 #[.pointer (some ⟨b, 0, none⟩)] w fun e w' => e = .returned (.int .i64 (S.pos : Nat)) ∧ Below w.heap.size w w' := by
  have c1 := h.at1
  have c2 := h.at2
  obtain ⟨a, cap, rfl, _, _, _, _⟩ := h.log.shape (by decide)
  clear h
  unfold Me.pos at *
  generalize S.lg.length = n at *
  generalize S.base = m at *
  go_enter Try.func24, Try.ntmps24
  go_wp2_with fail
  go_quiet (fail)
  go_wp2
  refine bodyPost_ret (v := .int .i64 ((m + n : Nat) : Int)) (by simp [results, Try.results24, go_sem]) rfl ⟨rfl, below_drewN _ _⟩
set_option maxHeartbeats 2000000 in
theorem Cm.Par.get (h : Par w b O S cv lv) (hN : S.cs.length ≤ 10000) (i : Int) : Calls Try.prog 30 #[.pointer (some ⟨b, 0, none⟩), .int .i64 i] w fun e w' => e = .returned (.int .i64 (S.get i)) ∧ w = w' := by
  have kh := Lib.hid (h.has hN i)
  cases hc : cin S.cs.length i with
  | false =>
    have hy := Lib.hid (show S.get i = 0 from by unfold Me.get; rw [hc]; rfl)
    rw [hc] at kh
    clear hc h
    go_enter Try.func30, Try.ntmps30
    go_wp2_with (first | (go_at_call 42; with_reducible refine kh.out.mono ?_; rintro e w1 ⟨rfl, rfl⟩))
    go_ret
    exact ⟨by rw [hy.out]; rfl, rfl⟩
  | true =>
    have hi := cin_iff.1 hc
    have hy := Lib.hid (show S.get i = S.cs.getD i.toNat 0 from by unfold Me.get; rw [hc]; rfl)
    rw [hc] at kh
    have c0 := h.at0
    obtain ⟨a, cap, rfl, _, _, _, h5⟩ := h.cells.shape (by decide)
    obtain ⟨g, off, rfl, _, h6⟩ := h5 (by omega)
    obtain ⟨j, rfl⟩ : ∃ j : Nat, i = (j : Int) := ⟨i.toNat, by omega⟩
    have hj : j < S.cs.length := by omega
    obtain ⟨x, hx⟩ : ∃ x, S.cs[j]? = some x := ⟨_, List.getElem?_eq_getElem hj⟩
    have c1 := (h6 j _ (ints_at hx)).1
    have hy' := Lib.hid (show S.get (j : Int) = x from by rw [hy.out]; simp [List.getD, hx])
    clear hc h h5 h6 hy hx
    generalize S.cs.length = n at *
    go_enter Try.func30, Try.ntmps30
    go_wp2_with (first | (go_at_call 42; with_reducible refine kh.out.mono ?_; rintro e w1 ⟨rfl, rfl⟩))
    go_ret
    exact ⟨by rw [hy'.out]; rfl, rfl⟩
theorem Cm.Par.check (h : Par w b O S cv lv) (hP : S.pos ≤ 10000) (m : Int) : Calls Try.prog 43 #[.pointer (some ⟨b, 0, none⟩), .int .i64 m] w fun e w' => e = .returned (.int .i64 (S.err m)) ∧ Below w.heap.size w w' := by
  have km := Lib.hid (h.mark hP)
  have c2 := h.at2
  clear h
  rcases S.err_cases m with ⟨h1, h2⟩ | ⟨h1, h3, h2⟩ | ⟨h1, h3, h2⟩
  · rw [h2]
    clear h2
    have d0 : decide (m < (S.base : Int)) = true := decide_eq_true h1
    generalize S.base = r at *
    clear h1
    go_enter Try.func43, Try.ntmps43
    go_wp2
    go_ret
    exact ⟨rfl, Below.refl _ _⟩
  · rw [h2]
    clear h2
    have d0 : decide (m < (S.base : Int)) = false := decide_eq_false h1
    have d1 : decide ((S.pos : Int) < m) = true := decide_eq_true h3
    generalize S.base = r at *
    generalize S.pos = p at *
    clear h1 h3
    go_enter Try.func43, Try.ntmps43
    go_wp2_with (first | (go_at_call 24; with_reducible refine km.out.mono ?_; rintro e w1 ⟨rfl, hb1⟩))
    go_ret
    exact ⟨rfl, hb1⟩
  · rw [h2]
    clear h2
    have d0 : decide (m < (S.base : Int)) = false := decide_eq_false h1
    have d1 : decide ((S.pos : Int) < m) = false := decide_eq_false h3
    generalize S.base = r at *
    generalize S.pos = p at *
    clear h1 h3
    go_enter Try.func43, Try.ntmps43
    go_wp2_with (first | (go_at_call 24; with_reducible refine km.out.mono ?_; rintro e w1 ⟨rfl, hb1⟩))
    go_ret
    exact ⟨rfl, hb1⟩
end
end Go.Proofs.Ytlpacihkmfgegaa
