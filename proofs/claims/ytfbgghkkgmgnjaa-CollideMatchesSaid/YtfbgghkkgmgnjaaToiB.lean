/- Package toi: Earliest. -/
import Derived.Test.YtfbgghkkgmgnjaaToi
namespace Go.Proofs.Ytfbgghkkgmgnjaa
open Go.ChangeShapes Go.WideShapes Go.ChangeAt Go.RowKit Go.Shelf
open Fxm
set_option linter.unusedSimpArgs false
set_option linter.unusedVariables false

/-- f is what Earliest answers where T says whether they touch. -/
def Early (T : Int → Bool) (f : Int) : Prop :=
  (T 0 = true ∧ f = 1024) ∨ (∃ k : Nat, k < 8 ∧ (∀ i : Nat, i ≤ k → T i = false) ∧ T ((k : Int) + 1) = true ∧ f = k * 128) ∨ ((∀ i : Nat, i ≤ 8 → T i = false) ∧ f = 1024)
theorem Early.unique {T : Int → Bool} {f g : Int} (h : Early T f) (h' : Early T g) : f = g := by
  rcases h with ⟨h0, rfl⟩ | ⟨k, hk, h1, h2, rfl⟩ | ⟨h1, rfl⟩ <;> rcases h' with ⟨h0', rfl⟩ | ⟨k', hk', h1', h2', rfl⟩ | ⟨h1', rfl⟩
  · rfl
  · have := h1' 0 (Nat.zero_le _); simp only [Int.natCast_zero] at this; rw [h0] at this; cases this
  · rfl
  · have := h1 0 (Nat.zero_le _); simp only [Int.natCast_zero] at this; rw [h0'] at this; cases this
  · rcases Nat.lt_trichotomy k k' with h | h | h
    · have := h1' (k + 1) h; rw [Int.natCast_add] at this; simp only [Int.natCast_one] at this; rw [h2] at this; cases this
    · subst h; rfl
    · have := h1 (k' + 1) h; rw [Int.natCast_add] at this; simp only [Int.natCast_one] at this; rw [h2'] at this; cases this
  · have := h1' (k + 1) (by omega); rw [Int.natCast_add] at this; simp only [Int.natCast_one] at this; rw [h2] at this; cases this
  · rfl
  · have := h1 (k' + 1) (by omega); rw [Int.natCast_add] at this; simp only [Int.natCast_one] at this; rw [h2'] at this; cases this
  · rfl

/-- Where Earliest begins. -/
def sixV (w : World) (s t : Sp) (p0 p1 v0 v1 q0 q1 u0 u1 : Int) : World :=
  (((((w.alloc (.cells #[.int .i64 s.r, .slice s.a s.n s.cap] 25)).alloc (.cells #[.int .i64 p0, .int .i64 p1] 28)).alloc (.cells #[.int .i64 v0, .int .i64 v1] 28)).alloc (.cells #[.int .i64 t.r, .slice t.a t.n t.cap] 25)).alloc (.cells #[.int .i64 q0, .int .i64 q1] 28)).alloc (.cells #[.int .i64 u0, .int .i64 u1] 28)
theorem sixV_below (w : World) (s t : Sp) (p0 p1 v0 v1 q0 q1 u0 u1 : Int) : Below w.heap.size w (sixV w s t p0 p1 v0 v1 q0 q1 u0 u1) :=
  below_step (below_step (below_step (below_step (below_step (alloc_below _ _) (alloc_below _ _)) (alloc_below _ _)) (alloc_below _ _)) (alloc_below _ _)) (alloc_below _ _)
theorem sixV_six (w : World) (s t : Sp) (p0 p1 v0 v1 q0 q1 u0 u1 : Int) : Six (sixV w s t p0 p1 v0 v1 q0 q1 u0 u1) w.heap.size s t p0 p1 v0 v1 q0 q1 u0 u1 :=
  ⟨by simp [sixV, go_sem], by simp [sixV, go_sem], by simp [sixV, go_sem], by simp [sixV, go_sem], by simp [sixV, go_sem], by simp [sixV, go_sem], by simp [sixV, go_sem], by simp [sixV, go_sem], by simp [sixV, go_sem], by simp [sixV, go_sem], by simp [sixV, go_sem], by simp [sixV, go_sem]⟩

set_option maxHeartbeats 4000000 in
set_option maxRecDepth 100000 in
theorem earliest_any (s t : Sp) (p0 p1 v0 v1 q0 q1 u0 u1 : Int) (w : World) (hs : Sh w s) (ht : Sh w t)
    (hp0 : Po p0) (hp1 : Po p1) (hv0 : Ve v0) (hv1 : Ve v1) (hq0 : Po q0) (hq1 : Po q1) (hu0 : Ve u0) (hu1 : Ve u1) :
    Calls Try.prog 32 #[.agg #[.int .i64 s.r, .slice s.a s.n s.cap], .agg #[.int .i64 p0, .int .i64 p1], .agg #[.int .i64 v0, .int .i64 v1], .agg #[.int .i64 t.r, .slice t.a t.n t.cap], .agg #[.int .i64 q0, .int .i64 q1], .agg #[.int .i64 u0, .int .i64 u1]] w fun e w' =>
      (∃ f, e = .returned (.int .i64 f) ∧ Early (tch s t (p0, p1) (v0, v1) (q0, q1) (u0, u1)) f) ∧ Below w.heap.size w w' := by
  have hX := sixV_six w s t p0 p1 v0 v1 q0 q1 u0 u1
  have hB := sixV_below w s t p0 p1 v0 v1 q0 q1 u0 u1
  have K := fun (k : Int) (hk : 0 ≤ k ∧ k ≤ 8) (W : World) (hW : Below (sixV w s t p0 p1 v0 v1 q0 q1 u0 u1).heap.size (sixV w s t p0 p1 v0 v1 q0 q1 u0 u1) W) =>
    touchC_any s t p0 p1 v0 v1 q0 q1 u0 u1 k w.heap.size W ((hs.carry hB).carry hW) ((ht.carry hB).carry hW) (hX.carry hW) hk hp0 hp1 hv0 hv1 hq0 hq1 hu0 hu1
  obtain ⟨V, hV⟩ : ∃ V, V = sixV w s t p0 p1 v0 v1 q0 q1 u0 u1 := ⟨_, rfl⟩
  have hV' := Lib.hid hV
  rw [← hV] at hB K
  generalize tch s t (p0, p1) (v0, v1) (q0, q1) (u0, u1) = T at *
  have hk := Lib.hid K
  clear K hX hV hs ht hp0 hp1 hv0 hv1 hq0 hq1 hu0 hu1
  go_enter Try.func32, Try.ntmps32
  go_upto_region 1 with fail
  rw [show ((((((w.alloc (.cells #[.int .i64 s.r, .slice s.a s.n s.cap] 25)).alloc (.cells #[.int .i64 p0, .int .i64 p1] 28)).alloc (.cells #[.int .i64 v0, .int .i64 v1] 28)).alloc (.cells #[.int .i64 t.r, .slice t.a t.n t.cap] 25)).alloc (.cells #[.int .i64 q0, .int .i64 q1] 28)).alloc (.cells #[.int .i64 u0, .int .i64 u1] 28)) = V from hV'.out.symm]
  clear hV'
  go_wp2_with fail
  go_at_call 67
  refine (hk.out 0 (by omega) _ (Below.refl _ _)).mono ?_
  rintro e w1 ⟨rfl, hb1⟩
  cases hT0 : T 0 with
  | true =>
    have hT0' := Lib.hid hT0
    clear hT0
    go_wp2
    go_ret
    exact ⟨⟨1024, rfl, .inl ⟨hT0'.out, rfl⟩⟩, below_step hB hb1⟩
  | false =>
    have hT0' := Lib.hid hT0
    clear hT0
    go_wp2_with fail
    go_loopw [18] (fun i wr => ∃ k : Nat, k ≤ 8 ∧ i = .int .i64 k ∧ (∀ j : Nat, j ≤ k → T j = false) ∧ Below V.heap.size V wr) (fun i _ => 8 - (intOf i).toNat)
    case atStart => exact ⟨0, by omega, rfl, (fun j hj => by
      obtain rfl : j = 0 := (by omega)
      exact hT0'.out), hb1⟩
    case round =>
      obtain ⟨k, hk8, rfl, hall, hbl⟩ := hrel
      have hall' := Lib.hid hall
      clear hall hb1
      by_cases hlt : k < 8
      · have hkk := Lib.hid (hk.out ((k : Int) + 1) (by omega))
        have hki : (k : Int) < 8 := by omega
        go_wp2_with fail
        go_at_call 67
        refine (hkk.out _ hbl).mono ?_
        rintro e w2 ⟨rfl, hb2⟩
        have hbl2 := hbl.trans (hb2.mono hbl.size)
        cases hT : T ((k : Int) + 1) with
        | true =>
          have hT' := Lib.hid hT
          clear hT
          have e1 : ((k : Int) * 1024).tdiv 8 = (k : Int) * 128 := by
            rw [Int.tdiv_eq_ediv_of_nonneg (by omega)]; omega
          go_wp2
          go_ret
          refine ⟨⟨(k : Int) * 128, ?_, .inr (.inl ⟨k, hlt, hall'.out, hT'.out, rfl⟩)⟩, hB.trans (hbl2.mono hB.size)⟩
          first | rfl | (congr 3; omega) | (simp only [e1]) | (rw [wrap64_in _ (by omega)]; rw [e1])
        | false =>
          have hT' := Lib.hid hT
          clear hT
          go_wp2
          go_roundw
          case rel => exact ⟨k + 1, by omega, by go_num, fun j hj => by
            rcases Nat.lt_or_ge k j with h | h
            · obtain rfl : j = k + 1 := by omega
              rw [Int.natCast_add]; exact hT'.out
            · exact hall'.out j h, hbl2⟩
          case measure => simp [intOf]; omega
      · obtain rfl : k = 8 := by omega
        go_wp2
        go_ret
        exact ⟨⟨1024, rfl, .inr (.inr ⟨hall'.out, rfl⟩)⟩, hB.trans (hbl.mono hB.size)⟩

/-! ### The example -/
theorem ax_zero : axV (0, 0) = (1024, 0) := by
  unfold axV nrm
  simp [flr]
theorem ten_axis {d : Int} (h : 0 ≤ d) : axisV (.c 10) (.c 10) (-d, 0) (0, 0) 0 = (1024, 0) := by
  show axV (0 - -d, (0 : Int) - 0) = (1024, 0)
  rw [show (0 : Int) - -d = d by omega, show (0 : Int) - 0 = 0 by omega]
  rcases Int.lt_or_le 0 d with h1 | h1
  · exact ax_line h1
  · obtain rfl : d = 0 := by omega
    exact ax_zero
theorem flr_mul1024 (a : Int) : flr (a * 1024) 1024 = a := flr_mul_self a (by omega)
theorem ten_hit {d : Int} (h : 0 ≤ d) : Hit (.c 10) (.c 10) (-d, 0) (0, 0) ↔ d < 20 := by
  have hd : dpt (.c 10) (.c 10) (-d, 0) (0, 0) 0 = 20 - d := by
    unfold dpt depthV
    rw [ten_axis h]
    simp only [Sp.pl, Sp.ph]
    rw [show (0 : Int) * 1024 + 0 * 0 = 0 * 1024 by omega, show -d * 1024 + (0 : Int) * 0 = -d * 1024 by omega, flr_mul1024, flr_mul1024]
    omega
  unfold Hit Apart Bo.Ov bxS
  simp only [Sp.xa, Sp.ya, Sp.xb, Sp.yb]
  constructor
  · rintro ⟨_, h2⟩
    rcases Int.lt_or_le d 20 with h3 | h3
    · exact h3
    · exact absurd ⟨0, by decide, by rw [hd]; omega⟩ h2
  · intro h3
    refine ⟨⟨by omega, by omega, by omega, by omega⟩, ?_⟩
    rintro ⟨k, hk, h4⟩
    obtain rfl : k = 0 := by
      have : ndir (.c 10) (.c 10) = 1 := rfl
      omega
    rw [hd] at h4
    omega
theorem ten_tch (v k : Int) (h : 0 ≤ 100 - flr (v * k) 8) : tch (.c 10) (.c 10) (-100, 0) (v, 0) (0, 0) (0, 0) k = pB (100 - flr (v * k) 8 < 20) := by
  unfold tch colB posV
  simp only
  have z : flr (0 * k) 8 = 0 := by rw [Int.zero_mul]; rfl
  rw [z, show (-100 : Int) + flr (v * k) 8 = -(100 - flr (v * k) 8) by omega, show (0 : Int) + 0 = 0 by omega]
  have := ten_hit h
  by_cases hh : 100 - flr (v * k) 8 < 20
  · rw [pB_true hh, pB_true (this.2 hh)]
  · rw [pB_false hh, pB_false fun x => hh (this.1 x)]
theorem ten_step (c : Int) (k : Int) : flr (8 * c * k) 8 = c * k := by
  rw [show 8 * c * k = c * k * 8 by grind]
  exact flr_mul_self _ (by omega)
theorem early_fast {f : Int} (h : Early (tch (.c 10) (.c 10) (-100, 0) (160, 0) (0, 0) (0, 0)) f) : f = 512 := by
  have e : ∀ k : Nat, k ≤ 5 → tch (.c 10) (.c 10) (-100, 0) (160, 0) (0, 0) (0, 0) k = pB (100 - 20 * (k : Int) < 20) := fun k hk => by
    have := ten_tch 160 k
    rw [show (160 : Int) = 8 * 20 from rfl, ten_step] at this
    exact this (by omega)
  have t5 := e 5 (by omega)
  rw [pB_true (by omega)] at t5
  rcases h with ⟨h0, _⟩ | ⟨k, hk, h1, h2, rfl⟩ | ⟨h1, _⟩
  · have := e 0 (by omega)
    rw [pB_false (by omega)] at this
    simp only [Int.natCast_zero] at this
    rw [h0] at this; cases this
  · rcases Nat.lt_or_ge k 5 with h3 | h3
    · have h4 := e (k + 1) (by omega)
      rw [Int.natCast_add] at h4
      simp only [Int.natCast_one] at h4
      rw [h2] at h4
      rcases Nat.lt_or_ge k 4 with h5 | h5
      · rw [pB_false (by omega)] at h4; cases h4
      · obtain rfl : k = 4 := by omega
        rfl
    · have := h1 5 h3
      rw [t5] at this; cases this
  · have := h1 5 (by omega)
    rw [t5] at this; cases this
theorem early_slow {f : Int} (h : Early (tch (.c 10) (.c 10) (-100, 0) (16, 0) (0, 0) (0, 0)) f) : f = 1024 := by
  have e : ∀ k : Nat, k ≤ 8 → tch (.c 10) (.c 10) (-100, 0) (16, 0) (0, 0) (0, 0) k = false := fun k hk => by
    have := ten_tch 16 k
    rw [show (16 : Int) = 8 * 2 from rfl, ten_step] at this
    have h1 := this (by omega)
    rw [pB_false (by omega)] at h1
    exact h1
  rcases h with ⟨h0, h⟩ | ⟨k, hk, h1, h2, rfl⟩ | ⟨h1, h⟩
  · exact h
  · have := e (k + 1) (by omega)
    rw [Int.natCast_add] at this
    simp only [Int.natCast_one] at this
    rw [h2] at this; cases this
  · exact h
theorem live6A (w : World) : Calls Try.prog 32 #[.agg #[.int .i64 10, .slice none 0 0], .agg #[.int .i64 (-100), .int .i64 0], .agg #[.int .i64 160, .int .i64 0], .agg #[.int .i64 10, .slice none 0 0], .agg #[.int .i64 0, .int .i64 0], .agg #[.int .i64 0, .int .i64 0]] w fun e w' =>
    e = .returned (.int .i64 512) ∧ Below w.heap.size w w' := by
  refine (earliest_any (.c 10) (.c 10) (-100) 0 160 0 0 0 0 0 w ⟨by omega, by omega⟩ ⟨by omega, by omega⟩ (by unfold Po; omega) (by unfold Po; omega) (by unfold Ve; omega) (by unfold Ve; omega) (by unfold Po; omega) (by unfold Po; omega) (by unfold Ve; omega) (by unfold Ve; omega)).mono ?_
  rintro e w' ⟨⟨f, rfl, hf⟩, hb⟩
  rw [early_fast hf]
  exact ⟨rfl, hb⟩
theorem live6B (w : World) : Calls Try.prog 32 #[.agg #[.int .i64 10, .slice none 0 0], .agg #[.int .i64 (-100), .int .i64 0], .agg #[.int .i64 16, .int .i64 0], .agg #[.int .i64 10, .slice none 0 0], .agg #[.int .i64 0, .int .i64 0], .agg #[.int .i64 0, .int .i64 0]] w fun e w' =>
    e = .returned (.int .i64 1024) ∧ Below w.heap.size w w' := by
  refine (earliest_any (.c 10) (.c 10) (-100) 0 16 0 0 0 0 0 w ⟨by omega, by omega⟩ ⟨by omega, by omega⟩ (by unfold Po; omega) (by unfold Po; omega) (by unfold Ve; omega) (by unfold Ve; omega) (by unfold Po; omega) (by unfold Po; omega) (by unfold Ve; omega) (by unfold Ve; omega)).mono ?_
  rintro e w' ⟨⟨f, rfl, hf⟩, hb⟩
  rw [early_slow hf]
  exact ⟨rfl, hb⟩
set_option maxHeartbeats 2000000 in
theorem lives6_any (w : World) : Calls Try.prog 30 #[] w fun e w' => e = .returned (.bool true) ∧ Below w.heap.size w w' := by
  go_enter Try.func30, Try.ntmps30
  go_wp2_with fail
  refine (live6A _).mono ?_
  rintro e w1 ⟨rfl, hb1⟩
  have c0 : w1.cell? ⟨w.heap.size, 0, none⟩ = some (.int .i64 10) := carry hb1 (by simp)
  have c1 : w1.cell? ⟨w.heap.size, 1, none⟩ = some (.slice none 0 0) := carry hb1 (by simp)
  have hB1 := below_step (alloc_below w (.cells #[.int .i64 10, .slice none 0 0] 25)) hb1
  have n0 := block_lt_of_cell c0
  simp only at n0
  clear hb1
  go_wp2_with fail
  refine (live6B _).mono ?_
  rintro e w2 ⟨rfl, hb2⟩
  go_wp2
  go_ret
  exact ⟨rfl, below_step hB1 hb2⟩
end Go.Proofs.Ytfbgghkkgmgnjaa
