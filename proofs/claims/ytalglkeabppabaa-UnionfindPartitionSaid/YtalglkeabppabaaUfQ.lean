/- Package unionfind: Same and Union. -/
import Derived.Test.YtalglkeabppabaaUfP
namespace Go.Proofs.Ytalglkeabppabaa
open Go.ChangeShapes Go.WideShapes Go.ChangeAt Go.RowKit
set_option linter.unusedSimpArgs false
set_option linter.unusedVariables false
open Uf
theorem nat_beq (a b : Nat) : (((a : Nat) : Int) == ((b : Nat) : Int)) = decide (a = b) := by
  rw [Bool.eq_iff_iff, beq_iff_eq, decide_eq_true_iff]; omega
theorem nat_bne (a b : Nat) : (!(((a : Nat) : Int) == ((b : Nat) : Int))) = decide (a ≠ b) := by
  rw [nat_beq, decide_not]

set_option maxHeartbeats 4000000 in
theorem same_any (b g k : Nat) (f : Nat → Int) (x y : Int) (w : World) (h : St w b g k f) (hk : k ≤ 10000) :
    Calls Try.prog 17 #[.pointer (some ⟨b, 0, none⟩), .int .i64 x, .int .i64 y] w fun e w' => e = .returned (.bool (sameF k f x y)) ∧ St w' b g k f ∧ w.grownBy w' (some g) := by
  have h' := Lib.hid h
  clear h
  have kh := Lib.hid (fun a => h'.out.has hk a)
  cases hx : inB k x with
  | false =>
    have hs := Lib.hid (show sameF k f x y = false from by unfold sameF; rw [hx]; rfl)
    have hx' := Lib.hid hx
    clear hx
    go_enter Try.func17, Try.ntmps17
    go_wp2_with (first | (go_at_call 30; with_reducible refine (kh.out x).mono ?_; rintro e w1 ⟨rfl, rfl⟩; rw [hx'.out]))
    go_ret
    exact ⟨by rw [hs.out]; rfl, h'.out, grown_refl _ _⟩
  | true =>
    cases hy : inB k y with
    | false =>
      have hs := Lib.hid (show sameF k f x y = false from by unfold sameF; rw [hx, hy]; rfl)
      have hx' := Lib.hid hx
      have hy' := Lib.hid hy
      clear hx hy
      go_enter Try.func17, Try.ntmps17
      go_wp2_with (first
        | (go_at_call 30; with_reducible refine (kh.out x).mono ?_; rintro e w1 ⟨rfl, rfl⟩; rw [hx'.out])
        | (go_at_call 30; with_reducible refine (kh.out y).mono ?_; rintro e w1 ⟨rfl, rfl⟩; rw [hy'.out]))
      go_ret
      exact ⟨by rw [hs.out]; rfl, h'.out, grown_refl _ _⟩
    | true =>
      obtain ⟨p, rfl⟩ : ∃ p : Nat, x = (p : Int) := ⟨x.toNat, by rw [inB_iff] at hx; omega⟩
      obtain ⟨q, rfl⟩ : ∃ q : Nat, y = (q : Int) := ⟨y.toNat, by rw [inB_iff] at hy; omega⟩
      have hp := (inB_iff.1 hx).2
      have hq := (inB_iff.1 hy).2
      have hs := Lib.hid (show sameF k f p q = decide (hd f p = hd f q) from by
        rw [Bool.eq_iff_iff, sameF_iff, decide_eq_true_iff, hd_eq]
        exact ⟨fun h => h.2.2, fun h => ⟨hx, hy, h⟩⟩)
      have hx' := Lib.hid hx
      have hy' := Lib.hid hy
      clear hx hy
      have hp' : p < k := by omega
      have hq' : q < k := by omega
      go_enter Try.func17, Try.ntmps17
      go_wp2_with (first
        | (go_at_call 30; with_reducible refine (kh.out (p : Int)).mono ?_; rintro e w1 ⟨rfl, rfl⟩; rw [hx'.out])
        | (go_at_call 30; with_reducible refine (kh.out (q : Int)).mono ?_; rintro e w1 ⟨rfl, rfl⟩; rw [hy'.out])
        | (go_at_call 31; with_reducible refine (h'.out.find hk hp').mono ?_; rintro e w2 ⟨rfl, hs2, hg2⟩; have hs2' := Lib.hid hs2; have hg2' := Lib.hid hg2; clear hs2 hg2)
        | (go_at_call 31; with_reducible refine (hs2'.out.find hk hq').mono ?_; rintro e w3 ⟨rfl, hs3, hg3⟩; have hs3' := Lib.hid hs3; have hg3' := Lib.hid hg3; clear hs3 hg3))
      go_ret
      refine ⟨?_, hs3'.out, grown_trans hg2'.out hg3'.out⟩
      rw [hs.out, ← nat_beq]
      rfl

set_option maxHeartbeats 4000000 in
theorem union_any (b g k : Nat) (f : Nat → Int) (x y : Int) (w : World) (h : St w b g k f) (hk : k ≤ 10000) :
    Calls Try.prog 16 #[.pointer (some ⟨b, 0, none⟩), .int .i64 x, .int .i64 y] w fun e w' => e = .returned (.bool (canU k f x y)) ∧ St w' b g k (uniF k f x y) ∧ w.grownBy w' (some g) := by
  have h' := Lib.hid h
  clear h
  have kh := Lib.hid (fun a => h'.out.has hk a)
  cases hx : inB k x with
  | false =>
    have hs := Lib.hid (show canU k f x y = false from by unfold canU; rw [hx]; rfl)
    have hx' := Lib.hid hx
    clear hx
    go_enter Try.func16, Try.ntmps16
    go_wp2_with (first | (go_at_call 30; with_reducible refine (kh.out x).mono ?_; rintro e w1 ⟨rfl, rfl⟩; rw [hx'.out]))
    go_ret
    exact ⟨by rw [hs.out]; rfl, by rw [uniF_none hs.out]; exact h'.out, grown_refl _ _⟩
  | true =>
    cases hy : inB k y with
    | false =>
      have hs := Lib.hid (show canU k f x y = false from by unfold canU; rw [hx, hy]; rfl)
      have hx' := Lib.hid hx
      have hy' := Lib.hid hy
      clear hx hy
      go_enter Try.func16, Try.ntmps16
      go_wp2_with (first
        | (go_at_call 30; with_reducible refine (kh.out x).mono ?_; rintro e w1 ⟨rfl, rfl⟩; rw [hx'.out])
        | (go_at_call 30; with_reducible refine (kh.out y).mono ?_; rintro e w1 ⟨rfl, rfl⟩; rw [hy'.out]))
      go_ret
      exact ⟨by rw [hs.out]; rfl, by rw [uniF_none hs.out]; exact h'.out, grown_refl _ _⟩
    | true =>
      obtain ⟨p, rfl⟩ : ∃ p : Nat, x = (p : Int) := ⟨x.toNat, by rw [inB_iff] at hx; omega⟩
      obtain ⟨q, rfl⟩ : ∃ q : Nat, y = (q : Int) := ⟨y.toNat, by rw [inB_iff] at hy; omega⟩
      have hp := (inB_iff.1 hx).2
      have hq := (inB_iff.1 hy).2
      have hx' := Lib.hid hx
      have hy' := Lib.hid hy
      clear hx hy
      have hp' : p < k := by omega
      have hq' : q < k := by omega
      have hpp := hd_le f p
      have hqq := hd_le f q
      go_enter Try.func16, Try.ntmps16
      go_upto_region 4 with (first
        | (go_at_call 30; with_reducible refine (kh.out (p : Int)).mono ?_; rintro e w1 ⟨rfl, rfl⟩; rw [hx'.out])
        | (go_at_call 30; with_reducible refine (kh.out (q : Int)).mono ?_; rintro e w1 ⟨rfl, rfl⟩; rw [hy'.out])
        | (go_at_call 31; with_reducible refine (h'.out.find hk hp').mono ?_; rintro e w2 ⟨rfl, hs2, hg2⟩; have hs2' := Lib.hid hs2; have hg2' := Lib.hid hg2; clear hs2 hg2)
        | (go_at_call 31; with_reducible refine (hs2'.out.find hk hq').mono ?_; rintro e w3 ⟨rfl, hs3, hg3⟩; have hs3' := Lib.hid hs3; have hg3' := Lib.hid hg3; clear hs3 hg3))
      obtain ⟨P, hP, hl⟩ := hs3'.out
      have hU := Lib.hid (hl.union hp' hq')
      have hgg := Lib.hid (grown_trans hg2'.out hg3'.out)
      clear hs3' hs2' hg2' hg3' kh h' hl
      generalize hd f p = u at *
      generalize hd f q = v at *
      rcases Nat.lt_trichotomy u v with h | rfl | h
      · rw [Nat.max_eq_right (Nat.le_of_lt h), Nat.min_eq_left (Nat.le_of_lt h)] at hU
        have hv : v < k := by omega
        have c0 := hP.cell0
        have c1 := hP.cell hv
        have f1 := hP.frozen v
        have hst := Lib.hid (hP.set hv u)
        clear hP
        go_wp2
        go_ret
        refine ⟨?_, ⟨_, hst.out, hU.out.1⟩, grown_set (p := ⟨g, v, none⟩) hgg.out _⟩
        rw [hU.out.2, ← nat_bne]
        rfl
      · rw [Nat.max_self, Nat.min_self] at hU
        have hv : u < k := by omega
        have c0 := hP.cell0
        have c1 := hP.cell hv
        have f1 := hP.frozen u
        have hst := Lib.hid (hP.set hv u)
        clear hP
        go_wp2
        go_ret
        refine ⟨?_, ⟨_, hst.out, hU.out.1⟩, grown_set (p := ⟨g, u, none⟩) hgg.out _⟩
        rw [hU.out.2]
        simp
      · rw [Nat.max_eq_left (Nat.le_of_lt h), Nat.min_eq_right (Nat.le_of_lt h)] at hU
        have hv : u < k := by omega
        have c0 := hP.cell0
        have c1 := hP.cell hv
        have f1 := hP.frozen u
        have hst := Lib.hid (hP.set hv v)
        clear hP
        have n1 : ¬ u < v := by omega
        go_wp2
        go_ret
        refine ⟨?_, ⟨_, hst.out, hU.out.1⟩, grown_set (p := ⟨g, u, none⟩) hgg.out _⟩
        rw [hU.out.2, ← nat_bne]
        rfl
end Go.Proofs.Ytalglkeabppabaa
