/- Package collide: the laws' helpers: Equal. -/
import Derived.Test.YtfbgghkkgmgnjaaCollI
namespace Go.Proofs.Ytfbgghkkgmgnjaa
open Go.ChangeShapes Go.WideShapes Go.ChangeAt Go.RowKit Go.Shelf
open Fxm
set_option linter.unusedSimpArgs false
set_option linter.unusedVariables false

/-- A slice of vectors: none of them, or a row. -/
structure Vecs (w : World) (a : Option Addr) (n cap : Nat) (vs : List (Int × Int)) : Prop where
  len : n = vs.length
  few : n ≤ 1000
  row : n = 0 ∨ ∃ g, a = some ⟨g, 0, none⟩ ∧ Row w g cap vs
theorem Vecs.carry {w w' : World} {a : Option Addr} {n cap : Nat} {vs : List (Int × Int)} (h : Vecs w a n cap vs) (hb : Below w.heap.size w w') : Vecs w' a n cap vs :=
  ⟨h.len, h.few, h.row.imp_right fun ⟨g, h1, h2⟩ => ⟨g, h1, h2.carry hb⟩⟩
theorem Sh.vecs {w : World} {s : Sp} (h : Sh w s) : Vecs w s.a s.n s.cap s.vs := by
  cases s with
  | c r => exact ⟨rfl, Nat.zero_le _, .inl rfl⟩
  | p g cap vs => exact ⟨rfl, by have := h.2.hi; show vs.length ≤ 1000; omega, .inr ⟨g, rfl, h.1⟩⟩
theorem Vecs.owned {w : World} {base g cap n : Nat} {vs : List (Int × Int)} (h : w.ownsRow base 28 2 (.slice (some ⟨g, 0, none⟩) n cap) n (flatV vs)) (hn : n = vs.length) (hf : n ≤ 1000) : Vecs w (some ⟨g, 0, none⟩) n cap vs :=
  ⟨hn, hf, .inr ⟨g, rfl, Row.owned h hn.symm⟩⟩

theorem same_at {us vs : List (Int × Int)} (hl : us.length = vs.length) (h : ∀ i, i < us.length → at' us i = at' vs i) : us = vs := by
  apply List.ext_getElem hl
  intro i h1 h2
  have := h i h1
  rwa [at_eq h1, at_eq h2] at this

set_option maxHeartbeats 4000000 in
theorem equal_any (a b : Option Addr) (n m ca cb : Nat) (us vs : List (Int × Int)) (w : World) (hu : Vecs w a n ca us) (hv : Vecs w b m cb vs) :
    Calls Try.prog 15 #[.slice a n ca, .slice b m cb] w fun e w' => e = .returned (.bool (decide (us = vs))) ∧ Below w.heap.size w w' := by
  have hun := hu.len
  have hvn := hv.len
  have hf := hu.few
  have hf2 := hv.few
  have hu' := Lib.hid hu
  have hv' := Lib.hid hv
  clear hu hv
  by_cases hnm : n = m
  · subst hnm
    go_enter Try.func15, Try.ntmps15
    go_wp2_with fail
    go_loopw [5] (fun i wr => ∃ k : Nat, k ≤ n ∧ i = .int .i64 k ∧ Below w.heap.size w wr ∧ ∀ j, j < k → at' us j = at' vs j) (fun i _ => n - (intOf i).toNat)
    case atStart => exact ⟨0, Nat.zero_le _, rfl, Below.refl _ _, fun j h => absurd h (Nat.not_lt_zero _)⟩
    case round =>
      obtain ⟨k, hk, rfl, hb, hall⟩ := hrel
      have hall' := Lib.hid hall
      clear hall
      by_cases hlt : k < n
      · obtain ⟨g, rfl, hR⟩ := (hu'.out.carry hb).row.resolve_left (by omega)
        obtain ⟨h, rfl, hQ⟩ := (hv'.out.carry hb).row.resolve_left (by omega)
        obtain ⟨vx, vy⟩ := hR.at (i := k) (by omega)
        obtain ⟨ux, uy⟩ := hQ.at (i := k) (by omega)
        have c1 := hR.le
        have c2 := hQ.le
        have m1 := hR.max
        have m2 := hQ.max
        unfold maxLen at m1 m2
        rw [← hun] at c1
        rw [← hvn] at c2
        have hlti : (k : Int) < (n : Int) := by omega
        obtain ⟨x0, hx0⟩ : ∃ x, x = (at' us k).1 := ⟨_, rfl⟩
        obtain ⟨x1, hx1⟩ : ∃ x, x = (at' us k).2 := ⟨_, rfl⟩
        obtain ⟨y0, hy0⟩ : ∃ x, x = (at' vs k).1 := ⟨_, rfl⟩
        obtain ⟨y1, hy1⟩ : ∃ x, x = (at' vs k).2 := ⟨_, rfl⟩
        rw [← hx0] at vx
        rw [← hx1] at vy
        rw [← hy0] at ux
        rw [← hy1] at uy
        have hN := Lib.hid (And.intro (And.intro hx0 hx1) (And.intro hy0 hy1))
        have hb' := Lib.hid hb
        clear hx0 hx1 hy0 hy1 hR hQ hb
        rcases (by omega : (x0 = y0 ∧ x1 = y1) ∨ (x0 = y0 ∧ x1 ≠ y1) ∨ x0 ≠ y0) with ⟨rfl, rfl⟩ | ⟨rfl, hne⟩ | hne
        · have hx := Lib.hid (show ∀ j, j < k + 1 → at' us j = at' vs j from fun j hj => by
            by_cases e : j = k
            · subst e; exact Prod.ext (by rw [← hN.out.1.1, ← hN.out.2.1]) (by rw [← hN.out.1.2, ← hN.out.2.2])
            · exact hall'.out j (by omega))
          go_wp2_with fail
          go_quiet (fail)
          go_wp2
          go_roundw
          case rel => exact ⟨k + 1, by omega, by go_num, below_step hb'.out (below_drewN _ _), hx.out⟩
          case measure => simp [intOf]; omega
        · have hd : decide (x1 = y1) = false := decide_eq_false hne
          have hx := Lib.hid (show us ≠ vs from fun e => hne (by rw [hN.out.1.2, hN.out.2.2, e]))
          go_wp2_with fail
          go_quiet (fail)
          go_wp2
          refine bodyPost_ret (v := .bool false) (by simp [results, Try.results15, go_sem]) rfl ⟨by rw [decide_eq_false hx.out], below_step hb'.out (below_drewN _ _)⟩
        · have hd : decide (x0 = y0) = false := decide_eq_false hne
          have hx := Lib.hid (show us ≠ vs from fun e => hne (by rw [hN.out.1.1, hN.out.2.1, e]))
          go_wp2_with fail
          go_quiet (fail)
          go_wp2
          refine bodyPost_ret (v := .bool false) (by simp [results, Try.results15, go_sem]) rfl ⟨by rw [decide_eq_false hx.out], below_step hb'.out (below_drewN _ _)⟩
      · obtain rfl : k = n := by omega
        have hx := Lib.hid (show us = vs from same_at (by omega) fun i hi => hall'.out i (by omega))
        have hni : ¬ ((k : Int) < (k : Int)) := by omega
        have hb' := Lib.hid hb
        clear hb
        go_wp2
        refine bodyPost_ret (v := .bool true) (by simp [results, Try.results15, go_sem]) rfl ⟨by rw [decide_eq_true hx.out], hb'.out⟩
  · have hx := Lib.hid (show us ≠ vs from fun e => hnm (by rw [hun, hvn, e]))
    have hi : ¬ ((n : Int) = (m : Int)) := by omega
    have hi2 : ((n : Int) == (m : Int)) = false := by simp only [beq_eq_false_iff_ne, ne_eq]; omega
    have hi3 : ((n : Int) != (m : Int)) = true := by simp only [bne_iff_ne, ne_eq]; omega
    go_enter Try.func15, Try.ntmps15
    go_wp2
    refine bodyPost_ret (v := .bool false) (by simp [results, Try.results15, go_sem]) rfl ⟨by rw [decide_eq_false hx.out], Below.refl _ _⟩
end Go.Proofs.Ytfbgghkkgmgnjaa
