/- Package shape: Validate. -/
import Derived.Test.YtknjdkgemkmoeaaShapeE
namespace Go.Proofs.Ytknjdkgemkmoeaa
open Go.ChangeShapes Go.WideShapes Go.ChangeAt Go.RowKit
open Fxm
set_option linter.unusedSimpArgs false
set_option linter.unusedVariables false

/-- A slice value that holds vs, nil or not. -/
def Poly (w : World) (v : Value) (vs : List (Int × Int)) : Prop := (vs = [] ∧ ∃ a cap, v = .slice a 0 cap) ∨ ∃ g off cap, v = .slice (some ⟨g, off, none⟩) vs.length cap ∧ RowO w g off cap vs
theorem Poly.carry {w w' : World} {v : Value} {vs : List (Int × Int)} (h : Poly w v vs) (hb : Below w.heap.size w w') : Poly w' v vs := by
  rcases h with h | ⟨g, off, cap, h1, h2⟩
  · exact Or.inl h
  · exact Or.inr ⟨g, off, cap, h1, h2.carry hb⟩
theorem Row.poly {w : World} {g cap : Nat} {vs : List (Int × Int)} (h : Row w g cap vs) : Poly w (.slice (some ⟨g, 0, none⟩) vs.length cap) vs := Or.inr ⟨g, 0, cap, rfl, h.o⟩
def ValidC (r : Int) (n : Nat) : Prop := n = 0 ∧ 1 ≤ r ∧ r ≤ 32768
def ValidP (r : Int) (vs : List (Int × Int)) : Prop := r = 0 ∧ 3 ≤ vs.length ∧ vs.length ≤ 6 ∧ Small vs ∧ Convex vs
def Valid (r : Int) (vs : List (Int × Int)) : Prop := ValidC r vs.length ∨ ValidP r vs
section
open Classical in
noncomputable def pB (p : Prop) : Bool := if p then true else false
end
theorem pB_true {p : Prop} (h : p) : pB p = true := by unfold pB; rw [if_pos h]
theorem pB_false {p : Prop} (h : ¬ p) : pB p = false := by unfold pB; rw [if_neg h]
theorem convexB_pB (vs : List (Int × Int)) : convexB vs = pB (Convex vs) := rfl

def InR (n : Int) : Prop := -32768 ≤ n ∧ n ≤ 32768
theorem inReach_any (n : Int) (w : World) : Calls Try.prog 99 #[.int .i64 n] w fun e w' => e = .returned (.bool (pB (InR n))) ∧ w = w' := by
  by_cases h1 : -32768 ≤ n
  · by_cases h2 : n ≤ 32768
    · rw [pB_true (show InR n from ⟨h1, h2⟩)]
      go_enter Try.func99, Try.ntmps99
      go_wp2
      go_ret
      exact ⟨rfl, rfl⟩
    · rw [pB_false (fun h : InR n => h2 h.2)]
      go_enter Try.func99, Try.ntmps99
      go_wp2
      go_ret
      exact ⟨rfl, rfl⟩
  · rw [pB_false (fun h : InR n => h1 h.1)]
    go_enter Try.func99, Try.ntmps99
    go_wp2
    go_ret
    exact ⟨rfl, rfl⟩
theorem isCircle_any (r : Int) (a : Option Addr) (n cap : Nat) (w : World) : Calls Try.prog 79 #[.agg #[.int .i64 r, .slice a n cap]] w fun e w' => e = .returned (.bool (pB (ValidC r n))) ∧ Below w.heap.size w w' := by
  have hcase : n ≠ 0 ∨ (n = 0 ∧ r < 1) ∨ (n = 0 ∧ 1 ≤ r ∧ 32768 < r) ∨ (n = 0 ∧ 1 ≤ r ∧ r ≤ 32768) := by omega
  rcases hcase with h | ⟨rfl, h⟩ | ⟨rfl, h, h'⟩ | ⟨rfl, h, h'⟩
  · rw [pB_false (fun k : ValidC r n => h k.1)]
    have hb : ((n : Int) == 0) = false := by simp only [beq_eq_false_iff_ne, ne_eq]; omega
    go_enter Try.func79, Try.ntmps79
    go_wp2
    go_ret
    exact ⟨rfl, alloc_below _ _⟩
  · rw [pB_false (fun k : ValidC r 0 => by have := k.2.1; omega)]
    go_enter Try.func79, Try.ntmps79
    go_wp2
    go_ret
    exact ⟨rfl, alloc_below _ _⟩
  · rw [pB_false (fun k : ValidC r 0 => by have := k.2.2; omega)]
    have hd : decide (r ≤ 32768) = false := decide_eq_false (by omega)
    go_enter Try.func79, Try.ntmps79
    go_wp2
    go_ret
    exact ⟨rfl, alloc_below _ _⟩
  · rw [pB_true (show ValidC r 0 from ⟨rfl, h, h'⟩)]
    go_enter Try.func79, Try.ntmps79
    go_wp2
    go_ret
    exact ⟨rfl, alloc_below _ _⟩
theorem isPolygonE_any (r : Int) (a : Option Addr) (n cap : Nat) (w : World) (h : r ≠ 0 ∨ (r = 0 ∧ n < 3) ∨ (r = 0 ∧ 3 ≤ n ∧ 6 < n)) : Calls Try.prog 80 #[.agg #[.int .i64 r, .slice a n cap]] w fun e w' => e = .returned (.bool false) ∧ Below w.heap.size w w' := by
  rcases h with h | ⟨rfl, h⟩ | ⟨rfl, h1, h⟩
  · have hb : (r == 0) = false := by simp only [beq_eq_false_iff_ne, ne_eq]; omega
    have hb' : (r != 0) = true := by simp; omega
    go_enter Try.func80, Try.ntmps80
    go_wp2
    go_ret
    exact ⟨rfl, alloc_below _ _⟩
  · have h' : (n : Int) < 3 := by omega
    go_enter Try.func80, Try.ntmps80
    go_wp2
    go_ret
    exact ⟨rfl, alloc_below _ _⟩
  · have h' : ¬ (n : Int) < 3 := by omega
    have h'' : 6 < (n : Int) := by omega
    go_enter Try.func80, Try.ntmps80
    go_wp2
    go_ret
    exact ⟨rfl, alloc_below _ _⟩

set_option maxHeartbeats 2000000 in
theorem isPolygon_any (g off cap : Nat) (vs : List (Int × Int)) (w : World) (hR : RowO w g off cap vs) (hl : 3 ≤ vs.length) (hl2 : vs.length ≤ 6) :
    Calls Try.prog 80 #[.agg #[.int .i64 0, .slice (some ⟨g, off, none⟩) vs.length cap]] w fun e w' => e = .returned (.bool (pB (ValidP 0 vs))) ∧ Below w.heap.size w w' := by
  have hcap := hR.le
  have hmax := hR.max
  unfold maxLen at hmax
  have hb0 := alloc_below w (.cells #[.int .i64 0, .slice (some ⟨g, off, none⟩) vs.length cap] 72)
  have hRw := Lib.hid (hR.carry hb0)
  have q1 : ¬ (vs.length : Int) < 3 := by omega
  have q2 : ¬ 6 < (vs.length : Int) := by omega
  have hl3 : (vs.length : Int) ≤ 6 := by omega
  clear hR
  go_enter Try.func80, Try.ntmps80
  go_wp2_with fail
  go_loopw [23] (fun i wr => ∃ k : Nat, k ≤ vs.length ∧ i = .int .i64 k ∧ (∀ j, j < k → InR (at' vs j).1 ∧ InR (at' vs j).2) ∧ Below (w.alloc (.cells #[.int .i64 0, .slice (some ⟨g, off, none⟩) vs.length cap] 72)).heap.size (w.alloc (.cells #[.int .i64 0, .slice (some ⟨g, off, none⟩) vs.length cap] 72)) wr) (fun i _ => vs.length - (intOf i).toNat)
  case atStart => exact ⟨0, Nat.zero_le _, rfl, fun j hj => absurd hj (Nat.not_lt_zero _), Below.refl _ _⟩
  case round =>
    obtain ⟨k, hk, rfl, hall, hbl⟩ := hrel
    have hall' := Lib.hid hall
    clear hall
    have c2 : wr.cell? ⟨w.heap.size, 1, none⟩ = some (.slice (some ⟨g, off, none⟩) vs.length cap) := carry hbl (by simp)
    by_cases hlk : k < vs.length
    · obtain ⟨kx, ky⟩ := (hRw.out.carry hbl).at hlk
      obtain ⟨z, hz⟩ : ∃ z, z = at' vs k := ⟨_, rfl⟩
      have hz' := Lib.hid hz
      rw [← hz] at kx ky
      clear hz
      have hlk' : (k : Int) < (vs.length : Int) := by omega
      have K := fun w => inReach_any z.1 w
      have K2 := fun w => inReach_any z.2 w
      have hba := below_step hbl (alloc_below wr (.cells #[.int .i64 z.1, .int .i64 z.2] 52))
      by_cases h1 : InR z.1
      · rw [pB_true h1] at K
        by_cases h2 : InR z.2
        · rw [pB_true h2] at K2
          have hk12 := Lib.hid (And.intro K K2)
          have hin : InR (at' vs k).1 ∧ InR (at' vs k).2 := by rw [← hz'.out]; exact ⟨h1, h2⟩
          have hin' := Lib.hid hin
          clear K K2 hin
          generalize z.1 = z0 at *
          generalize z.2 = z1 at *
          go_wp2_with (first | (go_at_call 99; (with_reducible refine (hk12.out.1 _).mono ?_); rintro e w' ⟨rfl, rfl⟩) | (go_at_call 99; (with_reducible refine (hk12.out.2 _).mono ?_); rintro e w' ⟨rfl, rfl⟩))
          go_roundw
          case rel => exact ⟨k + 1, by omega, by go_num, fun j h => by
            rcases Nat.lt_or_ge j k with h' | h'
            · exact hall'.out j h'
            · obtain rfl : j = k := by omega
              exact hin'.out, hba⟩
          case measure => simp [intOf]; omega
        · rw [pB_false h2] at K2
          have hk12 := Lib.hid (And.intro K K2)
          have hno : ¬ ValidP 0 vs := fun h => h2 (by rw [hz'.out]; exact (h.2.2.2.1 k hlk).2)
          have hno' := Lib.hid (pB_false hno)
          clear K K2 hno
          generalize z.1 = z0 at *
          generalize z.2 = z1 at *
          go_wp2_with (first | (go_at_call 99; (with_reducible refine (hk12.out.1 _).mono ?_); rintro e w' ⟨rfl, rfl⟩) | (go_at_call 99; (with_reducible refine (hk12.out.2 _).mono ?_); rintro e w' ⟨rfl, rfl⟩))
          go_ret
          exact ⟨by rw [hno'.out]; first | done | rfl, below_step hb0 hba⟩
      · rw [pB_false h1] at K
        have hk12 := Lib.hid (And.intro K K2)
        have hno : ¬ ValidP 0 vs := fun h => h1 (by rw [hz'.out]; exact (h.2.2.2.1 k hlk).1)
        have hno' := Lib.hid (pB_false hno)
        clear K K2 hno
        generalize z.1 = z0 at *
        generalize z.2 = z1 at *
        go_wp2_with (first | (go_at_call 99; (with_reducible refine (hk12.out.1 _).mono ?_); rintro e w' ⟨rfl, rfl⟩) | (go_at_call 99; (with_reducible refine (hk12.out.2 _).mono ?_); rintro e w' ⟨rfl, rfl⟩))
        go_ret
        exact ⟨by rw [hno'.out]; first | done | rfl, below_step hb0 hba⟩
    · obtain rfl : k = vs.length := by omega
      have hS : Small vs := fun i hi => hall'.out i hi
      have C := fun w' (hb : Below _ _ w') => isConvex_any g off cap vs w' (hRw.out.carry hb) hl (by omega) hS
      have hC := Lib.hid C
      have hV : pB (ValidP 0 vs) = convexB vs := by
        by_cases hc : Convex vs
        · rw [convex_true hc, pB_true ⟨rfl, hl, hl2, hS, hc⟩]
        · rw [convexB_pB, pB_false hc, pB_false fun h => hc h.2.2.2.2]
      have hV' := Lib.hid hV
      clear C hV
      go_wp2_with fail
      refine (hC.out _ hbl).mono ?_
      rintro e w3 ⟨rfl, hb3⟩
      go_wp2
      go_ret
      exact ⟨by rw [hV'.out]; first | done | rfl, below_step hb0 (below_step hbl hb3)⟩

theorem ok_ret (p : Prop) : pB p = true ∨ pB p = false := by cases pB p <;> simp
theorem validate_any (r : Int) (v : Value) (vs : List (Int × Int)) (w : World) (hP : Poly w v vs) :
    Calls Try.prog 44 #[.agg #[.int .i64 r, v]] w fun e w' => e = .returned (.int .i64 (if pB (Valid r vs) = true then 0 else 10)) ∧ Below w.heap.size w w' := by
  obtain ⟨a, n, cap, rfl, hn, hX⟩ : ∃ a n cap, v = .slice a n cap ∧ n = vs.length ∧ ∀ w', Below w.heap.size w w' → Calls Try.prog 80 #[.agg #[.int .i64 r, .slice a n cap]] w' fun e w'' => e = .returned (.bool (pB (ValidP r vs))) ∧ Below w'.heap.size w' w'' := by
    have hno : ∀ a n cap, n = vs.length → (r ≠ 0 ∨ (r = 0 ∧ n < 3) ∨ (r = 0 ∧ 3 ≤ n ∧ 6 < n)) → ∀ w', Calls Try.prog 80 #[.agg #[.int .i64 r, .slice a n cap]] w' fun e w'' => e = .returned (.bool (pB (ValidP r vs))) ∧ Below w'.heap.size w' w'' := fun a n cap hn h w' => by
      rw [pB_false (show ¬ ValidP r vs from fun k => by have := k.1; have := k.2.1; have := k.2.2.1; omega)]
      exact isPolygonE_any r a n cap w' h
    rcases hP with ⟨h1, a, cap, h2⟩ | ⟨g, off, cap, h1, h2⟩
    · exact ⟨a, 0, cap, h2, by rw [h1]; rfl, fun w' _ => hno a 0 cap (by rw [h1]; rfl) (by omega) w'⟩
    · refine ⟨_, _, _, h1, rfl, fun w' hb => ?_⟩
      by_cases hg : r = 0 ∧ 3 ≤ vs.length ∧ vs.length ≤ 6
      · obtain ⟨rfl, h3, h6⟩ := hg
        exact isPolygon_any g off cap vs w' (h2.carry hb) h3 h6
      · exact hno _ _ _ rfl (by omega) w'
  subst hn
  have C := fun w => isCircle_any r a vs.length cap w
  have hV : (if pB (Valid r vs) = true then (0 : Int) else 10) = if (pB (ValidC r vs.length) || pB (ValidP r vs)) = true then 0 else 10 := by
    by_cases hc : ValidC r vs.length
    · rw [pB_true (show Valid r vs from Or.inl hc), pB_true hc]; rfl
    · by_cases hp : ValidP r vs
      · rw [pB_true (show Valid r vs from Or.inr hp), pB_true hp, pB_false hc]; rfl
      · rw [pB_false (show ¬ Valid r vs from fun h => h.elim hc hp), pB_false hp, pB_false hc]; rfl
  rw [hV]
  clear hV hP
  generalize pB (ValidC r vs.length) = x at *
  generalize pB (ValidP r vs) = y at *
  have hC := Lib.hid C
  have hX' := Lib.hid hX
  clear C hX
  have hb0 := alloc_below w (.cells #[.int .i64 r, .slice a vs.length cap] 72)
  cases x <;> cases y
  all_goals
    go_enter Try.func44, Try.ntmps44
    go_wp2_with fail
    refine (hC.out _).mono ?_
    rintro e w1 ⟨rfl, hb1⟩
    have c0 : w1.cell? ⟨w.heap.size, 0, none⟩ = some (.int .i64 r) := carry hb1 (by simp)
    have c1 : w1.cell? ⟨w.heap.size, 1, none⟩ = some (.slice a vs.length cap) := carry hb1 (by simp)
    first
      | (go_wp2_with fail
         refine (hX'.out _ (below_step hb0 hb1)).mono ?_
         rintro e w2 ⟨rfl, hb2⟩
         go_wp2
         go_ret
         exact ⟨rfl, below_step (below_step hb0 hb1) hb2⟩)
      | (go_wp2
         go_ret
         exact ⟨rfl, below_step hb0 hb1⟩)
theorem validate_ok {r : Int} {v : Value} {vs : List (Int × Int)} {w : World} (hP : Poly w v vs) (h : Valid r vs) :
    Calls Try.prog 44 #[.agg #[.int .i64 r, v]] w fun e w' => e = .returned (.int .i64 0) ∧ Below w.heap.size w w' := by
  have := validate_any r v vs w hP
  rwa [pB_true h, if_pos rfl] at this
theorem validate_no {r : Int} {v : Value} {vs : List (Int × Int)} {w : World} (hP : Poly w v vs) (h : ¬ Valid r vs) :
    Calls Try.prog 44 #[.agg #[.int .i64 r, v]] w fun e w' => e = .returned (.int .i64 10) ∧ Below w.heap.size w w' := by
  have := validate_any r v vs w hP
  rwa [pB_false h, if_neg (by decide)] at this
end Go.Proofs.Ytknjdkgemkmoeaa
