/- The reference's queries: Project, Bounds. -/
import Derived.Test.YtknjdkgemkmoeaaShapeRefD
import Derived.WalkLawsBesides
namespace Go.Proofs.Ytknjdkgemkmoeaa
open Go.ChangeShapes Go.WideShapes Go.ChangeAt Go.RowKit
open Fxm
set_option linter.unusedSimpArgs false
set_option linter.unusedVariables false

/-- The least of f over the first c vertices (and over the first). -/
def lo (f : Int × Int → Int) (vs : List (Int × Int)) (c : Nat) : Int := (vs.take c).foldl (fun m p => min m (f p)) (f (at' vs 0))
def hi (f : Int × Int → Int) (vs : List (Int × Int)) (c : Nat) : Int := (vs.take c).foldl (fun m p => max m (f p)) (f (at' vs 0))
theorem at_eq {vs : List (Int × Int)} {i : Nat} (hi : i < vs.length) : at' vs i = vs[i] := by unfold at'; rw [List.getD_eq_getElem?_getD, List.getElem?_eq_getElem hi]; rfl
theorem lo_succ (f : Int × Int → Int) {vs : List (Int × Int)} {c : Nat} (h : c < vs.length) : lo f vs (c + 1) = min (lo f vs c) (f (at' vs c)) := by
  unfold lo; rw [List.take_succ_eq_append_getElem h, List.foldl_append, at_eq h]; rfl
theorem hi_succ (f : Int × Int → Int) {vs : List (Int × Int)} {c : Nat} (h : c < vs.length) : hi f vs (c + 1) = max (hi f vs c) (f (at' vs c)) := by
  unfold hi; rw [List.take_succ_eq_append_getElem h, List.foldl_append, at_eq h]; rfl
theorem lo_zero (f : Int × Int → Int) (vs : List (Int × Int)) : lo f vs 0 = f (at' vs 0) := rfl
theorem hi_zero (f : Int × Int → Int) (vs : List (Int × Int)) : hi f vs 0 = f (at' vs 0) := rfl
theorem lo_one (f : Int × Int → Int) {vs : List (Int × Int)} (h : 0 < vs.length) : lo f vs 1 = f (at' vs 0) := by rw [lo_succ f h, lo_zero]; omega
theorem hi_one (f : Int × Int → Int) {vs : List (Int × Int)} (h : 0 < vs.length) : hi f vs 1 = f (at' vs 0) := by rw [hi_succ f h, hi_zero]; omega
theorem lo_bd {f : Int × Int → Int} {vs : List (Int × Int)} {A B : Int} (hn : 0 < vs.length) (h : ∀ i, i < vs.length → A ≤ f (at' vs i) ∧ f (at' vs i) ≤ B) : ∀ c, c ≤ vs.length → A ≤ lo f vs c ∧ lo f vs c ≤ B
  | 0, _ => h 0 hn
  | c + 1, hc => by have := lo_bd hn h c (by omega); have := h c (by omega); rw [lo_succ f (by omega)]; omega
theorem hi_bd {f : Int × Int → Int} {vs : List (Int × Int)} {A B : Int} (hn : 0 < vs.length) (h : ∀ i, i < vs.length → A ≤ f (at' vs i) ∧ f (at' vs i) ≤ B) : ∀ c, c ≤ vs.length → A ≤ hi f vs c ∧ hi f vs c ≤ B
  | 0, _ => h 0 hn
  | c + 1, hc => by have := hi_bd hn h c (by omega); have := h c (by omega); rw [hi_succ f (by omega)]; omega

/-- A vertex' projection. -/
def dotV (q0 q1 a0 a1 : Int) (p : Int × Int) : Int := flr ((q0 + p.1) * a0 + (q1 + p.2) * a1) 1024
theorem bd_add {q x : Int} (hq : -8388608 * 3 ≤ q ∧ q ≤ 8388608 * 3) (hx : -32768 ≤ x ∧ x ≤ 32768) : Bd (q + x) := by unfold Bd; omega
theorem min_if (x y : Int) : (if y < x then y else x) = min x y := by split <;> omega
theorem max_if (x y : Int) : (if x < y then y else x) = max x y := by split <;> omega

end Go.Proofs.Ytknjdkgemkmoeaa
