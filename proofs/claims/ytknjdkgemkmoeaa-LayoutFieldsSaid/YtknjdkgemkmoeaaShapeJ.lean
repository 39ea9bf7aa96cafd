/- Circles and generated polygons by one set of contracts. -/
import Derived.Test.YtknjdkgemkmoeaaShapeI
namespace Go.Proofs.Ytknjdkgemkmoeaa
open Go.ChangeShapes Go.WideShapes Go.ChangeAt Go.RowKit
open Fxm
set_option linter.unusedSimpArgs false
set_option linter.unusedVariables false

/-- What a generated shape is: a circle of radius r; or the polygon vs, which lies in block g. -/
inductive Sp where
  | c (r : Int)
  | p (g cap : Nat) (vs : List (Int × Int))
namespace Sp
def r : Sp → Int
  | .c r => r
  | .p _ _ _ => 0
def a : Sp → Option Addr
  | .c _ => none
  | .p g _ _ => some ⟨g, 0, none⟩
def n : Sp → Nat
  | .c _ => 0
  | .p _ _ vs => vs.length
def cap : Sp → Nat
  | .c _ => 0
  | .p _ cap _ => cap
def ins : Sp → Int × Int → Bool
  | .c r, d => decide (d.1 * d.1 + d.2 * d.2 ≤ r * r)
  | .p _ _ vs, d => insideB vs d
def xa : Sp → Int
  | .c r => -r
  | .p _ _ vs => lo (fun p => p.1) vs vs.length
def ya : Sp → Int
  | .c r => -r
  | .p _ _ vs => lo (fun p => p.2) vs vs.length
def xb : Sp → Int
  | .c r => r
  | .p _ _ vs => hi (fun p => p.1) vs vs.length
def yb : Sp → Int
  | .c r => r
  | .p _ _ vs => hi (fun p => p.2) vs vs.length
def pl : Sp → Int → Int → Int → Int → Int
  | .c r, q0, q1, a0, a1 => flr (q0 * a0 + q1 * a1) 1024 - r
  | .p _ _ vs, q0, q1, a0, a1 => lo (dotV q0 q1 a0 a1) vs vs.length
def ph : Sp → Int → Int → Int → Int → Int
  | .c r, q0, q1, a0, a1 => flr (q0 * a0 + q1 * a1) 1024 + r
  | .p _ _ vs, q0, q1, a0, a1 => hi (dotV q0 q1 a0 a1) vs vs.length
end Sp
def Sh (w : World) : Sp → Prop
  | .c r => 1 ≤ r ∧ r ≤ 32768
  | .p g cap vs => Row w g cap vs ∧ Gen vs
theorem Sh.carry {w w' : World} {s : Sp} (h : Sh w s) (hb : Below w.heap.size w w') : Sh w' s := by
  cases s with
  | c r => exact h
  | p g cap vs => exact ⟨h.1.carry hb, h.2⟩
theorem lo_shift (q : Int) (f : Int × Int → Int) (vs : List (Int × Int)) : ∀ c, c ≤ vs.length → lo (fun p => q + f p) vs c = q + lo f vs c
  | 0, _ => rfl
  | c + 1, h => by rw [lo_succ _ (vs := vs) (by omega), lo_succ _ (vs := vs) (by omega), lo_shift q f vs c (by omega)]; omega
theorem hi_shift (q : Int) (f : Int × Int → Int) (vs : List (Int × Int)) : ∀ c, c ≤ vs.length → hi (fun p => q + f p) vs c = q + hi f vs c
  | 0, _ => rfl
  | c + 1, h => by rw [hi_succ _ (vs := vs) (by omega), hi_succ _ (vs := vs) (by omega), hi_shift q f vs c (by omega)]; omega
section
variable {w : World} {s : Sp}
theorem Sh.bd (h : Sh w s) : (-32768 ≤ s.xa ∧ s.xa ≤ s.xb ∧ s.xb ≤ 32768) ∧ (-32768 ≤ s.ya ∧ s.ya ≤ s.yb ∧ s.yb ≤ 32768) := by
  cases s with
  | c r => obtain ⟨h1, h2⟩ := h; simp only [Sp.xa, Sp.ya, Sp.xb, Sp.yb]; omega
  | p g cap vs =>
    have hG := h.2
    have hl := hG.lo
    have b1 := lo_bd (f := fun p => p.1) (vs := vs) (A := -32768) (B := 32768) (by omega) (fun i hi => (hG.small i hi).1) vs.length (Nat.le_refl _)
    have b2 := hi_bd (f := fun p => p.1) (vs := vs) (A := -32768) (B := 32768) (by omega) (fun i hi => (hG.small i hi).1) vs.length (Nat.le_refl _)
    have b3 := lo_bd (f := fun p => p.2) (vs := vs) (A := -32768) (B := 32768) (by omega) (fun i hi => (hG.small i hi).2) vs.length (Nat.le_refl _)
    have b4 := hi_bd (f := fun p => p.2) (vs := vs) (A := -32768) (B := 32768) (by omega) (fun i hi => (hG.small i hi).2) vs.length (Nat.le_refl _)
    have c1 := lo_le (fun p => p.1) (vs := vs) vs.length (Nat.le_refl _) 0 (by omega)
    have c2 := le_hi (fun p => p.1) (vs := vs) vs.length (Nat.le_refl _) 0 (by omega)
    have c3 := lo_le (fun p => p.2) (vs := vs) vs.length (Nat.le_refl _) 0 (by omega)
    have c4 := le_hi (fun p => p.2) (vs := vs) vs.length (Nat.le_refl _) 0 (by omega)
    simp only [Sp.xa, Sp.ya, Sp.xb, Sp.yb]
    omega
def Sp.nx (s : Sp) (x : Int) : Int := 0 + s.xa - 2 + arnd x (0 + s.xb - (0 + s.xa) + 5)
def Sp.ny (s : Sp) (y : Int) : Int := 0 + s.ya - 2 + arnd y (0 + s.yb - (0 + s.ya) + 5)
theorem Sh.nx_bd (h : Sh w s) (x : Int) : -32770 ≤ s.nx x ∧ s.nx x ≤ 32770 := by
  have := h.bd.1
  have := arnd_bd x (m := 0 + s.xb - (0 + s.xa) + 5) (by omega)
  unfold Sp.nx; omega
theorem Sh.ny_bd (h : Sh w s) (y : Int) : -32770 ≤ s.ny y ∧ s.ny y ≤ 32770 := by
  have := h.bd.2
  have := arnd_bd y (m := 0 + s.yb - (0 + s.ya) + 5) (by omega)
  unfold Sp.ny; omega
theorem bp_zero : Bp 0 := ⟨by omega, by omega⟩
theorem Sh.validate (h : Sh w s) :
    Calls Try.prog 44 #[.agg #[.int .i64 s.r, .slice s.a s.n s.cap]] w fun e w' => e = .returned (.int .i64 0) ∧ Below w.heap.size w w' := by
  cases s with
  | c r => exact validate_ok (vs := []) (Or.inl ⟨rfl, _, _, rfl⟩) (circ_valid h)
  | p g cap vs => exact validate_ok (Row.poly h.1) h.2.valid
end
theorem Be.bp {a : Int} (h : Be a) : Bp a := by unfold Be at h; unfold Bp; omega
theorem Be.near {a p : Int} (h : Be a) (hp : -32770 ≤ p ∧ p ≤ 32770) : Bd (a + p) := by unfold Be at h; unfold Bd; omega
theorem near_bd {p : Int} (hp : -32770 ≤ p ∧ p ≤ 32770) : Bd p := by unfold Bd; omega
end Go.Proofs.Ytknjdkgemkmoeaa
