/- Package layout: ranges, rectangles, indices. -/
import Derived.Test.YtknjdkgemkmoeaaShapeM
import Derived.Deep.DeepCutAuto
import Derived.WalkKit
import Derived.BigQuiet
import Derived.Lib.Hide
import Derived.Deep.CutBlock
import Derived.Deep.RegionHeld3
import Derived.Deep.RegionLaw
namespace Go.Proofs.Ytknjdkgemkmoeaa
open Go.ChangeShapes Go.WideShapes Go.ChangeAt Go.RowKit
set_option linter.unusedSimpArgs false
set_option linter.unusedVariables false

/-- A setup's value: its numbers and its three slices. -/
structure Su where
  pl : Int
  ba : Option Addr
  bn : Nat
  bc : Nat
  x0 : Int
  y0 : Int
  x1 : Int
  y1 : Int
  ra : Option Addr
  rn : Nat
  rc : Nat
  da : Option Addr
  dn : Nat
  dc : Nat
  fog : Int
  gx : Int
  gy : Int
  push : Int
  drag : Int
  rest : Int
  rounds : Int
  fuel : Int
/-- A setup's value in a box of its own. -/
def SuC (w : World) (g : Nat) (S : Su) : Prop :=
  w.cell? ⟨g, 0, none⟩ = some (.int .i64 S.pl) ∧ w.cell? ⟨g, 1, none⟩ = some (.slice S.ba S.bn S.bc) ∧
  (w.cell? ⟨g, 2, none⟩ = some (.int .i64 S.x0) ∧ w.cell? ⟨g, 3, none⟩ = some (.int .i64 S.y0) ∧ w.cell? ⟨g, 4, none⟩ = some (.int .i64 S.x1) ∧ w.cell? ⟨g, 5, none⟩ = some (.int .i64 S.y1)) ∧
  w.cell? ⟨g, 6, none⟩ = some (.slice S.ra S.rn S.rc) ∧ w.cell? ⟨g, 7, none⟩ = some (.slice S.da S.dn S.dc) ∧
  w.cell? ⟨g, 8, none⟩ = some (.int .i64 S.fog) ∧ w.cell? ⟨g, 9, none⟩ = some (.int .i64 S.gx) ∧ w.cell? ⟨g, 10, none⟩ = some (.int .i64 S.gy) ∧ w.cell? ⟨g, 11, none⟩ = some (.int .i64 S.push) ∧
  w.cell? ⟨g, 12, none⟩ = some (.int .i64 S.drag) ∧ w.cell? ⟨g, 13, none⟩ = some (.int .i64 S.rest) ∧ w.cell? ⟨g, 14, none⟩ = some (.int .i64 S.rounds) ∧ w.cell? ⟨g, 15, none⟩ = some (.int .i64 S.fuel)
theorem SuC.new (w : World) (S : Su) : SuC (w.alloc (.cells #[.int .i64 S.pl, .slice S.ba S.bn S.bc, .int .i64 S.x0, .int .i64 S.y0, .int .i64 S.x1, .int .i64 S.y1, .slice S.ra S.rn S.rc, .slice S.da S.dn S.dc, .int .i64 S.fog, .int .i64 S.gx, .int .i64 S.gy, .int .i64 S.push, .int .i64 S.drag, .int .i64 S.rest, .int .i64 S.rounds, .int .i64 S.fuel] 54)) w.heap.size S := by
  unfold SuC
  simp only [World.cell?_alloc_new]
  refine ⟨rfl, rfl, ⟨rfl, rfl, rfl, rfl⟩, rfl, rfl, rfl, rfl, rfl, rfl, rfl, rfl, rfl, rfl⟩
theorem SuC.carry {w w' : World} {g : Nat} {S : Su} (h : SuC w g S) (hb : Below w.heap.size w w') : SuC w' g S := by
  obtain ⟨h0, h1, ⟨h2, h3, h4, h5⟩, h6, h7, h8, h9, h10, h11, h12, h13, h14, h15⟩ := h
  have c := fun {p : Addr} {v : Value} (h : w.cell? p = some v) => Proofs.Ytknjdkgemkmoeaa.carry hb h
  exact ⟨c h0, c h1, ⟨c h2, c h3, c h4, c h5⟩, c h6, c h7, c h8, c h9, c h10, c h11, c h12, c h13, c h14, c h15⟩

def btw (n lo hi : Int) : Bool := decide (lo ≤ n) && decide (n ≤ hi)
theorem btw_iff {n lo hi : Int} : btw n lo hi = true ↔ lo ≤ n ∧ n ≤ hi := by unfold btw; simp
theorem between_any (n lo hi : Int) (w : World) : Calls Try.prog 94 #[.int .i64 n, .int .i64 lo, .int .i64 hi] w fun e w' => e = .returned (.bool (btw n lo hi)) ∧ w = w' := by
  unfold btw
  by_cases h1 : lo ≤ n
  · go_enter Try.func94, Try.ntmps94
    go_wp2
    go_ret
    exact ⟨by simp [h1], rfl⟩
  · have hd := Lib.hid (decide_eq_false h1)
    go_enter Try.func94, Try.ntmps94
    go_wp2
    go_ret
    exact ⟨by rw [hd.out]; rfl, rfl⟩
theorem refIn_any (n lo hi : Int) (w : World) : Calls Try.prog 76 #[.int .i64 n, .int .i64 lo, .int .i64 hi] w fun e w' => e = .returned (.bool (btw n lo hi)) ∧ w = w' := by
  unfold btw
  by_cases h1 : lo ≤ n
  · have h1' : n ≥ lo := h1
    go_enter Try.func76, Try.ntmps76
    go_wp2
    go_ret
    exact ⟨by simp [h1], rfl⟩
  · have hd := Lib.hid (decide_eq_false (show ¬ lo ≤ n from h1))
    have h1' : ¬ n ≥ lo := h1
    go_enter Try.func76, Try.ntmps76
    go_wp2
    go_ret
    exact ⟨by rw [hd.out]; rfl, rfl⟩
theorem isIndex_any (i n : Int) (w : World) : Calls Try.prog 77 #[.int .i64 i, .int .i64 n] w fun e w' => e = .returned (.bool (decide (0 ≤ i) && decide (i < n))) ∧ w = w' := by
  by_cases h1 : 0 ≤ i
  · go_enter Try.func77, Try.ntmps77
    go_wp2
    go_ret
    exact ⟨by simp [h1], rfl⟩
  · have hd := Lib.hid (decide_eq_false h1)
    go_enter Try.func77, Try.ntmps77
    go_wp2
    go_ret
    exact ⟨by rw [hd.out]; rfl, rfl⟩
/-- Both components of a vector. -/
def wthB (x y : Int) : Bool := btw x (-16384) 16384 && btw y (-16384) 16384
theorem isWithin_any (x y : Int) (w : World) : Calls Try.prog 95 #[.agg #[.int .i64 x, .int .i64 y], .int .i64 16384] w fun e w' => e = .returned (.bool (wthB x y)) ∧ Below w.heap.size w w' := by
  have hb := alloc_below w (.cells #[.int .i64 x, .int .i64 y] 52)
  have k1 := Lib.hid (between_any x (-16384) 16384)
  have k2 := Lib.hid (between_any y (-16384) 16384)
  unfold wthB
  generalize btw x (-16384) 16384 = p at *
  generalize btw y (-16384) 16384 = q at *
  cases p
  · go_enter Try.func95, Try.ntmps95
    go_wp2_with fail
    with_reducible refine (k1.out _).mono ?_
    rintro e w1 ⟨rfl, rfl⟩
    go_wp2
    go_ret
    exact ⟨rfl, hb⟩
  · go_enter Try.func95, Try.ntmps95
    go_wp2_with fail
    with_reducible refine (k1.out _).mono ?_
    rintro e w1 ⟨rfl, rfl⟩
    go_wp2_with fail
    with_reducible refine (k2.out _).mono ?_
    rintro e w1 ⟨rfl, rfl⟩
    go_wp2
    go_ret
    exact ⟨rfl, hb⟩
def insB (x y x0 y0 x1 y1 : Int) : Bool := btw x x0 x1 && btw y y0 y1
theorem isInside_any (x y x0 y0 x1 y1 : Int) (w : World) : Calls Try.prog 97 #[.agg #[.int .i64 x, .int .i64 y], .agg #[.int .i64 x0, .int .i64 y0, .int .i64 x1, .int .i64 y1]] w fun e w' => e = .returned (.bool (insB x y x0 y0 x1 y1)) ∧ Below w.heap.size w w' := by
  have hb := Lib.hid (below_step (alloc_below w (.cells #[.int .i64 x, .int .i64 y] 52)) (alloc_below _ (.cells #[.int .i64 x0, .int .i64 y0, .int .i64 x1, .int .i64 y1] 48)))
  have k1 := Lib.hid (between_any x x0 x1)
  have k2 := Lib.hid (between_any y y0 y1)
  unfold insB
  generalize btw x x0 x1 = p at *
  generalize btw y y0 y1 = q at *
  cases p
  · go_enter Try.func97, Try.ntmps97
    go_wp2_with fail
    with_reducible refine (k1.out _).mono ?_
    rintro e w1 ⟨rfl, rfl⟩
    go_wp2
    go_ret
    exact ⟨rfl, hb.out⟩
  · go_enter Try.func97, Try.ntmps97
    go_wp2_with fail
    with_reducible refine (k1.out _).mono ?_
    rintro e w1 ⟨rfl, rfl⟩
    go_wp2_with fail
    with_reducible refine (k2.out _).mono ?_
    rintro e w1 ⟨rfl, rfl⟩
    go_wp2
    go_ret
    exact ⟨rfl, hb.out⟩
def prpB (x0 y0 x1 y1 : Int) : Bool := (btw x0 (-1048576) x1 && decide (x1 ≤ 1048576)) && (btw y0 (-1048576) y1 && decide (y1 ≤ 1048576))
theorem isProper_any (x0 y0 x1 y1 : Int) (w : World) : Calls Try.prog 96 #[.agg #[.int .i64 x0, .int .i64 y0, .int .i64 x1, .int .i64 y1]] w fun e w' => e = .returned (.bool (prpB x0 y0 x1 y1)) ∧ Below w.heap.size w w' := by
  have hb := Lib.hid (alloc_below w (.cells #[.int .i64 x0, .int .i64 y0, .int .i64 x1, .int .i64 y1] 48))
  have k1 := Lib.hid (between_any x0 (-1048576) x1)
  have k2 := Lib.hid (between_any y0 (-1048576) y1)
  unfold prpB
  generalize btw x0 (-1048576) x1 = p at *
  generalize btw y0 (-1048576) y1 = q at *
  cases p
  · go_enter Try.func96, Try.ntmps96
    go_wp2_with fail
    with_reducible refine (k1.out _).mono ?_
    rintro e w1 ⟨rfl, rfl⟩
    go_wp2
    go_ret
    exact ⟨rfl, hb.out⟩
  · by_cases h1 : x1 ≤ 1048576
    · cases q
      · go_enter Try.func96, Try.ntmps96
        go_wp2_with fail
        with_reducible refine (k1.out _).mono ?_
        rintro e w1 ⟨rfl, rfl⟩
        go_wp2_with fail
        with_reducible refine (k2.out _).mono ?_
        rintro e w1 ⟨rfl, rfl⟩
        go_wp2
        go_ret
        exact ⟨by simp [h1], hb.out⟩
      · go_enter Try.func96, Try.ntmps96
        go_wp2_with fail
        with_reducible refine (k1.out _).mono ?_
        rintro e w1 ⟨rfl, rfl⟩
        go_wp2_with fail
        with_reducible refine (k2.out _).mono ?_
        rintro e w1 ⟨rfl, rfl⟩
        go_wp2
        go_ret
        exact ⟨by simp [h1], hb.out⟩
    · have hd := Lib.hid (decide_eq_false h1)
      go_enter Try.func96, Try.ntmps96
      go_wp2_with fail
      with_reducible refine (k1.out _).mono ?_
      rintro e w1 ⟨rfl, rfl⟩
      go_wp2
      go_ret
      exact ⟨by rw [hd.out]; simp, hb.out⟩
end Go.Proofs.Ytknjdkgemkmoeaa
