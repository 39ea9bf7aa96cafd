/- Package collide: Collide as one value; shifts. -/
import Derived.Test.YtfbgghkkgmgnjaaCollJ
import Derived.Test.YtfbgghkkgmgnjaaCollK
namespace Go.Proofs.Ytfbgghkkgmgnjaa
open Go.ChangeShapes Go.WideShapes Go.ChangeAt Go.RowKit Go.Shelf
open Fxm
set_option linter.unusedSimpArgs false
set_option linter.unusedVariables false

section
open Classical in
noncomputable def colN (s t : Sp) (p q : Int × Int) : Int × Int × Int := if Hit s t p q then ((hitN s t p q).1, (hitN s t p q).2, hitD s t p q) else (0, 0, 0)
end
noncomputable def colB (s t : Sp) (p q : Int × Int) : Bool := pB (Hit s t p q)
theorem col_yes {s t : Sp} {p q : Int × Int} (h : Hit s t p q) : colN s t p q = ((hitN s t p q).1, (hitN s t p q).2, hitD s t p q) ∧ colB s t p q = true := ⟨if_pos h, pB_true h⟩
theorem col_no {s t : Sp} {p q : Int × Int} (h : ¬ Hit s t p q) : colN s t p q = (0, 0, 0) ∧ colB s t p q = false := ⟨if_neg h, pB_false h⟩
theorem col_any (s t : Sp) (p0 p1 q0 q1 : Int) (w : World) (hs : Sh w s) (ht : Sh w t) (hp0 : Be p0) (hp1 : Be p1) (hq0 : Be q0) (hq1 : Be q1) :
    Calls Try.prog 18 #[.agg #[.int .i64 s.r, .slice s.a s.n s.cap], .agg #[.int .i64 p0, .int .i64 p1], .agg #[.int .i64 t.r, .slice t.a t.n t.cap], .agg #[.int .i64 q0, .int .i64 q1]] w fun e w' =>
      e = .returned (.tuple #[.agg #[.int .i64 (colN s t (p0, p1) (q0, q1)).1, .int .i64 (colN s t (p0, p1) (q0, q1)).2.1, .int .i64 (colN s t (p0, p1) (q0, q1)).2.2], .bool (colB s t (p0, p1) (q0, q1))]) ∧ Below w.heap.size w w' := by
  refine (collide_any s t p0 p1 q0 q1 w hs ht hp0 hp1 hq0 hq1).mono ?_
  rintro e w' ⟨⟨h, he⟩ | ⟨h, he⟩, hb⟩
  · obtain ⟨h1, h2⟩ := col_no h
    rw [h1, h2]
    exact ⟨he, hb⟩
  · obtain ⟨h1, h2⟩ := col_yes h
    rw [h1, h2]
    exact ⟨he, hb⟩

/-! ### shifts -/
theorem near_shift (vs : List (Int × Int)) (q0 q1 c0 c1 i k : Int) : nearI vs (q0 + i, q1 + k) (c0 + i, c1 + k) = nearI vs (q0, q1) (c0, c1) := by
  unfold nearI
  refine bst_congr fun j _ => ?_
  simp only
  rw [show q0 + i + (at' vs j).1 - (c0 + i) = q0 + (at' vs j).1 - c0 by omega, show q1 + k + (at' vs j).2 - (c1 + k) = q1 + (at' vs j).2 - c1 by omega]
theorem corner_shift (vs : List (Int × Int)) (q0 q1 c0 c1 i k : Int) : corner vs (q0 + i, q1 + k) (c0 + i, c1 + k) = corner vs (q0, q1) (c0, c1) := by
  unfold corner
  rw [near_shift]
  simp only
  exact Prod.ext (by simp only; omega) (by simp only; omega)
theorem lastD_shift (s t : Sp) (p0 p1 q0 q1 i k : Int) : lastD s t (p0 + i, p1 + k) (q0 + i, q1 + k) = lastD s t (p0, p1) (q0, q1) := by
  cases s with
  | c r =>
    cases t with
    | c r' => exact Prod.ext (by show q0 + i - (p0 + i) = q0 - p0; omega) (by show q1 + k - (p1 + k) = q1 - p1; omega)
    | p g cap vs => exact corner_shift vs q0 q1 p0 p1 i k
  | p g cap vs =>
    cases t with
    | c r' => exact corner_shift vs p0 p1 q0 q1 i k
    | p g' cap' vs' => rfl
theorem axis_shift (s t : Sp) (p0 p1 q0 q1 i k : Int) : axisV s t (p0 + i, p1 + k) (q0 + i, q1 + k) = axisV s t (p0, p1) (q0, q1) := by
  funext n
  unfold axisV dirV
  rw [lastD_shift]
theorem axes_shift (s t : Sp) (p0 p1 q0 q1 i k : Int) : axesV s t (p0 + i, p1 + k) (q0 + i, q1 + k) = axesV s t (p0, p1) (q0, q1) := by
  unfold axesV
  rw [axis_shift]
theorem min_add (a b c : Int) : min (a + c) (b + c) = min a b + c := by omega
theorem max_add (a b c : Int) : max (a + c) (b + c) = max a b + c := by omega
theorem dpt_shift (s t : Sp) (p0 p1 q0 q1 i k : Int) : dpt s t (p0 + i * 1024, p1 + k * 1024) (q0 + i * 1024, q1 + k * 1024) = dpt s t (p0, p1) (q0, q1) := by
  funext n
  unfold dpt
  rw [axis_shift]
  generalize axisV s t (p0, p1) (q0, q1) n = a
  unfold depthV
  simp only
  rw [Sh.ph_shift, Sh.ph_shift, Sh.pl_shift, Sh.pl_shift, min_add, max_add]
  omega
theorem hit_shift (s t : Sp) (p0 p1 q0 q1 i k : Int) : Hit s t (p0 + i * 1024, p1 + k * 1024) (q0 + i * 1024, q1 + k * 1024) ↔ Hit s t (p0, p1) (q0, q1) := by
  unfold Hit Apart Bo.Ov bxS
  rw [dpt_shift]
  simp only
  constructor
  · rintro ⟨⟨h1, h2, h3, h4⟩, h⟩; exact ⟨⟨by omega, by omega, by omega, by omega⟩, h⟩
  · rintro ⟨⟨h1, h2, h3, h4⟩, h⟩; exact ⟨⟨by omega, by omega, by omega, by omega⟩, h⟩
theorem col_shift (s t : Sp) (p0 p1 q0 q1 i k : Int) : colN s t (p0 + i * 1024, p1 + k * 1024) (q0 + i * 1024, q1 + k * 1024) = colN s t (p0, p1) (q0, q1) ∧ colB s t (p0 + i * 1024, p1 + k * 1024) (q0 + i * 1024, q1 + k * 1024) = colB s t (p0, p1) (q0, q1) := by
  have h := hit_shift s t p0 p1 q0 q1 i k
  by_cases hh : Hit s t (p0, p1) (q0, q1)
  · obtain ⟨a1, a2⟩ := col_yes hh
    obtain ⟨b1, b2⟩ := col_yes (h.2 hh)
    rw [a1, a2, b1, b2]
    have hA : hitA s t (p0 + i * 1024, p1 + k * 1024) (q0 + i * 1024, q1 + k * 1024) = hitA s t (p0, p1) (q0, q1) := by
      unfold hitA hitK; rw [dpt_shift, axis_shift]
    have hD : hitD s t (p0 + i * 1024, p1 + k * 1024) (q0 + i * 1024, q1 + k * 1024) = hitD s t (p0, p1) (q0, q1) := by
      unfold hitD hitK; rw [dpt_shift]
    have hN : hitN s t (p0 + i * 1024, p1 + k * 1024) (q0 + i * 1024, q1 + k * 1024) = hitN s t (p0, p1) (q0, q1) := by
      unfold hitN; rw [hA]; simp only
      rw [show q0 + i * 1024 - (p0 + i * 1024) = q0 - p0 by omega, show q1 + k * 1024 - (p1 + k * 1024) = q1 - p1 by omega]
    rw [hN, hD]
    exact ⟨rfl, rfl⟩
  · obtain ⟨a1, a2⟩ := col_no hh
    obtain ⟨b1, b2⟩ := col_no fun x => hh (h.1 x)
    rw [a1, a2, b1, b2]
    exact ⟨rfl, rfl⟩
end Go.Proofs.Ytfbgghkkgmgnjaa
