/- Package toi: a circle and an upright wall. -/
import Derived.Test.YtfbgghkkgmgnjaaToiE
namespace Go.Proofs.Ytfbgghkkgmgnjaa
open Go.ChangeShapes Go.WideShapes Go.ChangeAt Go.RowKit Go.Shelf
open Fxm
set_option linter.unusedSimpArgs false
set_option linter.unusedVariables false

def wallV (h : Int) : List (Int × Int) := [(-h, -4000), (h, -4000), (h, 4000), (-h, 4000)]
theorem wall_len (h : Int) : (wallV h).length = 4 := rfl
theorem wall_gen {h : Int} (h1 : 1 ≤ h) (h2 : h ≤ 200) : Gen (wallV h) := by
  refine ⟨by rw [wall_len]; omega, by rw [wall_len]; omega, ?_, ?_, ?_⟩
  · intro i hi
    rw [wall_len] at hi
    match i, hi with
    | 0, _ => exact ⟨by show -32768 ≤ -h ∧ -h ≤ 32768; omega, by show (-32768 : Int) ≤ -4000 ∧ (-4000 : Int) ≤ 32768; omega⟩
    | 1, _ => exact ⟨by show -32768 ≤ h ∧ h ≤ 32768; omega, by show (-32768 : Int) ≤ -4000 ∧ (-4000 : Int) ≤ 32768; omega⟩
    | 2, _ => exact ⟨by show -32768 ≤ h ∧ h ≤ 32768; omega, by show (-32768 : Int) ≤ 4000 ∧ (4000 : Int) ≤ 32768; omega⟩
    | 3, _ => exact ⟨by show -32768 ≤ -h ∧ -h ≤ 32768; omega, by show (-32768 : Int) ≤ 4000 ∧ (4000 : Int) ≤ 32768; omega⟩
  · intro c hc
    rw [wall_len] at hc
    match c, hc with
    | 0, _ =>
      refine ⟨by show 0 < leftV (-h, -4000) (h, -4000) (0, 0); unfold leftV; simp only; omega, fun j hj n1 n2 => ?_⟩
      rw [wall_len] at hj
      match j, hj, n1, n2 with
      | 2, _, _, _ => show 0 < leftV (-h, -4000) (h, -4000) (h, 4000); unfold leftV; simp only; omega
      | 3, _, _, _ => show 0 < leftV (-h, -4000) (h, -4000) (-h, 4000); unfold leftV; simp only; omega
      | 0, _, n1, _ => exact absurd rfl n1
      | 1, _, _, n2 => exact absurd rfl n2
    | 1, _ =>
      refine ⟨by show 0 < leftV (h, -4000) (h, 4000) (0, 0); unfold leftV; simp only; omega, fun j hj n1 n2 => ?_⟩
      rw [wall_len] at hj
      match j, hj, n1, n2 with
      | 0, _, _, _ => show 0 < leftV (h, -4000) (h, 4000) (-h, -4000); unfold leftV; simp only; omega
      | 3, _, _, _ => show 0 < leftV (h, -4000) (h, 4000) (-h, 4000); unfold leftV; simp only; omega
      | 1, _, n1, _ => exact absurd rfl n1
      | 2, _, _, n2 => exact absurd rfl n2
    | 2, _ =>
      refine ⟨by show 0 < leftV (h, 4000) (-h, 4000) (0, 0); unfold leftV; simp only; omega, fun j hj n1 n2 => ?_⟩
      rw [wall_len] at hj
      match j, hj, n1, n2 with
      | 0, _, _, _ => show 0 < leftV (h, 4000) (-h, 4000) (-h, -4000); unfold leftV; simp only; omega
      | 1, _, _, _ => show 0 < leftV (h, 4000) (-h, 4000) (h, -4000); unfold leftV; simp only; omega
      | 2, _, n1, _ => exact absurd rfl n1
      | 3, _, _, n2 => exact absurd rfl n2
    | 3, _ =>
      have e3 : (3 + 1) % (wallV h).length = 0 := by simp [wall_len]
      refine ⟨by rw [e3]; show 0 < leftV (-h, 4000) (-h, -4000) (0, 0); unfold leftV; simp only; omega, fun j hj n1 n2 => ?_⟩
      rw [wall_len] at hj
      rw [e3] at n2 ⊢
      match j, hj, n1, n2 with
      | 1, _, _, _ => show 0 < leftV (-h, 4000) (-h, -4000) (h, -4000); unfold leftV; simp only; omega
      | 2, _, _, _ => show 0 < leftV (-h, 4000) (-h, -4000) (h, 4000); unfold leftV; simp only; omega
      | 3, _, n1, _ => exact absurd rfl n1
      | 0, _, _, n2 => exact absurd rfl n2
  · intro i hi
    rw [wall_len] at hi
    match i, hi with
    | 0, _ => exact ⟨by show -30000 ≤ -h ∧ -h ≤ 30000; omega, by show (-30000 : Int) ≤ -4000 ∧ (-4000 : Int) ≤ 30000; omega⟩
    | 1, _ => exact ⟨by show -30000 ≤ h ∧ h ≤ 30000; omega, by show (-30000 : Int) ≤ -4000 ∧ (-4000 : Int) ≤ 30000; omega⟩
    | 2, _ => exact ⟨by show -30000 ≤ h ∧ h ≤ 30000; omega, by show (-30000 : Int) ≤ 4000 ∧ (4000 : Int) ≤ 30000; omega⟩
    | 3, _ => exact ⟨by show -30000 ≤ -h ∧ -h ≤ 30000; omega, by show (-30000 : Int) ≤ 4000 ∧ (4000 : Int) ≤ 30000; omega⟩

theorem isq_abs {d e : Int} (he : 0 < e) (hd : d = e ∨ d = -e) : isq (d * d) = e := by
  have : d * d = e * e := by rcases hd with rfl | rfl <;> grind
  rw [this, isq_sq (by omega)]
theorem flr_abs {d e : Int} (he : 0 < e) (hd : d = e ∨ d = -e) : flr (d * 1024) e = 1024 ∨ flr (d * 1024) e = -1024 := by
  rcases hd with rfl | rfl
  · left; rw [Int.mul_comm]; exact flr_mul_self 1024 (by omega)
  · right; rw [show -e * 1024 = -1024 * e by omega]; exact flr_mul_self (-1024) (by omega)
theorem ax_hor {d e : Int} (he : 0 < e) (hd : d = e ∨ d = -e) : axV (d, 0) = (1024, 0) ∨ axV (d, 0) = (-1024, 0) := by
  have hn : nrm (d, 0) = (flr (d * 1024) e, 0) := by
    unfold nrm
    simp only
    rw [show d * d + (0 : Int) * 0 = d * d by omega, isq_abs he hd, Int.zero_mul]
    exact Prod.ext rfl (by show flr 0 e = 0; exact flr_pos (by omega) (by omega))
  unfold axV
  rw [hn]
  rcases flr_abs he hd with h | h
  · left; rw [h]; rfl
  · right; rw [h]; rfl
theorem ax_ver {d e : Int} (he : 0 < e) (hd : d = e ∨ d = -e) : axV (0, d) = (0, 1024) ∨ axV (0, d) = (0, -1024) := by
  have hn : nrm (0, d) = (0, flr (d * 1024) e) := by
    unfold nrm
    simp only
    rw [show (0 : Int) * 0 + d * d = d * d by omega, isq_abs he hd, Int.zero_mul]
    exact Prod.ext (by show flr 0 e = 0; exact flr_pos (by omega) (by omega)) rfl
  unfold axV
  rw [hn]
  rcases flr_abs he hd with h | h
  · left; rw [h]; rfl
  · right; rw [h]; rfl
theorem ax_right {d : Int} (hd : 0 < d) : axV (d, 0) = (1024, 0) := ax_line hd

section
variable {h r X : Int} {g cap : Nat}
theorem wall_lo (f : Int × Int → Int) (h : Int) : lo f (wallV h) 4 = min (min (min (min (f (-h, -4000)) (f (-h, -4000))) (f (h, -4000))) (f (h, 4000))) (f (-h, 4000)) := rfl
theorem wall_hi (f : Int × Int → Int) (h : Int) : hi f (wallV h) 4 = max (max (max (max (f (-h, -4000)) (f (-h, -4000))) (f (h, -4000))) (f (h, 4000))) (f (-h, 4000)) := rfl
theorem wall_ndir (r h : Int) (g cap : Nat) : ndir (.c r) (.p g cap (wallV h)) = 5 := rfl
theorem flr_1024 (a : Int) : flr (1024 * a) 1024 = a := by rw [Int.mul_comm]; exact flr_mul_self a (by omega)
theorem dot_hor {c : Int} (hc : c = 1024 ∨ c = -1024) (x y : Int) : flr (x * c + y * 0) 1024 = if c = 1024 then x else -x := by
  rcases hc with rfl | rfl
  · rw [if_pos rfl, show x * 1024 + y * 0 = 1024 * x by omega, flr_1024]
  · rw [if_neg (by omega), show x * -1024 + y * 0 = 1024 * (-x) by omega, flr_1024]
theorem dot_ver {c : Int} (hc : c = 1024 ∨ c = -1024) (x y : Int) : flr (x * 0 + y * c) 1024 = if c = 1024 then y else -y := by
  rcases hc with rfl | rfl
  · rw [if_pos rfl, show x * 0 + y * 1024 = 1024 * y by omega, flr_1024]
  · rw [if_neg (by omega), show x * 0 + y * -1024 = 1024 * (-y) by omega, flr_1024]
/-- The depth along an upright edge's axis. -/
theorem wall_dpt_h {c : Int} (hc : c = 1024 ∨ c = -1024) (h1 : 1 ≤ h) : depthV (.c r) (.p g cap (wallV h)) (X, 0) (0, 0) (c, 0) = if c = 1024 then min (X + r) h - max (X - r) (-h) else min (-X + r) h - max (-X - r) (-h) := by
  unfold depthV
  simp only [Sp.pl, Sp.ph, wall_len, wall_lo, wall_hi, dotV]
  rw [dot_hor hc, dot_hor hc, dot_hor hc, dot_hor hc, dot_hor hc]
  rcases hc with rfl | rfl
  · simp only [if_true]; omega
  · simp only [show ¬ ((-1024 : Int) = 1024) by omega, if_false]; omega
theorem wall_dpt_v {c : Int} (hc : c = 1024 ∨ c = -1024) : depthV (.c r) (.p g cap (wallV h)) (X, 0) (0, 0) (0, c) = min r 4000 - max (-r) (-4000) := by
  unfold depthV
  simp only [Sp.pl, Sp.ph, wall_len, wall_lo, wall_hi, dotV]
  rw [dot_ver hc, dot_ver hc, dot_ver hc, dot_ver hc, dot_ver hc]
  rcases hc with rfl | rfl
  · simp only [if_true]; omega
  · simp only [show ¬ ((-1024 : Int) = 1024) by omega, if_false]; omega
theorem wall_corner (h X : Int) : (∃ v0, (v0 = h ∨ v0 = -h) ∧ (corner (wallV h) (0, 0) (X, 0) = (v0 - X, 4000) ∨ corner (wallV h) (0, 0) (X, 0) = (v0 - X, -4000))) := by
  have hn : nearI (wallV h) (0, 0) (X, 0) ≤ 3 := bst_le _ _
  have hc : corner (wallV h) (0, 0) (X, 0) = (0 + (at' (wallV h) (nearI (wallV h) (0, 0) (X, 0))).1 - X, 0 + (at' (wallV h) (nearI (wallV h) (0, 0) (X, 0))).2 - 0) := rfl
  rw [hc]
  generalize nearI (wallV h) (0, 0) (X, 0) = i at *
  match i, hn with
  | 0, _ => exact ⟨-h, .inr rfl, .inr (Prod.ext (by show 0 + -h - X = -h - X; omega) (by show (0 : Int) + -4000 - 0 = -4000; omega))⟩
  | 1, _ => exact ⟨h, .inl rfl, .inr (Prod.ext (by show 0 + h - X = h - X; omega) (by show (0 : Int) + -4000 - 0 = -4000; omega))⟩
  | 2, _ => exact ⟨h, .inl rfl, .inl (Prod.ext (by show 0 + h - X = h - X; omega) (by show (0 : Int) + 4000 - 0 = 4000; omega))⟩
  | 3, _ => exact ⟨-h, .inr rfl, .inl (Prod.ext (by show 0 + -h - X = -h - X; omega) (by show (0 : Int) + 4000 - 0 = 4000; omega))⟩
/-- The axis of a far corner: nearly upright. -/
theorem ax_steep {d0 d1 : Int} (h0 : -600 ≤ d0 ∧ d0 ≤ 600) (h1 : d1 = 4000 ∨ d1 = -4000) : (-155 ≤ (axV (d0, d1)).1 ∧ (axV (d0, d1)).1 ≤ 155) ∧ (1012 ≤ (axV (d0, d1)).2 ∨ (axV (d0, d1)).2 ≤ -1012) := by
  have q0 := Vcm.mul_self_nonneg d0
  have q1 : d0 * d0 ≤ 360000 := by
    have := prod_bd (a := d0) (b := d0) (A := 600) (B := 600) (by omega) (by omega) h0.1 h0.2 h0.1 h0.2
    omega
  have q2 : d1 * d1 = 16000000 := by rcases h1 with rfl | rfl <;> rfl
  have l1 : 4000 ≤ isq (d0 * d0 + d1 * d1) := by
    have := isq_mono (a := 16000000) (b := d0 * d0 + d1 * d1) (by omega)
    rwa [show (16000000 : Int) = 4000 * 4000 from rfl, isq_sq (by omega)] at this
  have l2 : isq (d0 * d0 + d1 * d1) ≤ 4045 := isq_le (by omega) (by omega)
  have hn : nrm (d0, d1) = (flr (d0 * 1024) (isq (d0 * d0 + d1 * d1)), flr (d1 * 1024) (isq (d0 * d0 + d1 * d1))) := rfl
  generalize isq (d0 * d0 + d1 * d1) = L at *
  have f0 := flr_spec_pos (a := d0 * 1024) (b := L) (by omega)
  have f1 := flr_spec_pos (a := d1 * 1024) (b := L) (by omega)
  generalize flr (d0 * 1024) L = x at *
  generalize flr (d1 * 1024) L = y at *
  have hx : -155 ≤ x ∧ x ≤ 155 := by
    constructor
    · rcases Int.lt_or_le x (-155) with hl | hl
      · have := Int.mul_le_mul_of_nonneg_left (show x + 1 ≤ -155 by omega) (show 0 ≤ L by omega)
        rw [Int.mul_add, Int.mul_one] at this
        omega
      · exact hl
    · rcases Int.lt_or_le 155 x with hl | hl
      · have := Int.mul_le_mul_of_nonneg_left (show 156 ≤ x by omega) (show 0 ≤ L by omega)
        omega
      · exact hl
  have hy : 1012 ≤ y ∨ y ≤ -1012 := by
    rcases h1 with rfl | rfl
    · left
      rcases Int.lt_or_le y 1012 with hl | hl
      · have := Int.mul_le_mul_of_nonneg_left (show y + 1 ≤ 1012 by omega) (show 0 ≤ L by omega)
        rw [Int.mul_add, Int.mul_one] at this
        omega
      · exact hl
    · right
      rcases Int.lt_or_le (-1012) y with hl | hl
      · have := Int.mul_le_mul_of_nonneg_left (show -1011 ≤ y by omega) (show 0 ≤ L by omega)
        omega
      · exact hl
  unfold axV
  rw [hn, if_neg (by simp only; omega)]
  exact ⟨hx, hy⟩
theorem wall_dpt_c (h1 : 1 ≤ h) (h2 : h ≤ 200) (r1 : 10 ≤ r) (r2 : r ≤ 200) (x1 : -400 ≤ X) (x2 : X ≤ 400) {a : Int × Int} (ha : (-155 ≤ a.1 ∧ a.1 ≤ 155) ∧ (1012 ≤ a.2 ∨ a.2 ≤ -1012)) (hb : -1024 ≤ a.2 ∧ a.2 ≤ 1024) :
    0 < depthV (.c r) (.p g cap (wallV h)) (X, 0) (0, 0) a := by
  unfold depthV
  simp only [Sp.pl, Sp.ph, wall_len, wall_lo, wall_hi, dotV]
  obtain ⟨x, y⟩ := a
  simp only at *
  have e1 := prod_bd (a := X) (b := x) (A := 400) (B := 155) (by omega) (by omega) x1 x2 ha.1.1 ha.1.2
  have e2 := prod_bd (a := h) (b := x) (A := 200) (B := 155) (by omega) (by omega) (by omega) h2 ha.1.1 ha.1.2
  rw [show (0 + -h) * x + (0 + -4000) * y = -(h * x) - 4000 * y by grind, show (0 + h) * x + (0 + -4000) * y = h * x - 4000 * y by grind, show (0 + h) * x + (0 + 4000) * y = h * x + 4000 * y by grind, show (0 + -h) * x + (0 + 4000) * y = -(h * x) + 4000 * y by grind, show X * x + 0 * y = X * x by omega]
  generalize X * x = m at *
  generalize h * x = n at *
  have s0 := flr_spec_pos (a := m) (b := 1024) (by omega)
  have s1 := flr_spec_pos (a := -n - 4000 * y) (b := 1024) (by omega)
  have s2 := flr_spec_pos (a := n - 4000 * y) (b := 1024) (by omega)
  have s3 := flr_spec_pos (a := n + 4000 * y) (b := 1024) (by omega)
  have s4 := flr_spec_pos (a := -n + 4000 * y) (b := 1024) (by omega)
  rcases ha.2 with hy | hy <;> omega
set_option maxHeartbeats 2000000 in
theorem wall_hit (h1 : 1 ≤ h) (h2 : h ≤ 200) (r1 : 10 ≤ r) (r2 : r ≤ 200) (x1 : -(h + r) < X) (x2 : X < h + r) : Hit (.c r) (.p g cap (wallV h)) (X, 0) (0, 0) := by
  refine ⟨?_, ?_⟩
  · unfold Bo.Ov bxS
    simp only [Sp.xa, Sp.ya, Sp.xb, Sp.yb, wall_len, wall_lo, wall_hi]
    exact ⟨by omega, by omega, by omega, by omega⟩
  · rintro ⟨k, hk, hd⟩
    rw [wall_ndir] at hk
    unfold dpt axisV at hd
    rcases (by omega : k = 0 ∨ k = 1 ∨ k = 2 ∨ k = 3 ∨ k = 4) with rfl | rfl | rfl | rfl | rfl
    · have e : dirV (.c r) (.p g cap (wallV h)) (X, 0) (0, 0) 0 = (0, -(2 * h)) := Prod.ext (by show (-4000 : Int) - -4000 = 0; omega) (by show -h - h = -(2 * h); omega)
      rw [e] at hd
      rcases ax_ver (d := -(2 * h)) (e := 2 * h) (by omega) (.inr rfl) with h' | h' <;> rw [h', wall_dpt_v (by omega)] at hd <;> omega
    · have e : dirV (.c r) (.p g cap (wallV h)) (X, 0) (0, 0) 1 = (8000, 0) := Prod.ext (by show (4000 : Int) - -4000 = 8000; omega) (by show h - h = 0; omega)
      rw [e, ax_right (by omega), wall_dpt_h (.inl rfl) h1, if_pos rfl] at hd
      omega
    · have e : dirV (.c r) (.p g cap (wallV h)) (X, 0) (0, 0) 2 = (0, 2 * h) := Prod.ext (by show (4000 : Int) - 4000 = 0; omega) (by show h - -h = 2 * h; omega)
      rw [e] at hd
      rcases ax_ver (d := 2 * h) (e := 2 * h) (by omega) (.inl rfl) with h' | h' <;> rw [h', wall_dpt_v (by omega)] at hd <;> omega
    · have e0 : dirV (.c r) (.p g cap (wallV h)) (X, 0) (0, 0) 3 = ((at' (wallV h) ((3 + 1) % (wallV h).length)).2 - (at' (wallV h) 3).2, (at' (wallV h) 3).1 - (at' (wallV h) ((3 + 1) % (wallV h).length)).1) := rfl
      rw [show (3 + 1) % (wallV h).length = 0 by simp [wall_len]] at e0
      have e := e0.trans (show _ = ((-8000 : Int), (0 : Int)) from Prod.ext (by show (-4000 : Int) - 4000 = -8000; omega) (by show -h - -h = 0; omega))
      rw [e] at hd
      rcases ax_hor (d := -8000) (e := 8000) (by omega) (.inr rfl) with h' | h' <;> rw [h', wall_dpt_h (by omega) h1] at hd
      · rw [if_pos rfl] at hd; omega
      · rw [if_neg (by omega)] at hd; omega
    · have e : dirV (.c r) (.p g cap (wallV h)) (X, 0) (0, 0) 4 = corner (wallV h) (0, 0) (X, 0) := rfl
      rw [e] at hd
      obtain ⟨v0, hv, hc | hc⟩ := wall_corner h X
      · rw [hc] at hd
        have := wall_dpt_c (g := g) (cap := cap) h1 h2 r1 r2 (X := X) (by omega) (by omega) (ax_steep (d0 := v0 - X) (d1 := 4000) (by omega) (by omega)) (axV_bd _).2
        omega
      · rw [hc] at hd
        have := wall_dpt_c (g := g) (cap := cap) h1 h2 r1 r2 (X := X) (by omega) (by omega) (ax_steep (d0 := v0 - X) (d1 := -4000) (by omega) (by omega)) (axV_bd _).2
        omega
theorem wall_miss (h1 : 1 ≤ h) (r1 : 10 ≤ r) (x1 : X ≤ -(h + r)) : ¬ Hit (.c r) (.p g cap (wallV h)) (X, 0) (0, 0) := by
  rintro ⟨_, hn⟩
  refine hn ⟨1, by rw [wall_ndir]; omega, ?_⟩
  unfold dpt axisV
  have e : dirV (.c r) (.p g cap (wallV h)) (X, 0) (0, 0) 1 = (8000, 0) := Prod.ext (by show (4000 : Int) - -4000 = 8000; omega) (by show h - h = 0; omega)
  rw [e, ax_right (by omega), wall_dpt_h (.inl rfl) h1, if_pos rfl]
  omega
theorem wall_tch (h1 : 1 ≤ h) (h2 : h ≤ 200) (r1 : 10 ≤ r) (r2 : r ≤ 200) {x v k : Int} (hx : x + flr (v * k) 8 < h + r) :
    tch (.c r) (.p g cap (wallV h)) (x, 0) (v, 0) (0, 0) (0, 0) k = true ↔ -(h + r) < x + flr (v * k) 8 := by
  unfold tch posV
  simp only [flr_zero8, Int.add_zero]
  constructor
  · intro ht
    rcases Int.lt_or_le (-(h + r)) (x + flr (v * k) 8) with hl | hl
    · exact hl
    · rw [(col_no (wall_miss (g := g) (cap := cap) h1 r1 hl)).2] at ht; cases ht
  · intro hl
    exact (col_yes (wall_hit (g := g) (cap := cap) h1 h2 r1 r2 hl hx)).2
theorem step_up {v : Int} (hv : 0 ≤ v) (k : Nat) : flr (v * k) 8 ≤ flr (v * ((k : Int) + 1)) 8 ∧ flr (v * ((k : Int) + 1)) 8 ≤ flr (v * k) 8 + v / 8 + 1 := by
  have e : v * ((k : Int) + 1) = v * k + v := by grind
  rw [e]
  generalize v * (k : Int) = m
  have s1 := flr_spec_pos (a := m) (b := 8) (by omega)
  have s2 := flr_spec_pos (a := m + v) (b := 8) (by omega)
  omega
/-- No tunnelling. -/
theorem wall_stop (h1 : 1 ≤ h) (h2 : h ≤ 200) (r1 : 10 ≤ r) (r2 : r ≤ 200) {x v f : Int} (hx : x < -(h + r)) (v0 : 0 ≤ v) (v1 : v ≤ 8 * (2 * (h + r) - 2)) (hf : Early (tch (.c r) (.p g cap (wallV h)) (x, 0) (v, 0) (0, 0) (0, 0)) f) :
    (-(h + r) < x + v → f < 1024) ∧ (x + v ≤ -(h + r) → f = 1024) := by
  have e8 : flr (v * ((8 : Nat) : Int)) 8 = v := by
    rw [show ((8 : Nat) : Int) = 8 from rfl]; exact flr_mul_self v (by omega)
  have mono : ∀ k : Nat, k ≤ 8 → flr (v * k) 8 ≤ v := fun k hk => by
    have : ∀ j : Nat, flr (v * k) 8 ≤ flr (v * ((k + j : Nat) : Int)) 8 := fun j => by
      induction j with
      | zero => exact Int.le_refl _
      | succ j ih =>
        have := (step_up v0 (k + j)).1
        rw [show ((k + (j + 1) : Nat) : Int) = ((k + j : Nat) : Int) + 1 by omega]
        omega
    have := this (8 - k)
    rwa [show k + (8 - k) = 8 by omega, e8] at this
  constructor
  · intro hl
    rcases hf with ⟨ht, hfe⟩ | ⟨k, hk, _, _, hfe⟩ | ⟨ha, hfe⟩
    · have t0 : flr (v * 0) 8 = 0 := by rw [Int.mul_zero]; rfl
      have := (wall_tch (g := g) (cap := cap) h1 h2 r1 r2 (x := x) (v := v) (k := 0) (by rw [t0]; omega)).1 ht
      rw [t0] at this
      omega
    · omega
    · exfalso
      have all : ∀ k : Nat, k ≤ 8 → x + flr (v * k) 8 ≤ -(h + r) := fun k => by
        induction k with
        | zero => intro _; rw [show ((0 : Nat) : Int) = 0 from rfl, Int.mul_zero, show flr 0 8 = 0 from rfl]; omega
        | succ k ih =>
          intro hk
          have i1 := ih (by omega)
          have i2 := (step_up v0 k).2
          rw [show ((k + 1 : Nat) : Int) = (k : Int) + 1 by omega]
          have i3 : x + flr (v * ((k : Int) + 1)) 8 < h + r := by omega
          have i4 := wall_tch (g := g) (cap := cap) h1 h2 r1 r2 (x := x) (v := v) (k := (k : Int) + 1) i3
          have i5 := ha (k + 1) hk
          rw [show ((k + 1 : Nat) : Int) = (k : Int) + 1 by omega] at i5
          rcases Int.lt_or_le (-(h + r)) (x + flr (v * ((k : Int) + 1)) 8) with hlt | hge
          · rw [i4.2 hlt] at i5; cases i5
          · exact hge
      have := all 8 (by omega)
      rw [e8] at this
      omega
  · intro hl
    refine hf.none fun k hk => ?_
    have hm := mono k hk
    have i4 := wall_tch (g := g) (cap := cap) h1 h2 r1 r2 (x := x) (v := v) (k := (k : Int)) (by omega)
    cases hT : tch (.c r) (.p g cap (wallV h)) (x, 0) (v, 0) (0, 0) (0, 0) (k : Int) with
    | false => rfl
    | true => have := i4.1 hT; omega
end
end Go.Proofs.Ytfbgghkkgmgnjaa
