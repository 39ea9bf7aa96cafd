/- Package collide: shapes that cover a point and the four points at a distance of 4 * One collide. -/
import Derived.Test.YtfbgghkkgmgnjaaCollM
namespace Go.Proofs.Ytfbgghkkgmgnjaa
open Go.ChangeShapes Go.WideShapes Go.ChangeAt Go.RowKit Go.Shelf
open Fxm
set_option linter.unusedSimpArgs false
set_option linter.unusedVariables false

theorem axV_ne (d : Int × Int) : ¬ ((axV d).1 = 0 ∧ (axV d).2 = 0) := by
  unfold axV
  split
  · simp
  · assumption
theorem axV_len {d : Int × Int} (h : 1024 ≤ isq (d.1 * d.1 + d.2 * d.2)) : (axV d).1 * (axV d).1 + (axV d).2 * (axV d).2 ≤ 1054729 := by
  unfold axV
  split
  · simp
  · unfold nrm
    have u := (Vcm.unit_len h).2
    simp only
    generalize flr (d.1 * 1024) (isq (d.1 * d.1 + d.2 * d.2)) = x at *
    generalize flr (d.2 * 1024) (isq (d.1 * d.1 + d.2 * d.2)) = y at *
    have px := Vcm.mul_self_nonneg x
    have py := Vcm.mul_self_nonneg y
    have s := (isq_spec (n := x * x + y * y) (by omega)).2
    have n := isq_nonneg (x * x + y * y)
    generalize isq (x * x + y * y) = k at *
    have := sq_le (a := k + 1) (b := 1027) (by omega) (by omega)
    omega

/-- The point and its four neighbours. -/
def armV : Nat → Int × Int
  | 0 => (0, 0)
  | 1 => (4096, 0)
  | 2 => (-4096, 0)
  | 3 => (0, 4096)
  | _ => (0, -4096)
def Mid (s : Sp) (q c : Int × Int) : Prop := ∀ j, j < 5 → s.ins (c.1 + (armV j).1 - q.1, c.2 + (armV j).2 - q.2) = true

theorem flr_up {x y k : Int} (h : x ≤ y + 1024 * k) : flr x 1024 ≤ flr y 1024 + k := by
  have := flr_mono h
  rwa [flr_shift] at this
theorem mid_circ {r : Int} {q c : Int × Int} (hm : Mid (.c r) q c) : (c.1 - q.1) * (c.1 - q.1) + (c.2 - q.2) * (c.2 - q.2) + 16777216 ≤ r * r := by
  have h1 : (c.1 + 4096 - q.1) * (c.1 + 4096 - q.1) + (c.2 + 0 - q.2) * (c.2 + 0 - q.2) ≤ r * r := of_decide_eq_true (hm 1 (by omega))
  have h2 : (c.1 + -4096 - q.1) * (c.1 + -4096 - q.1) + (c.2 + 0 - q.2) * (c.2 + 0 - q.2) ≤ r * r := of_decide_eq_true (hm 2 (by omega))
  have e1 : (c.1 + 4096 - q.1) * (c.1 + 4096 - q.1) + (c.2 + 0 - q.2) * (c.2 + 0 - q.2) = ((c.1 - q.1) * (c.1 - q.1) + (c.2 - q.2) * (c.2 - q.2)) + 8192 * (c.1 - q.1) + 16777216 := by grind
  have e2 : (c.1 + -4096 - q.1) * (c.1 + -4096 - q.1) + (c.2 + 0 - q.2) * (c.2 + 0 - q.2) = ((c.1 - q.1) * (c.1 - q.1) + (c.2 - q.2) * (c.2 - q.2)) - 8192 * (c.1 - q.1) + 16777216 := by grind
  omega
theorem mid_big {r : Int} {q c : Int × Int} (hr : 0 ≤ r) (hm : Mid (.c r) q c) : 4096 ≤ r := by
  have h := mid_circ hm
  have n1 := Vcm.mul_self_nonneg (c.1 - q.1)
  have n2 := Vcm.mul_self_nonneg (c.2 - q.2)
  rcases Int.lt_or_le r 4096 with h1 | h1
  · have := sq_lt hr h1; omega
  · exact h1
theorem circ_far {r d0 d1 a0 a1 : Int} (h1 : 4096 ≤ r) (h2 : r ≤ 32768) (hd : d0 * d0 + d1 * d1 + 16777216 ≤ r * r) (ha : a0 * a0 + a1 * a1 ≤ 1054729) :
    -(1024 * (r - 100)) ≤ d0 * a0 + d1 * a1 ∧ d0 * a0 + d1 * a1 ≤ 1024 * (r - 100) := by
  refine abs_of_sq (by omega) ?_
  have e1 : (d0 * a0 + d1 * a1) * (d0 * a0 + d1 * a1) + (d0 * a1 - d1 * a0) * (d0 * a1 - d1 * a0) = (d0 * d0 + d1 * d1) * (a0 * a0 + a1 * a1) := by grind
  have n0 := Vcm.mul_self_nonneg (d0 * a1 - d1 * a0)
  have n1 := Vcm.mul_self_nonneg d0
  have n2 := Vcm.mul_self_nonneg d1
  have n3 := Vcm.mul_self_nonneg a0
  have n4 := Vcm.mul_self_nonneg a1
  have e2 : d0 * d0 + d1 * d1 ≤ (r - 256) * (r - 256) := by
    have : (r - 256) * (r - 256) = r * r - 512 * r + 65536 := by grind
    omega
  have e3 : (d0 * d0 + d1 * d1) * (a0 * a0 + a1 * a1) ≤ ((r - 256) * (r - 256)) * 1054729 := Int.mul_le_mul e2 ha (by omega) (Vcm.mul_self_nonneg _)
  have e4 : ((r - 256) * (r - 256)) * 1054729 = (1027 * (r - 256)) * (1027 * (r - 256)) := by grind
  have e5 : (1027 * (r - 256)) * (1027 * (r - 256)) ≤ 1024 * (r - 100) * (1024 * (r - 100)) := sq_le (by omega) (by omega)
  omega
section
variable {w : World} {s t : Sp}
/-- The common point lies strictly within the shape's projection. -/
theorem Sh.inner (h : Sh w s) {q c a : Int × Int} (hm : Mid s q c) (ha : ¬ (a.1 = 0 ∧ a.2 = 0)) (hl : s.n = 0 → a.1 * a.1 + a.2 * a.2 ≤ 1054729) :
    s.pl q.1 q.2 a.1 a.2 < flr (c.1 * a.1 + c.2 * a.2) 1024 ∧ flr (c.1 * a.1 + c.2 * a.2) 1024 < s.ph q.1 q.2 a.1 a.2 := by
  cases s with
  | c r =>
    obtain ⟨r1, r2⟩ := h
    have hb := mid_big (by omega) hm
    have hd := circ_far hb r2 (mid_circ hm) (hl rfl)
    have e : (c.1 - q.1) * a.1 + (c.2 - q.2) * a.2 = (c.1 * a.1 + c.2 * a.2) - (q.1 * a.1 + q.2 * a.2) := by grind
    rw [e] at hd
    have u := flr_up (x := q.1 * a.1 + q.2 * a.2) (y := c.1 * a.1 + c.2 * a.2) (k := r - 100) (by omega)
    have v := flr_up (x := c.1 * a.1 + c.2 * a.2) (y := q.1 * a.1 + q.2 * a.2) (k := r - 100) (by omega)
    simp only [Sp.pl, Sp.ph]
    omega
  | p g cap vs =>
    have hn : (Sp.p g cap vs).n = 0 → a.1 * a.1 + a.2 * a.2 ≤ 1048576 := fun e => by
      have h3 : 3 ≤ vs.length := h.2.lo
      have h4 : vs.length = 0 := e
      omega
    have hj : ∀ j, j < 5 → (Sp.p g cap vs).pl q.1 q.2 a.1 a.2 ≤ flr (c.1 * a.1 + c.2 * a.2 + ((armV j).1 * a.1 + (armV j).2 * a.2)) 1024 ∧ flr (c.1 * a.1 + c.2 * a.2 + ((armV j).1 * a.1 + (armV j).2 * a.2)) 1024 ≤ (Sp.p g cap vs).ph q.1 q.2 a.1 a.2 := fun j hj => by
      have := h.proj_in (hm j hj) q.1 q.2 a.1 a.2 hn
      rwa [show q.1 + (c.1 + (armV j).1 - q.1) = c.1 + (armV j).1 by omega, show q.2 + (c.2 + (armV j).2 - q.2) = c.2 + (armV j).2 by omega,
        show (c.1 + (armV j).1) * a.1 + (c.2 + (armV j).2) * a.2 = c.1 * a.1 + c.2 * a.2 + ((armV j).1 * a.1 + (armV j).2 * a.2) by grind] at this
    have h1 := hj 1 (by omega)
    have h2 := hj 2 (by omega)
    have h3 := hj 3 (by omega)
    have h4 := hj 4 (by omega)
    simp only [armV] at h1 h2 h3 h4
    rw [show (4096 : Int) * a.1 + 0 * a.2 = 1024 * (4 * a.1) by omega, flr_shift] at h1
    rw [show (-4096 : Int) * a.1 + 0 * a.2 = 1024 * (-4 * a.1) by omega, flr_shift] at h2
    rw [show (0 : Int) * a.1 + 4096 * a.2 = 1024 * (4 * a.2) by omega, flr_shift] at h3
    rw [show (0 : Int) * a.1 + -4096 * a.2 = 1024 * (-4 * a.2) by omega, flr_shift] at h4
    omega
theorem depth_pos {p q a : Int × Int} (h1 : s.pl p.1 p.2 a.1 a.2 < s.ph p.1 p.2 a.1 a.2) (h2 : t.pl q.1 q.2 a.1 a.2 < t.ph q.1 q.2 a.1 a.2) (h3 : s.pl p.1 p.2 a.1 a.2 < t.ph q.1 q.2 a.1 a.2) (h4 : t.pl q.1 q.2 a.1 a.2 < s.ph p.1 p.2 a.1 a.2) :
    0 < depthV s t p q a := by unfold depthV; omega
theorem depth_mid (hs : Sh w s) (ht : Sh w t) {p q c a : Int × Int} (ms : Mid s p c) (mt : Mid t q c) (ha : ¬ (a.1 = 0 ∧ a.2 = 0)) (hl : s.n = 0 ∨ t.n = 0 → a.1 * a.1 + a.2 * a.2 ≤ 1054729) : 0 < depthV s t p q a := by
  have h1 := hs.inner ms ha fun e => hl (.inl e)
  have h2 := ht.inner mt ha fun e => hl (.inr e)
  exact depth_pos (by omega) (by omega) (by omega) (by omega)
theorem short_comp {d0 d1 : Int} (h : isq (d0 * d0 + d1 * d1) < 1024) : (-1024 ≤ d0 ∧ d0 ≤ 1024) ∧ (-1024 ≤ d1 ∧ d1 ≤ 1024) := by
  have n1 := Vcm.mul_self_nonneg d0
  have n2 := Vcm.mul_self_nonneg d1
  have s := (isq_spec (n := d0 * d0 + d1 * d1) (by omega)).2
  have n := isq_nonneg (d0 * d0 + d1 * d1)
  generalize isq (d0 * d0 + d1 * d1) = k at *
  have := sq_le (a := k + 1) (b := 1024) (by omega) (by omega)
  exact ⟨abs_of_sq (by omega) (by omega), abs_of_sq (by omega) (by omega)⟩
theorem near_flr {x0 x1 d0 d1 a0 a1 : Int} (hd : (-1024 ≤ d0 ∧ d0 ≤ 1024) ∧ (-1024 ≤ d1 ∧ d1 ≤ 1024)) (ha : (-1024 ≤ a0 ∧ a0 ≤ 1024) ∧ (-1024 ≤ a1 ∧ a1 ≤ 1024)) :
    flr ((x0 + d0) * a0 + (x1 + d1) * a1) 1024 ≤ flr (x0 * a0 + x1 * a1) 1024 + 2048 ∧ flr (x0 * a0 + x1 * a1) 1024 ≤ flr ((x0 + d0) * a0 + (x1 + d1) * a1) 1024 + 2048 := by
  have p0 := prod_bd (a := d0) (b := a0) (A := 1024) (B := 1024) (by omega) (by omega) hd.1.1 hd.1.2 ha.1.1 ha.1.2
  have p1 := prod_bd (a := d1) (b := a1) (A := 1024) (B := 1024) (by omega) (by omega) hd.2.1 hd.2.2 ha.2.1 ha.2.2
  have e : (x0 + d0) * a0 + (x1 + d1) * a1 = (x0 * a0 + x1 * a1) + (d0 * a0 + d1 * a1) := by grind
  rw [e]
  exact ⟨flr_up (by omega), flr_up (by omega)⟩
theorem corner_in {g cap : Nat} {vs : List (Int × Int)} (hG : Gen vs) (q c a : Int × Int) :
    (Sp.p g cap vs).pl q.1 q.2 a.1 a.2 ≤ flr ((c.1 + (corner vs q c).1) * a.1 + (c.2 + (corner vs q c).2) * a.2) 1024 ∧ flr ((c.1 + (corner vs q c).1) * a.1 + (c.2 + (corner vs q c).2) * a.2) 1024 ≤ (Sp.p g cap vs).ph q.1 q.2 a.1 a.2 := by
  have hl := hG.lo
  have hn : nearI vs q c < vs.length := by
    have : nearI vs q c ≤ vs.length - 1 := bst_le _ _
    omega
  have u := le_hi (dotV q.1 q.2 a.1 a.2) (vs := vs) vs.length (Nat.le_refl _) _ hn
  have v := lo_le (dotV q.1 q.2 a.1 a.2) (vs := vs) vs.length (Nat.le_refl _) _ hn
  have e : flr ((c.1 + (corner vs q c).1) * a.1 + (c.2 + (corner vs q c).2) * a.2) 1024 = dotV q.1 q.2 a.1 a.2 (at' vs (nearI vs q c)) := by
    unfold corner dotV
    simp only
    rw [show c.1 + (q.1 + (at' vs (nearI vs q c)).1 - c.1) = q.1 + (at' vs (nearI vs q c)).1 by omega, show c.2 + (q.2 + (at' vs (nearI vs q c)).2 - c.2) = q.2 + (at' vs (nearI vs q c)).2 by omega]
  rw [e]
  exact ⟨v, u⟩
/-- Every edge is long. -/
def Far (s : Sp) : Prop := ∀ i, i < s.n → 1024 ≤ isq ((edgeD s.vs i).1 * (edgeD s.vs i).1 + (edgeD s.vs i).2 * (edgeD s.vs i).2)
theorem far_of {x y : Int} (h : ¬ max (max x (-x)) (max y (-y)) < 1024) : 1024 ≤ isq (y * y + (-x) * (-x)) := by
  have nx := Vcm.mul_self_nonneg x
  have ny := Vcm.mul_self_nonneg y
  have ex : (-x) * (-x) = x * x := Int.neg_mul_neg x x
  have : (1048576 : Int) ≤ x * x ∨ (1048576 : Int) ≤ y * y := by
    rcases (by omega : (1024 ≤ x ∨ x ≤ -1024) ∨ (1024 ≤ y ∨ y ≤ -1024)) with (h | h) | (h | h)
    · left; have := sq_le (a := 1024) (b := x) (by omega) h; omega
    · left; have := sq_le (a := 1024) (b := -x) (by omega) (by omega); omega
    · right; have := sq_le (a := 1024) (b := y) (by omega) h; omega
    · right; have := sq_le (a := 1024) (b := -y) (by omega) (by omega); rw [Int.neg_mul_neg] at this; omega
  have h2 := isq_mono (a := 1048576) (b := y * y + (-x) * (-x)) (by omega)
  rwa [show (1048576 : Int) = 1024 * 1024 from rfl, isq_sq (by omega)] at h2
theorem short_last (hs : Sh w s) (ht : Sh w t) {p q c : Int × Int} (ms : Mid s p c) (mt : Mid t q c) (hst : s.n = 0 ∨ t.n = 0) (hd : isq ((lastD s t p q).1 * (lastD s t p q).1 + (lastD s t p q).2 * (lastD s t p q).2) < 1024) :
    0 < depthV s t p q (axV (lastD s t p q)) := by
  have hc := short_comp hd
  have hA := axV_bd (lastD s t p q)
  have hN := axV_ne (lastD s t p q)
  generalize axV (lastD s t p q) = a at *
  cases s with
  | c r =>
    have b1 := mid_big (by have := hs.1; omega) ms
    cases t with
    | c r' =>
      have b2 := mid_big (by have := ht.1; omega) mt
      have hf := near_flr (x0 := p.1) (x1 := p.2) (a0 := a.1) (a1 := a.2) (show (-1024 ≤ q.1 - p.1 ∧ q.1 - p.1 ≤ 1024) ∧ (-1024 ≤ q.2 - p.2 ∧ q.2 - p.2 ≤ 1024) from hc) hA
      rw [show p.1 + (q.1 - p.1) = q.1 by omega, show p.2 + (q.2 - p.2) = q.2 by omega] at hf
      refine depth_pos ?_ ?_ ?_ ?_ <;> (simp only [Sp.pl, Sp.ph]; omega)
    | p g cap vs =>
      have hin := ht.inner mt hN fun e => absurd (show vs.length = 0 from e) (by have := ht.2.lo; omega)
      have hf := near_flr (x0 := p.1) (x1 := p.2) (a0 := a.1) (a1 := a.2) (show (-1024 ≤ (corner vs q p).1 ∧ (corner vs q p).1 ≤ 1024) ∧ (-1024 ≤ (corner vs q p).2 ∧ (corner vs q p).2 ≤ 1024) from hc) hA
      have hv := corner_in (g := g) (cap := cap) ht.2 q p a
      generalize flr ((p.1 + (corner vs q p).1) * a.1 + (p.2 + (corner vs q p).2) * a.2) 1024 = V at *
      refine depth_pos ?_ ?_ ?_ ?_
      · simp only [Sp.pl, Sp.ph]; omega
      · omega
      · simp only [Sp.pl] at *; omega
      · simp only [Sp.ph] at *; omega
  | p g cap vs =>
    have hz : t.n = 0 := by
      rcases hst with h | h
      · exact absurd (show vs.length = 0 from h) (by have := hs.2.lo; omega)
      · exact h
    obtain ⟨r', rfl⟩ := ht.none hz
    have b2 := mid_big (by have := ht.1; omega) mt
    have hin := hs.inner ms hN fun e => absurd (show vs.length = 0 from e) (by have := hs.2.lo; omega)
    have hf := near_flr (x0 := q.1) (x1 := q.2) (a0 := a.1) (a1 := a.2) (show (-1024 ≤ (corner vs p q).1 ∧ (corner vs p q).1 ≤ 1024) ∧ (-1024 ≤ (corner vs p q).2 ∧ (corner vs p q).2 ≤ 1024) from hc) hA
    have hv := corner_in (g := g) (cap := cap) hs.2 p q a
    generalize flr ((q.1 + (corner vs p q).1) * a.1 + (q.2 + (corner vs p q).2) * a.2) 1024 = V at *
    refine depth_pos ?_ ?_ ?_ ?_
    · omega
    · simp only [Sp.pl, Sp.ph]; omega
    · simp only [Sp.ph] at *; omega
    · simp only [Sp.pl] at *; omega
theorem meets_hit (hs : Sh w s) (ht : Sh w t) {p q c : Int × Int} (ms : Mid s p c) (mt : Mid t q c) (fs : Far s) (ft : Far t) : Hit s t p q := by
  refine ⟨?_, ?_⟩
  · have h1 := hs.ins_in (ms 0 (by omega))
    have h2 := ht.ins_in (mt 0 (by omega))
    simp only [armV] at h1 h2
    unfold Bo.Ov bxS
    simp only
    exact ⟨by omega, by omega, by omega, by omega⟩
  · rintro ⟨k, hk, hd⟩
    have hp : 0 < dpt s t p q k := by
      unfold dpt axisV
      by_cases hb : s.n = 0 ∨ t.n = 0
      · by_cases hL : 1024 ≤ isq ((dirV s t p q k).1 * (dirV s t p q k).1 + (dirV s t p q k).2 * (dirV s t p q k).2)
        · exact depth_mid hs ht ms mt (axV_ne _) fun _ => axV_len hL
        · by_cases h1 : k < s.n
          · exact absurd (fs k h1) (by unfold dirV at hL; rwa [if_pos h1] at hL)
          · by_cases h2 : k < s.n + t.n
            · exact absurd (ft (k - s.n) (by omega)) (by unfold dirV at hL; rwa [if_neg h1, if_pos h2] at hL)
            · have e : dirV s t p q k = lastD s t p q := by unfold dirV; rw [if_neg h1, if_neg h2]
              rw [e] at hL ⊢
              exact short_last hs ht ms mt hb (by omega)
      · exact depth_mid hs ht ms mt (axV_ne _) fun h => absurd h hb
    omega
end
end Go.Proofs.Ytfbgghkkgmgnjaa
