/- Mathematics of polygons: the generated ones are convex; the greatest of a linear function over a polygon; turned and turned-round polygons. -/
import Derived.Test.YtknjdkgemkmoeaaShapeF
namespace Go.Proofs.Ytknjdkgemkmoeaa
open Go.ChangeShapes Go.WideShapes Go.ChangeAt Go.RowKit
open Fxm
set_option linter.unusedSimpArgs false
set_option linter.unusedVariables false

def rot (k : Nat) (vs : List (Int × Int)) : List (Int × Int) := vs.drop k ++ vs.take k
theorem rot_length {k : Nat} {vs : List (Int × Int)} (h : k ≤ vs.length) : (rot k vs).length = vs.length := by unfold rot; simp; omega
theorem at_rot {k i : Nat} {vs : List (Int × Int)} (hk : k < vs.length) (hi : i < vs.length) : at' (rot k vs) i = at' vs ((i + k) % vs.length) := by
  unfold at' rot
  rw [List.getD_eq_getElem?_getD, List.getD_eq_getElem?_getD]
  congr 1
  rcases Nat.lt_or_ge i (vs.length - k) with h | h
  · rw [List.getElem?_append_left (by simp; omega), List.getElem?_drop, Nat.mod_eq_of_lt (by omega), Nat.add_comm]
  · have e : (i + k) % vs.length = i + k - vs.length := by
      rw [Nat.mod_eq_sub_mod (by omega), Nat.mod_eq_of_lt (by omega)]
    rw [List.getElem?_append_right (by simp; omega), e, List.length_drop, List.getElem?_take, if_pos (by omega)]
    congr 1
    omega
theorem scaleV_length (s : Int) (vs : List (Int × Int)) : (scaleV s vs).length = vs.length := by simp [scaleV]
theorem at_scale (s : Int) (vs : List (Int × Int)) (i : Nat) : at' (scaleV s vs) i = (s * (at' vs i).1, s * (at' vs i).2) := by
  unfold at' scaleV
  rw [List.getD_eq_getElem?_getD, List.getD_eq_getElem?_getD, List.getElem?_map]
  cases vs[i]? <;> simp
theorem leftV_scale (s : Int) (a b c : Int × Int) : leftV (s * a.1, s * a.2) (s * b.1, s * b.2) (s * c.1, s * c.2) = s * s * leftV a b c := by unfold leftV; grind
theorem pos_mul {a b : Int} (ha : 0 < a) (hb : 0 < b) : 0 < a * b := Int.mul_pos ha hb
theorem edge_scale {s : Int} (hs : 0 < s) {vs : List (Int × Int)} {c : Nat} (h : EdgeOk vs c) : EdgeOk (scaleV s vs) c := by
  have hss := pos_mul hs hs
  refine ⟨?_, fun j hj h1 h2 => ?_⟩
  · rw [at_scale, at_scale, scaleV_length]
    have := leftV_scale s (at' vs c) (at' vs ((c + 1) % vs.length)) (0, 0)
    simp only [Int.mul_zero] at this
    rw [this]
    exact pos_mul hss h.1
  · rw [at_scale, at_scale, at_scale, scaleV_length, leftV_scale]
    rw [scaleV_length] at hj h2
    exact pos_mul hss (h.2 j hj h1 h2)
theorem mod_inj {n a b k : Nat} (ha : a < n) (hb : b < n) (h : (a + k) % n = (b + k) % n) : a = b := by
  have hn : 0 < n := by omega
  have e1 := Nat.div_add_mod (a + k) n
  have e2 := Nat.div_add_mod (b + k) n
  rw [h] at e1
  rcases Nat.lt_trichotomy ((a + k) / n) ((b + k) / n) with hq | hq | hq
  · have : n * ((a + k) / n + 1) ≤ n * ((b + k) / n) := Nat.mul_le_mul_left _ hq
    rw [Nat.mul_add] at this; omega
  · rw [hq] at e1; omega
  · have : n * ((b + k) / n + 1) ≤ n * ((a + k) / n) := Nat.mul_le_mul_left _ hq
    rw [Nat.mul_add] at this; omega
theorem edge_rot {k c : Nat} {vs : List (Int × Int)} (hk : k < vs.length) (hc : c < vs.length) (h : EdgeOk vs ((c + k) % vs.length)) : EdgeOk (rot k vs) c := by
  have hn : 0 < vs.length := by omega
  have hl := rot_length (vs := vs) (Nat.le_of_lt hk)
  have hm : (c + 1) % vs.length < vs.length := Nat.mod_lt _ hn
  have e : ((c + 1) % vs.length + k) % vs.length = ((c + k) % vs.length + 1) % vs.length := by
    rw [Nat.mod_add_mod, Nat.mod_add_mod]; congr 1; omega
  refine ⟨?_, fun j hj h1 h2 => ?_⟩
  · rw [hl, at_rot hk hc, at_rot hk hm, e]; exact h.1
  · rw [hl] at hj h2
    rw [hl, at_rot hk hc, at_rot hk hm, at_rot hk hj, e]
    exact h.2 _ (Nat.mod_lt _ hn) (fun q => h1 (mod_inj hj hc q)) (fun q => h2 (mod_inj hj hm (q.trans e.symm)))
theorem convex_rot {k : Nat} {vs : List (Int × Int)} (hk : k < vs.length) (h : Convex vs) : Convex (rot k vs) := fun c hc => by
  rw [rot_length (Nat.le_of_lt hk)] at hc
  exact edge_rot hk hc (h _ (Nat.mod_lt _ (by omega)))
theorem small_rot {k : Nat} {vs : List (Int × Int)} (hk : k < vs.length) (h : Small vs) : Small (rot k vs) := fun i hi => by
  rw [rot_length (Nat.le_of_lt hk)] at hi
  rw [at_rot hk hi]
  exact h _ (Nat.mod_lt _ (by omega))
instance (vs : List (Int × Int)) (c : Nat) : Decidable (EdgeOk vs c) := by unfold EdgeOk; infer_instance
theorem outl_convex (j : Nat) : Convex (outl j) := by
  have h0 : ∀ j, j < 6 → ∀ c, c < (outl j).length → EdgeOk (outl j) c := by decide
  rcases Nat.lt_or_ge j 5 with h | h
  · exact h0 j (by omega)
  · have : outl j = outl 5 := by
      match j, h with
      | _ + 5, _ => rfl
    rw [this]; exact h0 5 (by omega)
theorem at_mem {vs : List (Int × Int)} {i : Nat} (h : i < vs.length) : at' vs i ∈ vs := by rw [at_eq h]; exact List.getElem_mem h

/-- A generated polygon. -/
structure Gen (vs : List (Int × Int)) : Prop where
  lo : 3 ≤ vs.length
  hi : vs.length ≤ 6
  small : Small vs
  convex : Convex vs
  bd : ∀ i, i < vs.length → (-30000 ≤ (at' vs i).1 ∧ (at' vs i).1 ≤ 30000) ∧ (-30000 ≤ (at' vs i).2 ∧ (at' vs i).2 ≤ 30000)
theorem Gen.rot {k : Nat} {vs : List (Int × Int)} (hk : k < vs.length) (h : Gen vs) : Gen (rot k vs) :=
  ⟨by rw [rot_length (Nat.le_of_lt hk)]; exact h.lo, by rw [rot_length (Nat.le_of_lt hk)]; exact h.hi, small_rot hk h.small, convex_rot hk h.convex, fun i hi => by
    rw [rot_length (Nat.le_of_lt hk)] at hi
    rw [at_rot hk hi]
    exact h.bd _ (Nat.mod_lt _ (by omega))⟩
theorem Made.gen {vs : List (Int × Int)} (h : Made vs) : Gen vs := by
  obtain ⟨j, k, s, hj, s1, s2, hk, rfl⟩ := h
  have hl := outl_len j
  have hb : ∀ i, i < (scaleV s (outl j)).length → (-30000 ≤ (at' (scaleV s (outl j)) i).1 ∧ (at' (scaleV s (outl j)) i).1 ≤ 30000) ∧ (-30000 ≤ (at' (scaleV s (outl j)) i).2 ∧ (at' (scaleV s (outl j)) i).2 ≤ 30000) := fun i hi => by
    rw [scaleV_length] at hi
    rw [at_scale]
    obtain ⟨⟨a1, a2⟩, b1, b2⟩ := outl_bd j _ (at_mem hi)
    exact ⟨outl_prod s1 s2 a1 a2, outl_prod s1 s2 b1 b2⟩
  have hg : Gen (scaleV s (outl j)) := ⟨by rw [scaleV_length]; exact hl.1, by rw [scaleV_length]; exact hl.2, fun i hi => by have := hb i hi; omega, fun c hc => edge_scale (by omega) (outl_convex j c (by rw [scaleV_length] at hc; exact hc)), hb⟩
  exact hg.rot (by rw [scaleV_length]; exact hk)
theorem Gen.valid {vs : List (Int × Int)} (h : Gen vs) : Valid 0 vs := Or.inr ⟨rfl, h.lo, h.hi, h.small, h.convex⟩

/-! ### The least and the greatest -/
theorem lo_le (f : Int × Int → Int) {vs : List (Int × Int)} : ∀ c, c ≤ vs.length → ∀ i, i < c → lo f vs c ≤ f (at' vs i)
  | c + 1, hc, i, hi => by
    rw [lo_succ f (vs := vs) (by omega)]
    rcases Nat.lt_or_ge i c with h | h
    · have := lo_le f (vs := vs) c (by omega) i h; omega
    · obtain rfl : i = c := by omega
      omega
theorem le_hi (f : Int × Int → Int) {vs : List (Int × Int)} : ∀ c, c ≤ vs.length → ∀ i, i < c → f (at' vs i) ≤ hi f vs c
  | c + 1, hc, i, hi' => by
    rw [hi_succ f (vs := vs) (by omega)]
    rcases Nat.lt_or_ge i c with h | h
    · have := le_hi f (vs := vs) c (by omega) i h; omega
    · obtain rfl : i = c := by omega
      omega
theorem lo_ex (f : Int × Int → Int) {vs : List (Int × Int)} : ∀ c, 0 < c → c ≤ vs.length → ∃ i, i < c ∧ lo f vs c = f (at' vs i)
  | 1, _, hc => ⟨0, by omega, lo_one f (by omega)⟩
  | c + 2, _, hc => by
    obtain ⟨i, hi, he⟩ := lo_ex f (vs := vs) (c + 1) (by omega) (by omega)
    rw [lo_succ f (vs := vs) (by omega)]
    rcases Int.le_total (lo f vs (c + 1)) (f (at' vs (c + 1))) with h | h
    · exact ⟨i, by omega, by omega⟩
    · exact ⟨c + 1, by omega, by omega⟩
theorem hi_ex (f : Int × Int → Int) {vs : List (Int × Int)} : ∀ c, 0 < c → c ≤ vs.length → ∃ i, i < c ∧ hi f vs c = f (at' vs i)
  | 1, _, hc => ⟨0, by omega, hi_one f (by omega)⟩
  | c + 2, _, hc => by
    obtain ⟨i, hi', he⟩ := hi_ex f (vs := vs) (c + 1) (by omega) (by omega)
    rw [hi_succ f (vs := vs) (by omega)]
    rcases Int.le_total (hi f vs (c + 1)) (f (at' vs (c + 1))) with h | h
    · exact ⟨c + 1, by omega, by omega⟩
    · exact ⟨i, by omega, by omega⟩
theorem mod_sub {n k : Nat} {i : Nat} (hk : k < n) (hi : i < n) : ∃ j, j < n ∧ (j + k) % n = i := by
  refine ⟨(i + (n - k)) % n, Nat.mod_lt _ (by omega), ?_⟩
  rw [Nat.mod_add_mod, show i + (n - k) + k = i + n by omega, Nat.add_mod_right, Nat.mod_eq_of_lt hi]
theorem lo_rot (f : Int × Int → Int) {k : Nat} {vs : List (Int × Int)} (hk : k < vs.length) : lo f (rot k vs) vs.length = lo f vs vs.length := by
  have hl := rot_length (vs := vs) (Nat.le_of_lt hk)
  obtain ⟨i, hi, he⟩ := lo_ex f (vs := vs) vs.length (by omega) (Nat.le_refl _)
  obtain ⟨i', hi', he'⟩ := lo_ex f (vs := rot k vs) vs.length (by omega) (by omega)
  obtain ⟨j, hj, hjk⟩ := mod_sub hk hi
  have h1 := lo_le f (vs := rot k vs) vs.length (by omega) j hj
  rw [at_rot hk hj, hjk, ← he] at h1
  rw [at_rot hk hi'] at he'
  have h2 := lo_le f (vs := vs) vs.length (Nat.le_refl _) ((i' + k) % vs.length) (Nat.mod_lt _ (by omega))
  omega
theorem hi_rot (f : Int × Int → Int) {k : Nat} {vs : List (Int × Int)} (hk : k < vs.length) : hi f (rot k vs) vs.length = hi f vs vs.length := by
  have hl := rot_length (vs := vs) (Nat.le_of_lt hk)
  obtain ⟨i, hi0, he⟩ := hi_ex f (vs := vs) vs.length (by omega) (Nat.le_refl _)
  obtain ⟨i', hi', he'⟩ := hi_ex f (vs := rot k vs) vs.length (by omega) (by omega)
  obtain ⟨j, hj, hjk⟩ := mod_sub hk hi0
  have h1 := le_hi f (vs := rot k vs) vs.length (by omega) j hj
  rw [at_rot hk hj, hjk, ← he] at h1
  rw [at_rot hk hi'] at he'
  have h2 := le_hi f (vs := vs) vs.length (Nat.le_refl _) ((i' + k) % vs.length) (Nat.mod_lt _ (by omega))
  omega
theorem inside_of {vs : List (Int × Int)} {d : Int × Int} (h : insideB vs d = true) : ∀ i, i < vs.length → 0 ≤ leftV (at' vs i) (at' vs ((i + 1) % vs.length)) d := fun i hi => by
  rcases Int.lt_or_le (leftV (at' vs i) (at' vs ((i + 1) % vs.length)) d) 0 with h' | h'
  · rw [inside_false hi h'] at h; cases h
  · exact h'
theorem bool_iff {a b : Bool} (h : a = true ↔ b = true) : a = b := by cases a <;> cases b <;> simp_all
theorem inside_iff {vs : List (Int × Int)} {d : Int × Int} : insideB vs d = true ↔ ∀ i, i < vs.length → 0 ≤ leftV (at' vs i) (at' vs ((i + 1) % vs.length)) d := ⟨inside_of, inside_true⟩
theorem inside_rot {k : Nat} {vs : List (Int × Int)} (hk : k < vs.length) (d : Int × Int) : insideB (rot k vs) d = insideB vs d := by
  have hl := rot_length (vs := vs) (Nat.le_of_lt hk)
  have hn : 0 < vs.length := by omega
  have e : ∀ c, ((c + 1) % vs.length + k) % vs.length = ((c + k) % vs.length + 1) % vs.length := fun c => by
    rw [Nat.mod_add_mod, Nat.mod_add_mod]; congr 1; omega
  refine bool_iff ?_
  rw [inside_iff, inside_iff]
  constructor
  · intro h i hi
    obtain ⟨j, hj, rfl⟩ := mod_sub hk hi
    have := h j (by omega)
    rwa [hl, at_rot hk hj, at_rot hk (Nat.mod_lt _ hn), e] at this
  · intro h i hi
    rw [hl] at hi
    rw [hl, at_rot hk hi, at_rot hk (Nat.mod_lt _ hn), e]
    exact h _ (Nat.mod_lt _ hn)

/-- A point of a polygon goes no further in any direction than some vertex. -/
theorem support_at {u v w d : Int × Int} {a b : Int} (hC : 0 < leftV v w u) (h1 : 0 ≤ leftV v w d) (h2 : 0 ≤ leftV u v d) (hw : a * w.1 + b * w.2 ≤ a * v.1 + b * v.2) (hu : a * u.1 + b * u.2 ≤ a * v.1 + b * v.2) :
    a * d.1 + b * d.2 ≤ a * v.1 + b * v.2 := by
  have key : leftV v w u * (a * d.1 + b * d.2 - (a * v.1 + b * v.2)) = leftV u v d * (a * w.1 + b * w.2 - (a * v.1 + b * v.2)) + leftV v w d * (a * u.1 + b * u.2 - (a * v.1 + b * v.2)) := by unfold leftV; grind
  have k1 : leftV u v d * (a * w.1 + b * w.2 - (a * v.1 + b * v.2)) ≤ 0 := Int.mul_nonpos_of_nonneg_of_nonpos h2 (by omega)
  have k2 : leftV v w d * (a * u.1 + b * u.2 - (a * v.1 + b * v.2)) ≤ 0 := Int.mul_nonpos_of_nonneg_of_nonpos h1 (by omega)
  rcases Int.lt_or_le 0 (a * d.1 + b * d.2 - (a * v.1 + b * v.2)) with h | h
  · have := pos_mul hC h; omega
  · omega
theorem Gen.support {vs : List (Int × Int)} (hG : Gen vs) {d : Int × Int} (hd : insideB vs d = true) (a b : Int) : ∃ i, i < vs.length ∧ a * d.1 + b * d.2 ≤ a * (at' vs i).1 + b * (at' vs i).2 := by
  have hl := hG.lo
  obtain ⟨i, hi0, he⟩ := hi_ex (fun p => a * p.1 + b * p.2) (vs := vs) vs.length (by omega) (Nat.le_refl _)
  have hm := fun j hj => le_hi (fun p => a * p.1 + b * p.2) (vs := vs) vs.length (Nat.le_refl _) j hj
  obtain ⟨p, hp, hpi⟩ := mod_sub (n := vs.length) (k := 1) (i := i) (by omega) hi0
  have hs : (i + 1) % vs.length < vs.length := Nat.mod_lt _ (by omega)
  have hE := hG.convex i hi0
  have in1 := inside_of hd i hi0
  have in2 := inside_of hd p hp
  rw [hpi] at in2
  have np : p ≠ i := fun e => by
    subst e
    rcases Nat.lt_or_ge (p + 1) vs.length with h | h
    · rw [Nat.mod_eq_of_lt h] at hpi; omega
    · have : p + 1 = vs.length := by omega
      rw [this, Nat.mod_self] at hpi; omega
  have nq : p ≠ (i + 1) % vs.length := fun e => by
    rcases Nat.lt_or_ge (p + 1) vs.length with h | h
    · rw [Nat.mod_eq_of_lt h] at hpi
      rw [← hpi] at e
      rcases Nat.lt_or_ge (p + 1 + 1) vs.length with h' | h'
      · rw [Nat.mod_eq_of_lt h'] at e; omega
      · have : p + 1 + 1 = vs.length := by omega
        rw [this, Nat.mod_self] at e; omega
    · have h0 : p + 1 = vs.length := by omega
      rw [h0, Nat.mod_self] at hpi
      rw [← hpi, Nat.mod_eq_of_lt (by omega)] at e
      omega
  have h1 := hm ((i + 1) % vs.length) hs
  have h2 := hm p hp
  rw [he] at h1 h2
  exact ⟨i, hi0, support_at (hE.2 p hp np nq) in1 in2 h1 h2⟩
/-- The origin and the vertices lie in the polygon; with two points their midpoint. -/
theorem Gen.origin {vs : List (Int × Int)} (hG : Gen vs) : insideB vs (0, 0) = true := inside_true fun i hi => Int.le_of_lt (hG.convex i hi).1
theorem Gen.vertex {vs : List (Int × Int)} (hG : Gen vs) {j : Nat} (hj : j < vs.length) : insideB vs (at' vs j) = true := inside_true fun i hi => by
  by_cases h1 : j = i
  · subst h1; unfold leftV; simp
  · by_cases h2 : j = (i + 1) % vs.length
    · rw [← h2]; unfold leftV
      rw [show ((at' vs j).1 - (at' vs i).1) * ((at' vs j).2 - (at' vs i).2) - ((at' vs j).2 - (at' vs i).2) * ((at' vs j).1 - (at' vs i).1) = 0 by rw [Int.mul_comm]; omega]
      exact Int.le_refl _
    · exact Int.le_of_lt ((hG.convex i hi).2 j hj h1 h2)
theorem leftV_mid (v w p q m : Int × Int) (h1 : 2 * m.1 = p.1 + q.1) (h2 : 2 * m.2 = p.2 + q.2) : 2 * leftV v w m = leftV v w p + leftV v w q := by unfold leftV; grind
theorem inside_mid {vs : List (Int × Int)} {p q m : Int × Int} (h1 : 2 * m.1 = p.1 + q.1) (h2 : 2 * m.2 = p.2 + q.2) (hp : insideB vs p = true) (hq : insideB vs q = true) : insideB vs m = true := inside_true fun i hi => by
  have a := inside_of hp i hi
  have b := inside_of hq i hi
  have c := leftV_mid (at' vs i) (at' vs ((i + 1) % vs.length)) p q m h1 h2
  omega
theorem at_rev {vs : List (Int × Int)} {i : Nat} (hi : i < vs.length) : at' vs.reverse i = at' vs (vs.length - 1 - i) := by
  unfold at'
  rw [List.getD_eq_getElem?_getD, List.getD_eq_getElem?_getD, List.getElem?_reverse hi]
theorem Gen.reverse {vs : List (Int × Int)} (hG : Gen vs) (r : Int) : ¬ Valid r vs.reverse := by
  have hl := hG.lo
  rintro (⟨h, _⟩ | h)
  · simp at h; subst h; simp at hl
  · have hc := (h.2.2.2.2 0 (by simp; omega)).1
    rw [List.length_reverse, at_rev (by omega), Nat.mod_eq_of_lt (by omega), at_rev (by omega)] at hc
    have hd := (hG.convex (vs.length - 2) (by omega)).1
    rw [show vs.length - 2 + 1 = vs.length - 1 by omega, Nat.mod_eq_of_lt (by omega)] at hd
    rw [show vs.length - 1 - 0 = vs.length - 1 by omega, show vs.length - 1 - (0 + 1) = vs.length - 2 by omega] at hc
    generalize at' vs (vs.length - 1) = x at *
    generalize at' vs (vs.length - 2) = y at *
    have : leftV x y (0, 0) = - leftV y x (0, 0) := by unfold leftV; grind
    omega
end Go.Proofs.Ytknjdkgemkmoeaa
