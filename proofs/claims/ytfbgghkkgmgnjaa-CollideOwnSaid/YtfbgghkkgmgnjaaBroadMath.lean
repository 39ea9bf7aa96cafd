/- Mathematics of overlapping boxes: boxes, their pairs in order, end points, what a sweep has found after each end point. -/
import Derived.Below
namespace Go.Proofs.Ytfbgghkkgmgnjaa
namespace Bo

structure Bx where
  x0 : Int
  y0 : Int
  x1 : Int
  y1 : Int
  deriving DecidableEq, Inhabited
def bx0 : Bx := ⟨0, 0, 0, 0⟩
def at' (bs : List Bx) (i : Nat) : Bx := bs.getD i bx0
def Bx.cells (b : Bx) : List Value := [.int .i64 b.x0, .int .i64 b.y0, .int .i64 b.x1, .int .i64 b.y1]
def Bx.val (b : Bx) : Value := .agg #[.int .i64 b.x0, .int .i64 b.y0, .int .i64 b.x1, .int .i64 b.y1]
def flatB : List Bx → List Value
  | [] => []
  | b :: l => .int .i64 b.x0 :: .int .i64 b.y0 :: .int .i64 b.x1 :: .int .i64 b.y1 :: flatB l

/-- Two boxes have a point in common (Overlap's own test). -/
def Ov (a b : Bx) : Prop := a.x0 ≤ b.x1 ∧ b.x0 ≤ a.x1 ∧ a.y0 ≤ b.y1 ∧ b.y0 ≤ a.y1
instance (a b : Bx) : Decidable (Ov a b) := by unfold Ov; infer_instance
def ov (a b : Bx) : Bool := decide (Ov a b)
theorem ov_true {a b : Bx} (h : Ov a b) : ov a b = true := decide_eq_true h
theorem ov_false {a b : Bx} (h : ¬ Ov a b) : ov a b = false := decide_eq_false h
theorem ov_iff {a b : Bx} : ov a b = true ↔ Ov a b := by simp [ov]
theorem Ov.symm {a b : Bx} (h : Ov a b) : Ov b a := ⟨h.2.1, h.1, h.2.2.2, h.2.2.1⟩
theorem ov_comm (a b : Bx) : ov a b = ov b a := by
  by_cases h : Ov a b
  · rw [ov_true h, ov_true h.symm]
  · rw [ov_false h, ov_false fun k => h k.symm]

theorem flatB_length : ∀ bs : List Bx, (flatB bs).length = bs.length * 4
  | [] => rfl
  | b :: l => by simp [flatB, flatB_length l]; omega
theorem flatB_append : ∀ a b : List Bx, flatB (a ++ b) = flatB a ++ flatB b
  | [], _ => rfl
  | x :: a, b => by simp [flatB, flatB_append a b]
theorem flatB_get : ∀ (bs : List Bx) (i : Nat), i < bs.length →
    (flatB bs)[i * 4]? = some (.int .i64 (at' bs i).x0) ∧ (flatB bs)[i * 4 + 1]? = some (.int .i64 (at' bs i).y0) ∧ (flatB bs)[i * 4 + 2]? = some (.int .i64 (at' bs i).x1) ∧ (flatB bs)[i * 4 + 3]? = some (.int .i64 (at' bs i).y1)
  | [], i, h => by simp at h
  | b :: l, 0, _ => by simp [flatB, at']
  | b :: l, i + 1, h => by
    have := flatB_get l i (by simpa using h)
    have e : (i + 1) * 4 = i * 4 + 4 := by omega
    rw [e]
    simpa [flatB, at'] using this
theorem at_append_left {a b : List Bx} {i : Nat} (h : i < a.length) : at' (a ++ b) i = at' a i := by
  simp [at', List.getD, List.getElem?_append_left h]
theorem at_append_here {a : List Bx} {x : Bx} : at' (a ++ [x]) a.length = x := by simp [at', List.getD]
theorem at_take {a : List Bx} {i k : Nat} (h : i < k) : at' (a.take k) i = at' a i := by
  simp [at', List.getD, h]

/-! ### pairs -/
def PLt (p q : Nat × Nat) : Prop := p.1 < q.1 ∨ (p.1 = q.1 ∧ p.2 < q.2)
theorem PLt.irrefl (p : Nat × Nat) : ¬ PLt p p := by unfold PLt; omega
theorem PLt.trans {p q r : Nat × Nat} (h : PLt p q) (k : PLt q r) : PLt p r := by unfold PLt at *; omega
theorem PLt.total {p q : Nat × Nat} (h : ¬ PLt p q) (k : ¬ PLt q p) : p = q := by
  unfold PLt at *
  have h1 : p.1 = q.1 := by omega
  have h2 : p.2 = q.2 := by omega
  cases p; cases q; simp_all
/-- Two lists that rise strictly and have the same members are one. -/
theorem eq_of_rising : ∀ {l₁ l₂ : List (Nat × Nat)}, l₁.Pairwise PLt → l₂.Pairwise PLt → (∀ p, p ∈ l₁ ↔ p ∈ l₂) → l₁ = l₂
  | [], [], _, _, _ => rfl
  | [], b :: l, _, _, h => by have := (h b).2 (by simp); simp at this
  | a :: l, [], _, _, h => by have := (h a).1 (by simp); simp at this
  | a :: l, b :: m, h1, h2, h => by
    obtain ⟨ha, hl⟩ := List.pairwise_cons.1 h1
    obtain ⟨hb, hm⟩ := List.pairwise_cons.1 h2
    have e : a = b := by
      have h3 := (h a).1 (by simp)
      have h4 := (h b).2 (by simp)
      rcases List.mem_cons.1 h3 with h3 | h3
      · exact h3
      · rcases List.mem_cons.1 h4 with h4 | h4
        · exact h4.symm
        · exact absurd ((ha _ h4).trans (hb _ h3)) (PLt.irrefl _)
    subst e
    rw [eq_of_rising hl hm fun p => ?_]
    constructor
    · intro hp
      rcases List.mem_cons.1 ((h p).1 (List.mem_cons_of_mem _ hp)) with e | e
      · subst e; exact absurd (ha _ hp) (PLt.irrefl _)
      · exact e
    · intro hp
      rcases List.mem_cons.1 ((h p).2 (List.mem_cons_of_mem _ hp)) with e | e
      · subst e; exact absurd (hb _ hp) (PLt.irrefl _)
      · exact e

/-- The pairs (i, t) with i < t < k of boxes that overlap. -/
def rowP (bs : List Bx) (i : Nat) : Nat → List (Nat × Nat)
  | 0 => []
  | k + 1 => rowP bs i k ++ if i < k ∧ Ov (at' bs i) (at' bs k) then [(i, k)] else []
def prs (bs : List Bx) : Nat → List (Nat × Nat)
  | 0 => []
  | i + 1 => prs bs i ++ rowP bs i bs.length
def pairs (bs : List Bx) : List (Nat × Nat) := prs bs bs.length

theorem rowP_yes {bs : List Bx} {i k : Nat} (h : i < k) (ho : Ov (at' bs i) (at' bs k)) : rowP bs i (k + 1) = rowP bs i k ++ [(i, k)] := by
  rw [rowP, if_pos ⟨h, ho⟩]
theorem rowP_no {bs : List Bx} {i k : Nat} (ho : ¬ Ov (at' bs i) (at' bs k)) : rowP bs i (k + 1) = rowP bs i k := by
  rw [rowP, if_neg fun h => ho h.2, List.append_nil]
theorem rowP_start (bs : List Bx) (i : Nat) : ∀ k, k ≤ i + 1 → rowP bs i k = []
  | 0, _ => rfl
  | k + 1, h => by rw [rowP, rowP_start bs i k (by omega), if_neg (by omega)]; rfl
theorem mem_rowP {bs : List Bx} {i : Nat} : ∀ {k : Nat} {p : Nat × Nat}, p ∈ rowP bs i k ↔ p.1 = i ∧ i < p.2 ∧ p.2 < k ∧ Ov (at' bs i) (at' bs p.2)
  | 0, p => by simp [rowP]
  | k + 1, p => by
    rw [rowP, List.mem_append, mem_rowP]
    by_cases h : i < k ∧ Ov (at' bs i) (at' bs k)
    · rw [if_pos h, List.mem_singleton]
      constructor
      · rintro (h1 | h1)
        · exact ⟨h1.1, h1.2.1, by omega, h1.2.2.2⟩
        · subst h1; exact ⟨rfl, h.1, by simp, h.2⟩
      · rintro ⟨h1, h2, h3, h4⟩
        by_cases e : p.2 = k
        · exact Or.inr (by cases p; simp_all)
        · exact Or.inl ⟨h1, h2, by omega, h4⟩
    · rw [if_neg h]
      constructor
      · rintro (h1 | h1)
        · exact ⟨h1.1, h1.2.1, by omega, h1.2.2.2⟩
        · cases h1
      · rintro ⟨h1, h2, h3, h4⟩
        by_cases e : p.2 = k
        · rw [e] at h2 h4; exact absurd ⟨h2, h4⟩ h
        · exact Or.inl ⟨h1, h2, by omega, h4⟩
theorem mem_prs {bs : List Bx} : ∀ {n : Nat} {p : Nat × Nat}, p ∈ prs bs n ↔ p.1 < n ∧ p.1 < p.2 ∧ p.2 < bs.length ∧ Ov (at' bs p.1) (at' bs p.2)
  | 0, p => by simp [prs]
  | n + 1, p => by
    rw [prs, List.mem_append, mem_prs, mem_rowP]
    constructor
    · rintro (⟨h1, h2⟩ | ⟨h1, h2⟩)
      · exact ⟨by omega, h2⟩
      · rw [h1]; exact ⟨by omega, h2⟩
    · rintro ⟨h1, h2⟩
      by_cases e : p.1 = n
      · refine Or.inr ⟨e, ?_⟩; rw [e] at h2; exact h2
      · exact Or.inl ⟨by omega, h2⟩
theorem mem_pairs {bs : List Bx} {p : Nat × Nat} : p ∈ pairs bs ↔ p.1 < p.2 ∧ p.2 < bs.length ∧ Ov (at' bs p.1) (at' bs p.2) := by
  unfold pairs; rw [mem_prs]
  constructor
  · rintro ⟨_, h⟩; exact h
  · intro h; exact ⟨by omega, h⟩
theorem rowP_rising (bs : List Bx) (i : Nat) : ∀ k, (rowP bs i k).Pairwise PLt
  | 0 => List.Pairwise.nil
  | k + 1 => by
    rw [rowP, List.pairwise_append]
    refine ⟨rowP_rising bs i k, by split <;> simp, fun a ha b hb => ?_⟩
    have h1 := mem_rowP.1 ha
    split at hb
    · rw [List.mem_singleton] at hb; subst hb; exact Or.inr ⟨h1.1, h1.2.2.1⟩
    · cases hb
theorem prs_rising (bs : List Bx) : ∀ n, (prs bs n).Pairwise PLt
  | 0 => List.Pairwise.nil
  | n + 1 => by
    rw [prs, List.pairwise_append]
    refine ⟨prs_rising bs n, rowP_rising bs n _, fun a ha b hb => ?_⟩
    have h1 := mem_prs.1 ha
    have h2 := mem_rowP.1 hb
    exact Or.inl (by omega)
theorem pairs_rising (bs : List Bx) : (pairs bs).Pairwise PLt := prs_rising bs _

theorem rowP_len (bs : List Bx) (i : Nat) : ∀ k, (rowP bs i k).length ≤ k
  | 0 => Nat.le_refl _
  | k + 1 => by have := rowP_len bs i k; rw [rowP]; split <;> simp <;> omega
theorem prs_len (bs : List Bx) : ∀ n, (prs bs n).length ≤ n * bs.length
  | 0 => by simp [prs]
  | n + 1 => by
    have := prs_len bs n
    have h2 := rowP_len bs n bs.length
    rw [prs, List.length_append, Nat.add_mul, Nat.one_mul]; omega
theorem nodup_lt_len : ∀ (m : Nat) (l : List Nat), l.Nodup → (∀ x ∈ l, x < m) → l.length ≤ m
  | 0, [], _, _ => Nat.le_refl _
  | 0, x :: l, _, h => by have := h x (by simp); omega
  | m + 1, l, hn, h => by
    by_cases hm : m ∈ l
    · have h1 := nodup_lt_len m (l.erase m) (hn.erase m) fun x hx => by
        have h2 := h x (List.mem_of_mem_erase hx)
        have h3 : x ≠ m := fun e => by subst e; exact (List.Nodup.not_mem_erase hn) hx
        omega
      have h2 := List.length_erase_of_mem hm
      omega
    · have := nodup_lt_len m l hn fun x hx => by
        have h2 := h x hx
        have h3 : x ≠ m := fun e => by subst e; exact hm hx
        omega
      omega
/-- A list without repetition whose members are pairs below n is not long. -/
theorem nodup_len {n : Nat} {l : List (Nat × Nat)} (hn : l.Nodup) (h : ∀ p ∈ l, p.1 < n ∧ p.2 < n) : l.length ≤ n * n := by
  have hinj : (l.map fun p => p.1 * n + p.2).Nodup := by
    rw [List.nodup_iff_pairwise_ne, List.pairwise_map]
    refine List.Pairwise.imp_of_mem (fun {a b} ha hb hne e => hne ?_) (List.nodup_iff_pairwise_ne.1 hn)
    obtain ⟨a1, a2⟩ := h a ha
    obtain ⟨b1, b2⟩ := h b hb
    have e1 : a.1 = b.1 := by
      have q1 : (a.1 * n + a.2) / n = a.1 := by rw [Nat.mul_comm, Nat.mul_add_div (by omega), Nat.div_eq_of_lt a2]; omega
      have q2 : (b.1 * n + b.2) / n = b.1 := by rw [Nat.mul_comm, Nat.mul_add_div (by omega), Nat.div_eq_of_lt b2]; omega
      rw [← q1, e, q2]
    rw [e1] at e
    have e2 : a.2 = b.2 := by omega
    cases a; cases b; simp_all
  have hlt : ∀ x ∈ l.map (fun p => p.1 * n + p.2), x < n * n := by
    intro x hx
    obtain ⟨p, hp, rfl⟩ := List.mem_map.1 hx
    obtain ⟨h1, h2⟩ := h p hp
    have : (p.1 + 1) * n ≤ n * n := Nat.mul_le_mul_right _ h1
    rw [Nat.add_mul] at this; omega
  simpa using nodup_lt_len _ _ hinj hlt

/-! ### end points -/
structure Pt where
  x : Int
  box : Nat
  right : Bool
  deriving DecidableEq, Inhabited
def Pt.cells (p : Pt) : List Value := [.int .i64 p.x, .int .i64 p.box, .bool p.right]
def lef (bs : List Bx) (i : Nat) : Pt := ⟨(at' bs i).x0, i, false⟩
def rig (bs : List Bx) (i : Nat) : Pt := ⟨(at' bs i).x1, i, true⟩
def pts (bs : List Bx) : Nat → List Pt
  | 0 => []
  | n + 1 => pts bs n ++ [lef bs n, rig bs n]
theorem pts_length (bs : List Bx) : ∀ n, (pts bs n).length = 2 * n
  | 0 => rfl
  | n + 1 => by rw [pts, List.length_append, pts_length bs n]; simp; omega
theorem mem_pts {bs : List Bx} : ∀ {n : Nat} {p : Pt}, p ∈ pts bs n ↔ p.box < n ∧ (p = lef bs p.box ∨ p = rig bs p.box)
  | 0, p => by simp [pts]
  | n + 1, p => by
    rw [pts, List.mem_append, mem_pts]
    constructor
    · rintro (⟨h1, h2⟩ | h)
      · exact ⟨by omega, h2⟩
      · simp only [List.mem_cons, List.not_mem_nil, or_false] at h
        rcases h with rfl | rfl
        · exact ⟨by simp [lef], Or.inl rfl⟩
        · exact ⟨by simp [rig], Or.inr rfl⟩
    · rintro ⟨h1, h2⟩
      by_cases e : p.box = n
      · refine Or.inr ?_; rw [e] at h2; simpa using h2
      · exact Or.inl ⟨by omega, h2⟩
theorem pts_nodup (bs : List Bx) : ∀ n, (pts bs n).Nodup
  | 0 => List.nodup_nil
  | n + 1 => by
    rw [pts, List.nodup_append]
    refine ⟨pts_nodup bs n, by simp [lef, rig], fun a ha b hb e => ?_⟩
    subst e
    have h1 := (mem_pts.1 ha).1
    simp only [List.mem_cons, List.not_mem_nil, or_false] at hb
    rcases hb with h | h <;> rw [h] at h1 <;> simp [lef, rig] at h1
/-- The order of the sweep: by x, a left end ahead of a right end. -/
def cmpI (a b : Int) : Int := if a < b then -1 else if b < a then 1 else 0
def cmpPt (p q : Pt) : Int := if p.x ≠ q.x then cmpI p.x q.x else if p.right = q.right then 0 else if p.right then 1 else -1
theorem cmpPt_lt (p q : Pt) : cmpPt p q < 0 ↔ p.x < q.x ∨ (p.x = q.x ∧ p.right = false ∧ q.right = true) := by
  unfold cmpPt cmpI
  cases hp : p.right <;> cases hq : q.right <;> (repeat' split) <;> simp_all <;> omega
theorem cmpPt_bd (p q : Pt) : -1 ≤ cmpPt p q ∧ cmpPt p q ≤ 1 := by
  unfold cmpPt cmpI
  (repeat' split) <;> omega

/-- What the sweep has found behind a list of end points: the pairs whose left ends it has met. -/
def Met (bs : List Bx) (pre : List Pt) (i : Nat) : Prop := lef bs i ∈ pre
structure Swept (bs : List Bx) (pre : List Pt) (ps : List (Nat × Nat)) : Prop where
  nodup : ps.Nodup
  mem : ∀ p, p ∈ ps ↔ p.1 < p.2 ∧ Met bs pre p.1 ∧ Met bs pre p.2 ∧ Ov (at' bs p.1) (at' bs p.2)
/-- Which boxes may be active, and which must be. -/
structure Active (bs : List Bx) (pre : List Pt) (act : Nat → Prop) : Prop where
  met : ∀ i, act i → Met bs pre i
  all : ∀ i, Met bs pre i → rig bs i ∉ pre → act i

theorem Swept.start (bs : List Bx) : Swept bs [] [] := ⟨List.nodup_nil, fun p => by simp [Met]⟩
theorem Active.start (bs : List Bx) : Active bs [] (fun _ => False) := ⟨fun _ h => h.elim, fun i h => by simp [Met] at h⟩
theorem Met.mono {bs : List Bx} {pre : List Pt} {p : Pt} {i : Nat} (h : Met bs pre i) : Met bs (pre ++ [p]) i := List.mem_append_left _ h
theorem met_right {bs : List Bx} {pre : List Pt} {i j : Nat} : Met bs (pre ++ [rig bs j]) i ↔ Met bs pre i := by
  unfold Met; rw [List.mem_append]
  constructor
  · rintro (h | h)
    · exact h
    · simp [lef, rig] at h
  · exact Or.inl
theorem met_left {bs : List Bx} {pre : List Pt} {i j : Nat} : Met bs (pre ++ [lef bs j]) i ↔ Met bs pre i ∨ i = j := by
  unfold Met; rw [List.mem_append]
  constructor
  · rintro (h | h)
    · exact Or.inl h
    · simp [lef] at h; exact Or.inr h.2
  · rintro (h | h)
    · exact Or.inl h
    · subst h; exact Or.inr (by simp)
theorem Swept.right {bs : List Bx} {pre : List Pt} {ps : List (Nat × Nat)} (h : Swept bs pre ps) (j : Nat) : Swept bs (pre ++ [rig bs j]) ps :=
  ⟨h.nodup, fun p => by rw [h.mem, met_right, met_right]⟩
theorem Active.right {bs : List Bx} {pre : List Pt} {act : Nat → Prop} (h : Active bs pre act) (j : Nat) : Active bs (pre ++ [rig bs j]) (fun i => act i ∧ i ≠ j) :=
  ⟨fun i hi => met_right.2 (h.met i hi.1), fun i hi hn => by
    rw [List.mem_append, not_or] at hn
    refine ⟨h.all i (met_right.1 hi) hn.1, fun e => hn.2 (by subst e; simp)⟩⟩
theorem Active.left {bs : List Bx} {pre : List Pt} {act : Nat → Prop} (h : Active bs pre act) (j : Nat) : Active bs (pre ++ [lef bs j]) (fun i => act i ∨ i = j) :=
  ⟨fun i hi => met_left.2 (hi.imp (h.met i) id), fun i hi hn => by
    rw [List.mem_append, not_or] at hn
    rcases met_left.1 hi with h1 | h1
    · exact Or.inl (h.all i h1 hn.1)
    · exact Or.inr h1⟩

/-- the pair of two numbers, the smaller first -/
def pr (i j : Nat) : Nat × Nat := (min i j, max i j)
/-- While the sweep holds a new box j against the active ones: what has come of the round, 'left' being those still to come. -/
structure Round (bs : List Bx) (pre : List Pt) (act : Nat → Prop) (j : Nat) (left : Nat → Prop) (ps : List (Nat × Nat)) : Prop where
  nodup : ps.Nodup
  mem : ∀ p, p ∈ ps ↔ (p.1 < p.2 ∧ Met bs pre p.1 ∧ Met bs pre p.2 ∧ Ov (at' bs p.1) (at' bs p.2)) ∨ ∃ i, act i ∧ ¬ left i ∧ Ov (at' bs j) (at' bs i) ∧ p = pr i j
theorem Round.start {bs : List Bx} {pre : List Pt} {act : Nat → Prop} {j : Nat} {ps : List (Nat × Nat)} (h : Swept bs pre ps) (left : Nat → Prop) (hl : ∀ i, act i → left i) : Round bs pre act j left ps :=
  ⟨h.nodup, fun p => by
    rw [h.mem]
    constructor
    · exact Or.inl
    · rintro (h1 | ⟨i, h1, h2, _⟩)
      · exact h1
      · exact absurd (hl i h1) h2⟩
theorem Round.skip {bs : List Bx} {pre : List Pt} {act : Nat → Prop} {j : Nat} {left left' : Nat → Prop} {ps : List (Nat × Nat)} (h : Round bs pre act j left ps) {i : Nat} (ho : ¬ Ov (at' bs j) (at' bs i)) (hl : ∀ t, left' t ↔ left t ∧ t ≠ i) : Round bs pre act j left' ps :=
  ⟨h.nodup, fun p => by
    rw [h.mem]
    refine or_congr Iff.rfl ⟨fun ⟨t, h1, h2, h3, h4⟩ => ⟨t, h1, fun k => h2 ((hl t).1 k).1, h3, h4⟩, fun ⟨t, h1, h2, h3, h4⟩ => ⟨t, h1, fun k => h2 ((hl t).2 ⟨k, fun e => ho (e ▸ h3)⟩), h3, h4⟩⟩⟩
theorem pr_inj {i j t : Nat} (h : pr i j = pr t j) : i = t := by
  unfold pr at h
  simp only [Prod.mk.injEq] at h
  omega
theorem Round.hit {bs : List Bx} {pre : List Pt} {act : Nat → Prop} {j : Nat} {left left' : Nat → Prop} {ps : List (Nat × Nat)} (h : Round bs pre act j left ps) {i : Nat} (hi : act i) (hil : left i) (hj : ¬ Met bs pre j)
    (ho : Ov (at' bs j) (at' bs i)) (hl : ∀ t, left' t ↔ left t ∧ t ≠ i) : Round bs pre act j left' (ps ++ [pr i j]) :=
  ⟨by
    rw [List.nodup_append]
    refine ⟨h.nodup, by simp, fun a ha b hb e => ?_⟩
    rw [List.mem_singleton] at hb
    subst hb; subst e
    rcases (h.mem _).1 ha with ⟨_, h1, h2, _⟩ | ⟨t, _, h2, _, h4⟩
    · unfold pr at h1 h2
      rcases Nat.le_total i j with h5 | h5
      · simp only [Nat.max_eq_right h5] at h2; exact hj h2
      · simp only [Nat.min_eq_right h5] at h1; exact hj h1
    · exact h2 (pr_inj h4 ▸ hil), fun p => by
    rw [List.mem_append, h.mem, List.mem_singleton]
    constructor
    · rintro ((h1 | ⟨t, h1, h2, h3, h4⟩) | h1)
      · exact Or.inl h1
      · exact Or.inr ⟨t, h1, fun k => h2 ((hl t).1 k).1, h3, h4⟩
      · exact Or.inr ⟨i, hi, fun k => ((hl i).1 k).2 rfl, ho, h1⟩
    · rintro (h1 | ⟨t, h1, h2, h3, h4⟩)
      · exact Or.inl (Or.inl h1)
      · by_cases e : t = i
        · subst e; exact Or.inr h4
        · exact Or.inl (Or.inr ⟨t, h1, fun k => h2 ((hl t).2 ⟨k, e⟩), h3, h4⟩)⟩
/-- Behind the round: the sweep has met box j, too. 'pre' lies ahead of j's left end in a list that rises. -/
theorem Round.done {bs : List Bx} {pre : List Pt} {act : Nat → Prop} {j : Nat} {left : Nat → Prop} {ps : List (Nat × Nat)} (h : Round bs pre act j left ps) (hA : Active bs pre act) (hl : ∀ i, ¬ left i) (hj : ¬ Met bs pre j)
    (hsort : ∀ q ∈ pre, ¬ cmpPt (lef bs j) q < 0) : Swept bs (pre ++ [lef bs j]) ps :=
  ⟨h.nodup, fun p => by
    have key : ∀ i, Met bs pre i → Ov (at' bs j) (at' bs i) → act i := fun i hm ho => hA.all i hm fun hr => by
      have := hsort _ hr
      rw [cmpPt_lt] at this
      simp only [lef, rig] at this
      have h1 := ho.1
      apply this
      by_cases e : (at' bs j).x0 < (at' bs i).x1
      · exact Or.inl e
      · exact Or.inr ⟨by omega, by simp⟩
    have hne : ∀ i, act i → i ≠ j := fun i hi e => hj (e ▸ hA.met i hi)
    rw [h.mem, met_left, met_left]
    constructor
    · rintro (⟨h1, h2, h3, h4⟩ | ⟨i, h1, _, h3, rfl⟩)
      · exact ⟨h1, Or.inl h2, Or.inl h3, h4⟩
      · have hn := hne i h1
        have hm := hA.met i h1
        unfold pr
        rcases Nat.lt_or_ge i j with h5 | h5
        · rw [Nat.min_eq_left (by omega), Nat.max_eq_right (by omega)]
          exact ⟨h5, Or.inl hm, Or.inr rfl, h3.symm⟩
        · rw [Nat.min_eq_right (by omega), Nat.max_eq_left (by omega)]
          exact ⟨by show j < i; omega, Or.inr rfl, Or.inl hm, h3⟩
    · rintro ⟨h1, h2, h3, h4⟩
      rcases h2 with h2 | h2
      · rcases h3 with h3 | h3
        · exact Or.inl ⟨h1, h2, h3, h4⟩
        · refine Or.inr ⟨p.1, key _ h2 (by rw [← h3]; exact h4.symm), hl _, by rw [← h3]; exact h4.symm, ?_⟩
          unfold pr; rw [← h3, Nat.min_eq_left (by omega), Nat.max_eq_right (by omega)]
      · rcases h3 with h3 | h3
        · refine Or.inr ⟨p.2, key _ h3 (by rw [← h2]; exact h4), hl _, by rw [← h2]; exact h4, ?_⟩
          unfold pr; rw [← h2, Nat.min_eq_right (by omega), Nat.max_eq_left (by omega)]
        · omega⟩
/-- At the end of the sweep. -/
theorem Swept.all {bs : List Bx} {pre : List Pt} {ps : List (Nat × Nat)} (h : Swept bs pre ps) (hp : pre.Perm (pts bs bs.length)) (p : Nat × Nat) : p ∈ ps ↔ p ∈ pairs bs := by
  have hm : ∀ i, Met bs pre i ↔ i < bs.length := fun i => by
    unfold Met; rw [hp.mem_iff, mem_pts]
    constructor
    · intro h; exact h.1
    · intro h; exact ⟨h, Or.inl rfl⟩
  rw [h.mem, mem_pairs, hm, hm]
  constructor
  · rintro ⟨h1, _, h3, h4⟩; exact ⟨h1, h3, h4⟩
  · rintro ⟨h1, h3, h4⟩; exact ⟨h1, by omega, h3, h4⟩
/-- The order of the pairs. -/
def cmpPr (p q : Nat × Nat) : Int := if p.1 < q.1 then -1 else if q.1 < p.1 then 1 else if p.2 < q.2 then -1 else if q.2 < p.2 then 1 else 0
theorem cmpPr_lt (p q : Nat × Nat) : cmpPr p q < 0 ↔ PLt p q := by
  unfold cmpPr PLt; (repeat' split) <;> omega
/-- A permutation of what the sweep has found that does not fall is the list of the pairs. -/
theorem sorted_is {bs : List Bx} {ps l : List (Nat × Nat)} (hn : ps.Nodup) (hm : ∀ p, p ∈ ps ↔ p ∈ pairs bs) (hp : l.Perm ps) (hs : l.Pairwise fun p q => ¬ cmpPr q p < 0) : l = pairs bs := by
  have hnl : l.Nodup := hp.nodup_iff.2 hn
  refine eq_of_rising ?_ (pairs_rising bs) fun p => by rw [hp.mem_iff, hm]
  have h2 := List.nodup_iff_pairwise_ne.1 hnl
  refine (hs.and h2).imp fun {a b} h => ?_
  by_cases k : PLt a b
  · exact k
  · exact absurd (PLt.total k fun q => h.1 ((cmpPr_lt b a).2 q)) h.2
end Bo
end Go.Proofs.Ytfbgghkkgmgnjaa
