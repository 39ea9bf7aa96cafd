/- Package unionfind: partitions of the numbers below k as labels, and the plain facts that the laws of stage 8 ask. Written before the package landed: nothing here speaks of its code. -/
import Derived.Test.YtalglkeabppabaaRows
namespace Go.Proofs.Ytalglkeabppabaa
namespace Uf
set_option linter.unusedSimpArgs false
set_option linter.unusedVariables false

def inB (k : Nat) (a : Int) : Bool := decide (0 ≤ a) && decide (a < k)
def sameF (k : Nat) (f : Nat → Int) (a b : Int) : Bool := inB k a && inB k b && decide (f a.toNat = f b.toNat)
/-- May the sets of a and b be merged: both in range, and different? -/
def canU (k : Nat) (f : Nat → Int) (a b : Int) : Bool := inB k a && inB k b && !decide (f a.toNat = f b.toNat)
/-- The labels behind a merge that may be. -/
def mrg (f : Nat → Int) (a b : Nat) : Nat → Int := fun i => if f i = f b then f a else f i
def uniF (k : Nat) (f : Nat → Int) (a b : Int) : Nat → Int := if canU k f a b = true then mrg f a.toNat b.toNat else f
def isHead (f : Nat → Int) (i : Nat) : Bool := (List.range i).all fun j => !decide (f j = f i)
def heads (k : Nat) (f : Nat → Int) : List Nat := (List.range k).filter (isHead f)
def cls (k : Nat) (f : Nat → Int) (i : Nat) : List Nat := (List.range k).filter fun j => decide (f j = f i)
def grps (k : Nat) (f : Nat → Int) : List (List Nat) := (heads k f).map (cls k f)
def idL : Nat → Int := fun i => (i : Int)
def playF (k : Nat) (f : Nat → Int) (E : List (Int × Int)) : Nat → Int := E.foldl (fun f e => uniF k f e.1 e.2) f
def isl (k : Nat) (E : List (Int × Int)) : List (List Nat) := grps k (playF k idL E)

theorem inB_iff {k : Nat} {a : Int} : inB k a = true ↔ 0 ≤ a ∧ a < k := by simp [inB]
theorem inB_lt {k : Nat} {a : Int} (h : inB k a = true) : a.toNat < k := by rw [inB_iff] at h; omega
theorem canU_iff {k : Nat} {f : Nat → Int} {a b : Int} : canU k f a b = true ↔ inB k a = true ∧ inB k b = true ∧ f a.toNat ≠ f b.toNat := by
  simp [canU, and_assoc]
theorem sameF_iff {k : Nat} {f : Nat → Int} {a b : Int} : sameF k f a b = true ↔ inB k a = true ∧ inB k b = true ∧ f a.toNat = f b.toNat := by
  simp [sameF, and_assoc]
theorem isHead_iff {f : Nat → Int} {i : Nat} : isHead f i = true ↔ ∀ j, j < i → f j ≠ f i := by
  simp [isHead]
theorem mem_heads {k : Nat} {f : Nat → Int} {i : Nat} : i ∈ heads k f ↔ i < k ∧ ∀ j, j < i → f j ≠ f i := by
  simp only [heads, List.mem_filter, List.mem_range, isHead_iff]
theorem mem_cls {k : Nat} {f : Nat → Int} {i j : Nat} : j ∈ cls k f i ↔ j < k ∧ f j = f i := by
  simp [cls]

/-! ## The groups hang on the relation alone -/
def Ker (k : Nat) (f g : Nat → Int) : Prop := ∀ i j, i < k → j < k → (f i = f j ↔ g i = g j)
theorem Ker.refl (k : Nat) (f : Nat → Int) : Ker k f f := fun _ _ _ _ => Iff.rfl
theorem Ker.symm {k : Nat} {f g : Nat → Int} (h : Ker k f g) : Ker k g f := fun i j hi hj => (h i j hi hj).symm
theorem Ker.trans {k : Nat} {f g l : Nat → Int} (h : Ker k f g) (h' : Ker k g l) : Ker k f l := fun i j hi hj => (h i j hi hj).trans (h' i j hi hj)
theorem heads_ker {k : Nat} {f g : Nat → Int} (h : Ker k f g) : heads k f = heads k g := by
  unfold heads
  apply List.filter_congr
  intro i hi
  have hi' := List.mem_range.1 hi
  rw [Bool.eq_iff_iff, isHead_iff, isHead_iff]
  exact ⟨fun H j hj e => H j hj ((h j i (by omega) hi').2 e), fun H j hj e => H j hj ((h j i (by omega) hi').1 e)⟩
theorem cls_ker {k : Nat} {f g : Nat → Int} (h : Ker k f g) {i : Nat} (hi : i < k) : cls k f i = cls k g i := by
  unfold cls
  apply List.filter_congr
  intro j hj
  have hj' := List.mem_range.1 hj
  rw [Bool.eq_iff_iff, decide_eq_true_iff, decide_eq_true_iff]
  exact h j i hj' hi
theorem grps_ker {k : Nat} {f g : Nat → Int} (h : Ker k f g) : grps k f = grps k g := by
  unfold grps
  rw [heads_ker h]
  apply List.map_congr_left
  intro i hi
  exact cls_ker h (mem_heads.1 hi).1
theorem sameF_ker {k : Nat} {f g : Nat → Int} (h : Ker k f g) (a b : Int) : sameF k f a b = sameF k g a b := by
  rw [Bool.eq_iff_iff, sameF_iff, sameF_iff]
  constructor
  · rintro ⟨h1, h2, h3⟩; exact ⟨h1, h2, (h _ _ (inB_lt h1) (inB_lt h2)).1 h3⟩
  · rintro ⟨h1, h2, h3⟩; exact ⟨h1, h2, (h _ _ (inB_lt h1) (inB_lt h2)).2 h3⟩
theorem canU_ker {k : Nat} {f g : Nat → Int} (h : Ker k f g) (a b : Int) : canU k f a b = canU k g a b := by
  rw [Bool.eq_iff_iff, canU_iff, canU_iff]
  constructor
  · rintro ⟨h1, h2, h3⟩; exact ⟨h1, h2, fun e => h3 ((h _ _ (inB_lt h1) (inB_lt h2)).2 e)⟩
  · rintro ⟨h1, h2, h3⟩; exact ⟨h1, h2, fun e => h3 ((h _ _ (inB_lt h1) (inB_lt h2)).1 e)⟩

/-! ## A merge -/
theorem mrg_iff {f : Nat → Int} {a b : Nat} (i j : Nat) : mrg f a b i = mrg f a b j ↔ f i = f j ∨ (f i = f a ∧ f j = f b) ∨ (f i = f b ∧ f j = f a) := by
  unfold mrg
  by_cases h1 : f i = f b <;> by_cases h2 : f j = f b <;> simp [h1, h2]
  all_goals omega
theorem mrg_keep {f : Nat → Int} {a b i j : Nat} (h : f i = f j) : mrg f a b i = mrg f a b j := (mrg_iff i j).2 (.inl h)
theorem mrg_ends (f : Nat → Int) (a b : Nat) : mrg f a b a = mrg f a b b := (mrg_iff a b).2 (.inr (.inl ⟨rfl, rfl⟩))
theorem mrg_ker {k : Nat} {f g : Nat → Int} (h : Ker k f g) {a b : Nat} (ha : a < k) (hb : b < k) : Ker k (mrg f a b) (mrg g a b) := fun i j hi hj => by
  rw [mrg_iff, mrg_iff, h i j hi hj, h i a hi ha, h j b hj hb, h i b hi hb, h j a hj ha]
theorem uniF_keep {k : Nat} {f : Nat → Int} {a b : Int} {i j : Nat} (h : f i = f j) : uniF k f a b i = uniF k f a b j := by
  unfold uniF
  split
  · exact mrg_keep h
  · exact h
theorem uniF_ker {k : Nat} {f g : Nat → Int} (h : Ker k f g) (a b : Int) : Ker k (uniF k f a b) (uniF k g a b) := by
  unfold uniF
  rw [canU_ker h]
  split
  · rename_i hc
    rw [canU_iff] at hc
    exact mrg_ker h (inB_lt hc.1) (inB_lt hc.2.1)
  · exact h
theorem playF_ker {k : Nat} : ∀ (E : List (Int × Int)) {f g : Nat → Int}, Ker k f g → Ker k (playF k f E) (playF k g E)
  | [], _, _, h => h
  | e :: E, f, g, h => playF_ker E (uniF_ker h e.1 e.2)
theorem playF_keep {k : Nat} : ∀ (E : List (Int × Int)) {f : Nat → Int} {i j : Nat}, f i = f j → playF k f E i = playF k f E j
  | [], _, _, _, h => h
  | e :: E, f, i, j, h => playF_keep E (uniF_keep h)
theorem uniF_ends {k : Nat} {f : Nat → Int} {a b : Int} (ha : inB k a = true) (hb : inB k b = true) : uniF k f a b a.toNat = uniF k f a b b.toNat := by
  unfold uniF
  split
  · exact mrg_ends _ _ _
  · rename_i h
    rw [canU_iff] at h
    by_cases e : f a.toNat = f b.toNat
    · exact e
    · exact absurd ⟨ha, hb, e⟩ h
/-- Behind all merges both ends of each are in one set. -/
theorem playF_ends {k : Nat} : ∀ (E : List (Int × Int)) {f : Nat → Int} {a b : Int}, (a, b) ∈ E → inB k a = true → inB k b = true → playF k f E a.toNat = playF k f E b.toNat
  | e :: E, f, a, b, h, ha, hb => by
    rcases List.mem_cons.1 h with rfl | h
    · exact playF_keep E (uniF_ends ha hb)
    · exact playF_ends E h ha hb

/-! ## Connected -/
inductive Conn (k : Nat) (E : List (Int × Int)) : Nat → Nat → Prop
  | refl (i : Nat) : Conn k E i i
  | edge (a b : Int) (h : (a, b) ∈ E) (ha : inB k a = true) (hb : inB k b = true) : Conn k E a.toNat b.toNat
  | symm {i j : Nat} (h : Conn k E i j) : Conn k E j i
  | trans {i j l : Nat} (h : Conn k E i j) (h' : Conn k E j l) : Conn k E i l
theorem Conn.mono {k : Nat} {E E' : List (Int × Int)} (hE : ∀ a b, (a, b) ∈ E → (a, b) ∈ E' ∨ (b, a) ∈ E') {i j : Nat} (h : Conn k E i j) : Conn k E' i j := by
  induction h with
  | refl i => exact .refl i
  | edge a b h ha hb =>
    rcases hE a b h with h | h
    · exact .edge a b h ha hb
    · exact .symm (.edge b a h hb ha)
  | symm _ ih => exact .symm ih
  | trans _ _ ih ih' => exact .trans ih ih'
theorem Conn.left {k : Nat} {E : List (Int × Int)} {i j : Nat} (h : Conn k E i j) (E' : List (Int × Int)) : Conn k (E ++ E') i j :=
  h.mono fun a b hab => .inl (List.mem_append_left _ hab)
theorem uni_conn {k : Nat} {f : Nat → Int} {D : List (Int × Int)} (H : ∀ i j, f i = f j ↔ Conn k D i j) (a b : Int) (i j : Nat) : uniF k f a b i = uniF k f a b j ↔ Conn k (D ++ [(a, b)]) i j := by
  constructor
  · unfold uniF
    split
    · rename_i hc
      rw [canU_iff] at hc
      have e : Conn k (D ++ [(a, b)]) a.toNat b.toNat := .edge a b (List.mem_append_right _ (List.mem_singleton.2 rfl)) hc.1 hc.2.1
      rw [mrg_iff]
      rintro (h | ⟨h1, h2⟩ | ⟨h1, h2⟩)
      · exact ((H _ _).1 h).left _
      · exact (((H _ _).1 h1).left _).trans (e.trans (((H _ _).1 h2).left _).symm)
      · exact (((H _ _).1 h1).left _).trans (e.symm.trans (((H _ _).1 h2).left _).symm)
    · intro h
      exact ((H _ _).1 h).left _
  · intro h
    induction h with
    | refl i => rfl
    | edge a' b' h ha hb =>
      rcases List.mem_append.1 h with h | h
      · exact uniF_keep ((H _ _).2 (.edge a' b' h ha hb))
      · obtain ⟨rfl, rfl⟩ : a' = a ∧ b' = b := by simpa using h
        exact uniF_ends ha hb
    | symm _ ih => exact ih.symm
    | trans _ _ ih ih' => exact ih.trans ih'
theorem play_conn_from {k : Nat} : ∀ (E D : List (Int × Int)) {f : Nat → Int}, (∀ i j, f i = f j ↔ Conn k D i j) → ∀ i j, playF k f E i = playF k f E j ↔ Conn k (D ++ E) i j
  | [], D, f, H, i, j => by rw [List.append_nil]; exact H i j
  | e :: E, D, f, H, i, j => by
    have := play_conn_from E (D ++ [e]) (f := uniF k f e.1 e.2) (fun i j => uni_conn H e.1 e.2 i j) i j
    rwa [List.append_assoc, List.singleton_append] at this
theorem conn_nil {k : Nat} {i j : Nat} (h : Conn k [] i j) : i = j := by
  induction h with
  | refl i => rfl
  | edge a b h ha hb => cases h
  | symm _ ih => exact ih.symm
  | trans _ _ ih ih' => exact ih.trans ih'
/-- Two numbers are in one set if and only if a path of edges connects them. -/
theorem play_conn (k : Nat) (E : List (Int × Int)) (i j : Nat) : playF k idL E i = playF k idL E j ↔ Conn k E i j := by
  have := play_conn_from (k := k) E [] (f := idL) (fun i j => ⟨fun h => by
    obtain rfl : i = j := by unfold idL at h; omega
    exact .refl _, fun h => by rw [conn_nil h]⟩) i j
  rwa [List.nil_append] at this
theorem isl_same {k : Nat} {E E' : List (Int × Int)} (h : ∀ a b, (a, b) ∈ E → (a, b) ∈ E' ∨ (b, a) ∈ E') (h' : ∀ a b, (a, b) ∈ E' → (a, b) ∈ E ∨ (b, a) ∈ E) : isl k E = isl k E' :=
  grps_ker fun i j _ _ => by rw [play_conn, play_conn]; exact ⟨fun c => c.mono h, fun c => c.mono h'⟩
end Uf
end Go.Proofs.Ytalglkeabppabaa
