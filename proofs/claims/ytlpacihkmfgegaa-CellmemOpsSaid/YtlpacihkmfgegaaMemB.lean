/- Package cellmem: operations made of numbers, as plain data; what a law's loops over them ask. Nothing here speaks of its code. -/
import Derived.Test.YtlpacihkmfgegaaMem
import Derived.Test.YtlpacihkmfgegaaFixed
namespace Go.Proofs.Ytlpacihkmfgegaa
namespace Cm
set_option linter.unusedSimpArgs false
set_option linter.unusedVariables false

/-! ## Operations made of numbers -/
/-- What to do: 0 Set, 1 Undo, 2 Discard, 3 Changed; n from 0 on. -/
def opDo (n : Int) : Int := if n % 16 = 0 ∨ n % 16 = 1 then 1 else if n % 16 = 2 then 2 else if n % 16 = 3 ∨ n % 16 = 4 then 3 else 0
def opN (p : Int) (n : Int) : Int := if n % 16 = 0 ∨ n % 16 = 1 then p - n / 16 % 5 else if n % 16 = 2 then p - n / 16 % 7 else if n % 16 = 3 ∨ n % 16 = 4 then p + 1 - n / 16 % 8 else n / 16 % 8 - 1
def opV (n : Int) : Int := n / 128 % 9 - 4
def num (Z : Nat → Int) (i : Nat) : Int := arnd (Z i) 1000000
/-- How many of the first i are Sets. -/
def atN (Z : Nat → Int) : Nat → Nat
  | 0 => 0
  | i + 1 => atN Z i + (if opDo (num Z i) = 0 then 1 else 0)
structure Op3 where
  d : Int
  n : Int
  v : Int
def opAt (Z : Nat → Int) (i : Nat) : Op3 := ⟨opDo (num Z i), opN (atN Z i) (num Z i), opV (num Z i)⟩
def opsN (Z : Nat → Int) (k : Nat) : List Op3 := (List.range k).map (opAt Z)
theorem opsN_succ (Z : Nat → Int) (k : Nat) : opsN Z (k + 1) = opsN Z k ++ [opAt Z k] := by unfold opsN; rw [List.range_succ, List.map_append]; rfl
theorem opsN_len (Z : Nat → Int) (k : Nat) : (opsN Z k).length = k := by unfold opsN; simp
theorem opsN_at (Z : Nat → Int) {k i : Nat} (h : i < k) : (opsN Z k)[i]? = some (opAt Z i) := by unfold opsN; simp [h]
theorem num_bd (Z : Nat → Int) (i : Nat) : 0 ≤ num Z i ∧ num Z i < 1000000 := arnd_bd _ (by omega)
theorem atN_le (Z : Nat → Int) : ∀ i, atN Z i ≤ i
  | 0 => Nat.le_refl _
  | i + 1 => by
    have := atN_le Z i
    unfold atN
    split <;> omega
theorem opDo_cases (n : Int) : opDo n = 0 ∨ opDo n = 1 ∨ opDo n = 2 ∨ opDo n = 3 := by
  unfold opDo
  split
  · exact .inr (.inl rfl)
  · split
    · exact .inr (.inr (.inl rfl))
    · split
      · exact .inr (.inr (.inr rfl))
      · exact .inl rfl
theorem opN_bd {p n : Int} (hn : 0 ≤ n) : (p - 7 ≤ opN p n ∨ -1 ≤ opN p n) ∧ (opN p n ≤ p + 1 ∨ opN p n ≤ 6) := by
  unfold opN
  split
  · omega
  · split
    · omega
    · split <;> omega
theorem opV_bd {n : Int} (hn : 0 ≤ n) : -4 ≤ opV n ∧ opV n ≤ 4 := by unfold opV; omega

/-! ## A memory that is worked on -/
/-- An operation: the memory behind it, what Changed lists, the error. -/
def Me.app (S : Me) (o : Op3) : Me := if o.d = 1 then S.undo o.n else if o.d = 2 then S.discard o.n else if o.d = 3 then S else S.set o.n o.v
def Me.lst (S : Me) (o : Op3) : List Nat := if o.d = 3 then S.changed o.n else []
def Me.eno (S : Me) (o : Op3) : Int := if o.d = 1 ∨ o.d = 2 ∨ o.d = 3 then S.err o.n else 0
def Me.apps (S : Me) (l : List Op3) : Me := l.foldl Me.app S
theorem Me.apps_snoc (S : Me) (l : List Op3) (o : Op3) : S.apps (l ++ [o]) = (S.apps l).app o := by unfold Me.apps; rw [List.foldl_append]; rfl
theorem Me.app_len (S : Me) (o : Op3) : (S.app o).cs.length = S.cs.length := by
  unfold Me.app
  split
  · exact S.undo_len _
  · split
    · rw [S.discard_cs]
    · split
      · rfl
      · exact S.set_len _ _
theorem Me.app_pos (S : Me) (o : Op3) : (S.app o).pos ≤ S.pos + 1 := by
  unfold Me.app
  split
  · by_cases h : S.err o.n = 0
    · obtain ⟨h1, _, _, h4, _⟩ := Me.undo_pos h; omega
    · rw [Me.undo_bad h]; omega
  · split
    · by_cases h : S.err o.n = 0
      · obtain ⟨h1, _⟩ := Me.discard_pos h; omega
      · rw [Me.discard_bad h]; omega
    · split
      · omega
      · unfold Me.set
        split
        · unfold Me.pos; simp only [List.length_append, List.length_cons, List.length_nil]; omega
        · omega
theorem Me.apps_len (S : Me) : ∀ l : List Op3, (S.apps l).cs.length = S.cs.length := by
  intro l
  induction l generalizing S with
  | nil => rfl
  | cons o l ih => exact (ih (S.app o)).trans (S.app_len o)
theorem Me.apps_pos (S : Me) : ∀ l : List Op3, (S.apps l).pos ≤ S.pos + l.length := by
  intro l
  induction l generalizing S with
  | nil => exact Nat.le_refl _
  | cons o l ih =>
    have h1 := ih (S.app o)
    have h2 := S.app_pos o
    show ((S.app o).apps l).pos ≤ S.pos + (l.length + 1)
    omega

/-! ## Sets in range -/
theorem sets_pos (S : Me) : ∀ l : List (Int × Int), (S.sets l).pos ≤ S.pos + l.length ∧ (S.sets l).cs.length = S.cs.length ∧ (S.sets l).base = S.base := by
  intro l
  induction l generalizing S with
  | nil => exact ⟨Nat.le_refl _, rfl, rfl⟩
  | cons p l ih =>
    obtain ⟨h1, h2, h3⟩ := ih (S.set p.1 p.2)
    have h4 := S.set_len p.1 p.2
    have h5 := S.set_base p.1 p.2
    have h6 : (S.set p.1 p.2).pos ≤ S.pos + 1 := by
      unfold Me.set
      split
      · unfold Me.pos; simp only [List.length_append, List.length_cons, List.length_nil]; omega
      · omega
    refine ⟨?_, h2.trans h4, h3.trans h5⟩
    show ((S.set p.1 p.2).sets l).pos ≤ S.pos + (l.length + 1)
    omega
/-- The cells that Sets name, all of them there. -/
theorem sets_cells (S : Me) : ∀ (l : List (Int × Int)) {T : Me} {es : List (Nat × Int)}, Since S T es → (∀ p, p ∈ l → cin S.cs.length p.1 = true) → ∃ es', Since S (T.sets l) es' ∧ es'.map Prod.fst = es.map Prod.fst ++ l.map fun p => p.1.toNat
  | [], T, es, h, _ => ⟨es, h, by simp⟩
  | p :: l, T, es, h, hl => by
    obtain ⟨e1, h1, h2⟩ := h.set p.1 p.2
    rw [if_pos (hl p (List.mem_cons_self ..))] at h2
    obtain ⟨e2, h3, h4⟩ := sets_cells S l h1 (fun q hq => hl q (List.mem_cons_of_mem _ hq))
    exact ⟨e2, h3, by rw [h4, List.map_append, h2]; simp⟩
/-- Sets made of numbers: cells 0 to 5. -/
def moreN (Z : Nat → Int) (k : Nat) : List (Int × Int) := (List.range k).map fun i => (arnd (Z (i * 2)) 6, Z (i * 2 + 1))
theorem moreN_succ (Z : Nat → Int) (k : Nat) : moreN Z (k + 1) = moreN Z k ++ [(arnd (Z (k * 2)) 6, Z (k * 2 + 1))] := by unfold moreN; rw [List.range_succ, List.map_append]; rfl
theorem moreN_len (Z : Nat → Int) (k : Nat) : (moreN Z k).length = k := by unfold moreN; simp
theorem moreN_in {Z : Nat → Int} {k n : Nat} (hn : n = 6) {p : Int × Int} (h : p ∈ moreN Z k) : cin n p.1 = true := by
  unfold moreN at h
  obtain ⟨i, _, rfl⟩ := List.mem_map.1 h
  have := arnd_bd (Z (i * 2)) (m := 6) (by omega)
  exact cin_iff.2 ⟨by simp only; omega, by simp only; omega⟩
/-- Six cells: the first as given, then noughts. -/
def six (Z : Nat → Int) (l : Nat) : List Int := (List.range 6).map fun i => if i < l then Z i else 0
theorem six_len (Z : Nat → Int) (l : Nat) : (six Z l).length = 6 := by unfold six; simp
end Cm
end Go.Proofs.Ytlpacihkmfgegaa
