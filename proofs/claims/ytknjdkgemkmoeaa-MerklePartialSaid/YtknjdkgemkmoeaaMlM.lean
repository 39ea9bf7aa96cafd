/- The laws' helpers of merkle: numbers in their range, nil rows. -/
import Derived.Test.YtknjdkgemkmoeaaMlL
import Derived.Test.YtknjdkgemkmoeaaMkF
namespace Go.Proofs.Ytknjdkgemkmoeaa
open Go.ChangeShapes Go.WideShapes Go.ChangeAt Go.RowKit Go.Shelf
set_option linter.unusedSimpArgs false
set_option linter.unusedVariables false

theorem own_nil {w : World} {B : Nat} {e : TypeId} {v : Value} {n : Nat} {xs : List Value} (h : w.ownsRow B e 1 v n xs) : ∀ m c, v = .slice none m c → v = .slice none 0 0 := by
  intro m c hv
  rcases h.2 with ⟨h1, _⟩ | ⟨g, cap, cur, h1, _⟩
  · exact h1
  · rw [h1] at hv; cases hv
theorem own_after {W w' : World} {o : Obj} {e : TypeId} {v : Value} {n : Nat} {xs : List Value} (h : w'.ownsRow (W.alloc o).drew.heap.size e 1 v n xs) : v.ownBlock ≠ some W.heap.size := fun e1 => by
  have h1 := (h.lt _ e1).1
  have h2 : (W.alloc o).drew.heap.size = W.heap.size + 1 := World.size_alloc W o
  omega
def All64 (C : List Int) : Prop := ∀ x ∈ C, I64 x
theorem All64.take {C : List Int} (h : All64 C) (n : Nat) : All64 (C.take n) := fun x hx => h x (List.mem_of_mem_take hx)
theorem All64.at {C : List Int} (h : All64 C) {i : Nat} {x : Int} (hi : C[i]? = some x) : I64 x := h x (List.mem_of_getElem? hi)
theorem All64.set {C : List Int} (h : All64 C) (i : Nat) {v : Int} (hv : I64 v) : All64 (C.set i v) := fun x hx => by
  rcases List.mem_or_eq_of_mem_set hx with h1 | h1
  · exact h x h1
  · rw [h1]; exact hv
theorem ints_64 {w : World} {v : Value} {Z : Nat → Int} {l : Nat} (h : IntsAt w v 1 Z l) : All64 ((List.range l).map Z) := by
  obtain ⟨a, cap, rfl, h1, h2, hZ, h3⟩ := h
  intro x hx
  obtain ⟨i, hi, rfl⟩ := List.mem_map.1 hx
  have hil := List.mem_range.1 hi
  exact lit_i64 (hZ i)
theorem prL_few {C : List Int} (h : C.length ≤ 1000) (i : Int) : (prL C i).length ≤ 16 := by
  unfold prL
  split
  · rw [proofW_len]; exact ht_small (by omega)
  · simp
theorem prI_64 {C : List Int} (h : C.length ≤ 1000) (i : Int) : I64 (prI C i) := by
  unfold prI I64
  split <;> omega
theorem prV_64 {C : List Int} (h : All64 C) (i : Int) : I64 (prV C i) := by
  unfold prV
  split
  · rename_i hi
    rw [List.getD_eq_getElem?_getD]
    cases hx : C[i.toNat]? with
    | none => show I64 0; unfold I64; omega
    | some x => exact h.at hx
  · unfold I64; omega
theorem arnd_64 (n : Int) {m : Int} (h : 0 < m) (h2 : m ≤ 100000) : I64 (arnd n m) := by
  have := arnd_bd n h
  unfold I64; omega
theorem bk_small {l : List W64} {h : Int} (h0 : 0 ≤ h) (h1 : h < 2 + (l.length : Int)) : bk l h = h.toNat := by
  unfold bk arnd
  rw [if_neg (by omega), Int.emod_eq_of_lt h0 h1]
theorem word_add_ne (x : W64) {d : Int} (h1 : 1 ≤ d) (h2 : d ≤ 1000000) : x + BitVec.ofInt 64 d ≠ x := by
  intro e
  have e2 : (x + BitVec.ofInt 64 d).toNat = x.toNat := by rw [e]
  rw [BitVec.toNat_add, BitVec.toNat_ofInt] at e2
  have := x.isLt
  omega
/-- Another value, or another hash, does not verify. -/
theorem sound_bent {root : W64} {n : Nat} {i v : Int} {l : List W64} {h : Int} (by_ : Int) (hv : verW root n i v l = true) (h64 : I64 v) (h1 : 1 ≤ h) (h2 : h < 2 + (l.length : Int)) : verW root n (bI i l h by_) (bV v l h by_) (bL l h by_) = false := by
  have hk := bk_small (l := l) (by omega) h2
  have hd := bd_bd by_
  unfold bI bV bL
  rw [hk, if_neg (by omega)]
  by_cases e : h.toNat = 1
  · rw [if_pos e, if_neg (by omega)]
    refine ver_val hv h64 ?_ ?_
    · unfold I64 wrap64; omega
    · unfold I64 at h64
      unfold wrap64; omega
  · rw [if_neg e, if_pos (by omega)]
    have ht : h.toNat - 2 < l.length := by omega
    have hg : l[h.toNat - 2]? = some (l.getD (h.toNat - 2) 0) := by rw [List.getD_eq_getElem?_getD, List.getElem?_eq_getElem ht]; rfl
    exact ver_one hv hg (word_add_ne _ hd.1 hd.2)
/-- The cells of a law. -/
theorem cells11 {w : World} {s : Value} {Z : Nat → Int} {l : Nat} (H : IntsAt w s 1 Z l) (N : ∀ n c, s = .slice none n c → s = .slice none 0 0) : ∃ M : List Int, M.length ≤ 20 ∧ All64 M ∧ ∀ W, Below w.heap.size w W →
    Calls Try.prog 12 #[s] W fun e w' => ∃ a c, e = .returned (.slice a M.length c) ∧ IL w' (.slice a M.length c) M ∧ (a = none → M.length = 0 ∧ c = 0) ∧ Below W.heap.size W w' := by
  refine ⟨((List.range l).map Z).take 20, by rw [List.length_take]; omega, (ints_64 H).take 20, fun W hW => ?_⟩
  refine (refCells_any s _ W ((IntsAt.il H).carry hW) N).mono ?_
  rintro e w' ⟨⟨v, rfl, ho⟩, hb⟩
  have hn := own_nil ho
  have hI := IL.owned ho
  obtain ⟨a, c, rfl⟩ := own_slice ho
  refine ⟨a, c, rfl, hI, fun e => ?_, hb⟩
  subst e
  have := hn _ _ rfl
  simp only [Value.slice.injEq, true_and] at this
  exact this
end Go.Proofs.Ytknjdkgemkmoeaa
