/- Package cellmem: the sort of Changed; distinct numbers of a row that does not fall. -/
import Derived.Test.YtlpacihkmfgegaaCmF
import Derived.Test.YtlpacihkmfgegaaRowK
import Derived.Test.YtlpacihkmfgegaaSort
import Derived.Sort.Grow
import Derived.OwnWalk
namespace Go.Proofs.Ytlpacihkmfgegaa
open Go.ChangeShapes Go.WideShapes Go.ChangeAt Go.RowKit Go.Sort
open Cm
set_option linter.unusedSimpArgs false
set_option linter.unusedVariables false

/-! ## Numbers -/
theorem ext_sorted : ∀ l m : List Nat, l.Pairwise (· < ·) → m.Pairwise (· < ·) → (∀ x, x ∈ l ↔ x ∈ m) → l = m
  | [], [], _, _, _ => rfl
  | [], b :: m, _, _, h => by have := (h b).2 (List.mem_cons_self ..); simp at this
  | a :: l, [], _, _, h => by have := (h a).1 (List.mem_cons_self ..); simp at this
  | a :: l, b :: m, hl, hm, h => by
    have hl1 := List.pairwise_cons.1 hl
    have hm1 := List.pairwise_cons.1 hm
    have hab : a = b := by
      rcases List.mem_cons.1 ((h a).1 (List.mem_cons_self ..)) with e | e
      · exact e
      · rcases List.mem_cons.1 ((h b).2 (List.mem_cons_self ..)) with e2 | e2
        · exact e2.symm
        · have := hl1.1 b e2; have := hm1.1 a e; omega
    subst hab
    rw [ext_sorted l m hl1.2 hm1.2 fun x => ⟨fun hx => by
        rcases List.mem_cons.1 ((h x).1 (List.mem_cons_of_mem _ hx)) with e | e
        · have := hl1.1 x hx; omega
        · exact e, fun hx => by
        rcases List.mem_cons.1 ((h x).2 (List.mem_cons_of_mem _ hx)) with e | e
        · have := hm1.1 x hx; omega
        · exact e⟩]
/-- The distinct ones of the first i numbers. -/
def dd (K : Nat → Nat) : Nat → List Nat
  | 0 => []
  | i + 1 => if i = 0 ∨ K i ≠ K (i - 1) then dd K i ++ [K i] else dd K i
theorem dd_mem (K : Nat → Nat) : ∀ (i : Nat) (x : Nat), x ∈ dd K i ↔ ∃ j, j < i ∧ K j = x
  | 0, x => by simp [dd]
  | i + 1, x => by
    unfold dd
    have ih := dd_mem K i x
    split
    · rename_i h
      rw [List.mem_append, List.mem_singleton, ih]
      constructor
      · rintro (⟨j, h1, h2⟩ | h1)
        · exact ⟨j, by omega, h2⟩
        · exact ⟨i, by omega, h1.symm⟩
      · rintro ⟨j, h1, h2⟩
        rcases Nat.lt_or_ge j i with h3 | h3
        · exact .inl ⟨j, h3, h2⟩
        · obtain rfl : j = i := by omega
          exact .inr h2.symm
    · rename_i h
      rw [ih]
      have h1 : i ≠ 0 := fun e => h (.inl e)
      have h2 : K i = K (i - 1) := Classical.byContradiction fun e => h (.inr e)
      constructor
      · rintro ⟨j, h3, h4⟩; exact ⟨j, by omega, h4⟩
      · rintro ⟨j, h3, h4⟩
        rcases Nat.lt_or_ge j i with h5 | h5
        · exact ⟨j, h5, h4⟩
        · obtain rfl : j = i := by omega
          exact ⟨j - 1, by omega, by rw [← h2]; exact h4⟩
theorem dd_sorted {K : Nat → Nat} {n : Nat} (hK : ∀ i j, i ≤ j → j < n → K i ≤ K j) : ∀ i, i ≤ n → (dd K i).Pairwise (· < ·)
  | 0, _ => by simp [dd]
  | i + 1, hi => by
    unfold dd
    have ih := dd_sorted hK i (by omega)
    split
    · rename_i h
      rw [List.pairwise_append]
      refine ⟨ih, by simp, fun x hx y hy => ?_⟩
      obtain rfl := List.mem_singleton.1 hy
      obtain ⟨j, h1, rfl⟩ := (dd_mem K i x).1 hx
      have h2 := hK j (i - 1) (by omega) (by omega)
      have h3 := hK (i - 1) i (by omega) (by omega)
      rcases h with h | h
      · omega
      · omega
    · exact ih
theorem dd_len (K : Nat → Nat) : ∀ i, (dd K i).length ≤ i
  | 0 => Nat.le_refl _
  | i + 1 => by
    have := dd_len K i
    unfold dd
    split
    · rw [List.length_append]; simp; omega
    · omega
theorem dd_all {K : Nat → Nat} {n N : Nat} {l : List Nat} (hK : ∀ i j, i ≤ j → j < n → K i ≤ K j) (hN : ∀ j, j < n → K j < N) (hl : ∀ x, x ∈ l ↔ ∃ j, j < n ∧ K j = x) : dd K n = (List.range N).filter fun i => decide (i ∈ l) := by
  refine ext_sorted _ _ (dd_sorted hK n (Nat.le_refl _)) (List.Pairwise.filter _ List.pairwise_lt_range) fun x => ?_
  rw [dd_mem, List.mem_filter, List.mem_range, decide_eq_true_iff, hl]
  exact ⟨fun h => ⟨by obtain ⟨j, h1, rfl⟩ := h; exact hN j h1, h⟩, fun h => h.2⟩

/-! ## Entries without their values -/
def noVal (p : Nat × Int) : Nat × Int := (p.1, 0)
/-- The first i without their values. -/
def zed (E : List (Nat × Int)) (i : Nat) : List (Nat × Int) := (E.take i).map noVal ++ E.drop i
theorem zed_zero (E : List (Nat × Int)) : zed E 0 = E := by unfold zed; simp
theorem zed_length (E : List (Nat × Int)) (i : Nat) : (zed E i).length = E.length := by unfold zed; rw [List.length_append, List.length_map, List.length_take, List.length_drop]; omega
theorem zed_all (E : List (Nat × Int)) : zed E E.length = E.map noVal := by unfold zed; simp
theorem zed_at {E : List (Nat × Int)} {i : Nat} (hi : i < E.length) : (zed E i)[i]? = E[i]? := by
  unfold zed
  rw [List.getElem?_append_right (by rw [List.length_map, List.length_take]; omega), List.length_map, List.length_take, Nat.min_eq_left (by omega), List.getElem?_drop]
  congr 1
  omega
theorem zed_succ {E : List (Nat × Int)} {i : Nat} {p : Nat × Int} (hp : E[i]? = some p) : zed E (i + 1) = (zed E i).set i (p.1, 0) := by
  have hi := (List.getElem?_eq_some_iff.1 hp).1
  refine List.ext_getElem? fun j => ?_
  rw [List.getElem?_set, zed_length]
  unfold zed
  by_cases hj : i = j
  · subst hj
    rw [if_pos rfl, if_pos hi, List.getElem?_append_left (by rw [List.length_map, List.length_take]; omega), List.getElem?_map, List.getElem?_take, if_pos (by omega), hp]
    rfl
  · rw [if_neg hj]
    rcases Nat.lt_or_ge j i with h | h
    · rw [List.getElem?_append_left (by rw [List.length_map, List.length_take]; omega), List.getElem?_append_left (by rw [List.length_map, List.length_take]; omega), List.getElem?_map, List.getElem?_map, List.getElem?_take, List.getElem?_take, if_pos (by omega), if_pos h]
    · rw [List.getElem?_append_right (by rw [List.length_map, List.length_take]; omega), List.getElem?_append_right (by rw [List.length_map, List.length_take]; omega), List.length_map, List.length_take, List.length_map, List.length_take, List.getElem?_drop, List.getElem?_drop]
      congr 1
      omega
theorem ents_set {l : List (Nat × Int)} {i : Nat} {p : Nat × Int} (hp : l[i]? = some p) (v : Int) : (ents l).set (i * 2 + 1) (.int .i64 v) = ents (l.set i (p.1, v)) := by
  have hi := (List.getElem?_eq_some_iff.1 hp).1
  have e : l = l.take i ++ p :: l.drop (i + 1) := by
    rw [← (List.getElem?_eq_some_iff.1 hp).2, ← List.drop_eq_getElem_cons hi, List.take_append_drop]
  have e1 : l.set i (p.1, v) = l.take i ++ (p.1, v) :: l.drop (i + 1) := by
    rw [List.set_eq_take_append_cons_drop, if_pos hi]
  rw [e1]
  have e2 : ents l = ents (l.take i) ++ ([Value.int .i64 (p.1 : Nat), .int .i64 p.2] ++ ents (l.drop (i + 1))) := by
    conv => lhs; rw [e]
    rw [show p :: l.drop (i + 1) = [p] ++ l.drop (i + 1) from rfl, ents_append, ents_append]; rfl
  have e3 : ents (l.take i ++ (p.1, v) :: l.drop (i + 1)) = ents (l.take i) ++ ([Value.int .i64 (p.1 : Nat), .int .i64 v] ++ ents (l.drop (i + 1))) := by
    rw [show (p.1, v) :: l.drop (i + 1) = [(p.1, v)] ++ l.drop (i + 1) from rfl, ents_append, ents_append]; rfl
  rw [e2, e3, List.set_append_right _ _ (by rw [ents_length, List.length_take]; omega)]
  congr 1
  rw [ents_length, List.length_take, Nat.min_eq_left (by omega), show i * 2 + 1 - i * 2 = 1 by omega]
  rfl

/-! ## The comparison and the sort -/
def entC (p : Nat × Int) : List Value := [.int .i64 (p.1 : Nat), .int .i64 p.2]
theorem ents_flat (l : List (Nat × Int)) : ents l = l.flatMap entC := by
  unfold ents flatP prs
  rw [List.flatMap_map]
  rfl
def cmpZ (a b : Int) : Int := if a < b then -1 else if b < a then 1 else 0
def cmpE (p q : Nat × Int) : Int := cmpZ (p.1 : Nat) (q.1 : Nat)
theorem cmpE_lt (p q : Nat × Int) : cmpE p q < 0 ↔ p.1 < q.1 := by
  unfold cmpE cmpZ
  (repeat' split) <;> omega
theorem cmpZ_bd (x y : Int) : -1 ≤ cmpZ x y ∧ cmpZ x y ≤ 1 := by unfold cmpZ; (repeat' split) <;> omega
theorem isNaNZ_any (x : Int) (w : World) :
    Calls Try.prog 52 #[.int .i64 x] w fun e w' => e = .returned (.bool false) ∧ w = w' := by
  have h : (x != x) = false := by simp
  go_enter Try.func52, Try.ntmps52
  go_wp2
  go_ret
  exact ⟨rfl, rfl⟩
theorem compareZ_any (x y : Int) (w : World) :
    Calls Try.prog 48 #[.int .i64 x, .int .i64 y] w fun e w' => e = .returned (.int .i64 (cmpZ x y)) ∧ w = w' := by
  have k1 := Lib.hid (fun w => isNaNZ_any x w)
  have k2 := Lib.hid (fun w => isNaNZ_any y w)
  have key : (x < y ∧ cmpZ x y = -1) ∨ (y < x ∧ cmpZ x y = 1) ∨ (x = y ∧ cmpZ x y = 0) := by unfold cmpZ; (repeat' split) <;> omega
  rcases key with ⟨h, e⟩ | ⟨h, e⟩ | ⟨h, e⟩
  · rw [e]; clear e
    go_enter Try.func48, Try.ntmps48
    go_wp2_with fail
    refine (k1.out _).mono ?_
    rintro e w' ⟨rfl, rfl⟩
    go_wp2_with fail
    refine (k2.out _).mono ?_
    rintro e w' ⟨rfl, rfl⟩
    go_wp2
    go_ret
    exact ⟨rfl, rfl⟩
  · rw [e]; clear e
    go_enter Try.func48, Try.ntmps48
    go_wp2_with fail
    refine (k1.out _).mono ?_
    rintro e w' ⟨rfl, rfl⟩
    go_wp2_with fail
    refine (k2.out _).mono ?_
    rintro e w' ⟨rfl, rfl⟩
    go_wp2
    go_ret
    exact ⟨rfl, rfl⟩
  · rw [e]; clear e
    have h1 : ¬ x < y := by omega
    have h2 : ¬ y < x := by omega
    clear h
    go_enter Try.func48, Try.ntmps48
    go_wp2_with fail
    refine (k1.out _).mono ?_
    rintro e w' ⟨rfl, rfl⟩
    go_wp2_with fail
    refine (k2.out _).mono ?_
    rintro e w' ⟨rfl, rfl⟩
    go_wp2
    go_ret
    exact ⟨rfl, rfl⟩
theorem grow2Z (W : World) (a b : Obj) : (W.alloc a).alloc b = grow (W.drewN 0) #[a, b] := by
  rw [alloc_eq_grow, alloc_eq_grow, grow_grow]; rfl
set_option maxHeartbeats 4000000 in
theorem closureE (p q : Nat × Int) (W : World) :
    Calls Try.prog 47 #[.agg #[.int .i64 (p.1 : Nat), .int .i64 p.2], .agg #[.int .i64 (q.1 : Nat), .int .i64 q.2]] W fun e w' =>
      e = .returned (.int .i64 (cmpE p q)) ∧ ∃ n os', w' = grow (W.drewN n) os' := by
  obtain ⟨p1, p2⟩ := p
  obtain ⟨q1, q2⟩ := q
  unfold cmpE
  simp only
  generalize ((p1 : Nat) : Int) = x at *
  generalize ((q1 : Nat) : Int) = y at *
  have hk := Lib.hid (fun w => compareZ_any x y w)
  generalize cmpZ x y = z at *
  go_enter Try.func47, Try.ntmps47
  go_wp2_with (first | (go_at_call 48; with_reducible refine (hk.out _).mono ?_; rintro e w' ⟨rfl, rfl⟩))
  go_ret
  exact ⟨rfl, 0, _, grow2Z W _ _⟩
theorem swoE : Go.Sort.SWO (ltOf cmpE) where
  irrefl x := by
    unfold ltOf
    refine decide_eq_false fun h => ?_
    rw [cmpE_lt] at h
    omega
  trans x y z h1 h2 := by
    unfold ltOf at *
    have a := of_decide_eq_true h1
    have b := of_decide_eq_true h2
    refine decide_eq_true ?_
    rw [cmpE_lt] at *
    omega
  ntrans x y z h1 h2 := by
    unfold ltOf at *
    have a := of_decide_eq_false h1
    have b := of_decide_eq_false h2
    refine decide_eq_false ?_
    rw [cmpE_lt] at *
    omega
theorem entC_len : ∀ p : Nat × Int, (entC p).length = 2 := fun _ => rfl
theorem entC_one : ∀ x : Nat × Int, ∀ v ∈ entC x, v.oneCell' = true := fun x v hv => by
  simp only [entC, List.mem_cons, List.not_mem_nil, or_false] at hv
  rcases hv with rfl | rfl <;> rfl
theorem sortE_any {base : Nat} (v : Value) (l : List (Nat × Int)) (w : World) (hown : w.ownsRow base 69 2 v l.length (ents l)) (hl : l.length < 4611686018427387904) :
    Calls Try.prog 46 #[v, .func (.func 47) #[] #[]] w fun e w' =>
      e = .returned (.tuple #[]) ∧ ∃ l' : List (Nat × Int), l'.Perm l ∧ (l'.Pairwise fun x y => ¬ cmpE y x < 0) ∧ w'.ownsRow base 69 2 v l'.length (ents l') ∧ Below base w w' := by
  rw [ents_flat] at hown
  refine (sort_owned Try.sort_ent Try.isAgg69 Try.sizeOf69 entC_len entC_one cmpE swoE 47 (enters_of Try.func47 (by kernel_rfl) rfl) (fun x y W => closureE x y W) v l w hown hl).mono ?_
  rintro e w' ⟨rfl, l', h1, h2, h3, h4⟩
  exact ⟨rfl, l', h1, h2, by rw [ents_flat]; exact h3, h4⟩
end Go.Proofs.Ytlpacihkmfgegaa
