/- The reference of package unionfind: Groups. -/
import Derived.Test.YtalglkeabppabaaUfS
namespace Go.Proofs.Ytalglkeabppabaa
open Go.ChangeShapes Go.WideShapes Go.ChangeAt Go.RowKit
open Uf
set_option linter.unusedSimpArgs false
set_option linter.unusedVariables false

/-- The two values lie in different blocks. -/
def Dj (a b : Value) : Prop := ∀ j, a.ownBlock = some j → b.ownBlock ≠ some j
theorem Dj.symm {a b : Value} (h : Dj a b) : Dj b a := fun j h1 h2 => h j h2 h1
theorem Dj.row {a b : Value} (h : Dj a b) : a.ownBlock = none ∨ a.ownBlock ≠ b.ownBlock := by
  cases e : a.ownBlock with
  | none => exact .inl rfl
  | some j => exact .inr fun e2 => h j e e2.symm
theorem Dj.nil (a : Value) : Dj a (.slice none 0 0) := fun j _ h => by cases h
theorem Dj.new {a v v' : Value} {n : Nat} (h : Dj a v) (hl : v'.ownBlock = v.ownBlock ∨ v'.ownBlock = some n) (ha : ∀ j, a.ownBlock = some j → j < n) : Dj a v' := fun j hj e => by
  rcases hl with hl | hl
  · exact h j hj (hl.symm.trans e)
  · rw [hl] at e
    have := ha j hj
    have := Option.some.inj e
    omega
def RowI (w : World) (B : Nat) (v : Value) (l : List Int) : Prop := w.ownsRow B 3 1 v l.length (ints l)
theorem RowI.lt {w : World} {B : Nat} {v : Value} {l : List Int} (h : RowI w B v l) : ∀ j, v.ownBlock = some j → B ≤ j ∧ j < w.heap.size := World.ownsRow.lt h
theorem RowI.kept {w w' : World} {B : Nat} {v u : Value} {l : List Int} (h : RowI w B v l) (hg : w.grownBy w' u.ownBlock) (hd : Dj v u) : RowI w' B v l := World.ownsRow.kept h hg hd.row
theorem RowI.carry {w w' : World} {B : Nat} {v : Value} {l : List Int} (h : RowI w B v l) (hb : Below w.heap.size w w') : RowI w' B v l := h.kept (u := .slice none 0 0) (grown_below hb) (Dj.nil _)
theorem RowI.il {w : World} {B : Nat} {v : Value} {l : List Int} (h : RowI w B v l) : IL w v l := IL.owned h
theorem RowI.snoc {w : World} {B : Nat} {v : Value} {l : List Int} {z : Int} (h : w.ownsRow B 3 1 v (l.length + 1) (ints l ++ [.int .i64 z])) : RowI w B v (l ++ [z]) := by
  unfold RowI
  have e : ints (l ++ [z]) = ints l ++ [.int .i64 z] := by unfold ints; rw [List.map_append]; rfl
  rw [e, List.length_append]; exact h

/-- Groups as far as they have come: vo the outer row, xs its values, vd the labels that are done. -/
structure Acc (w : World) (B : Nat) (vo vd : Value) (xs : List Value) (gs : List (List Int)) (D : List Int) : Prop where
  o : w.ownsRow B 22 1 vo xs.length xs
  len : xs.length = gs.length
  each : ∀ (i : Nat) (x : Value) (l : List Int), xs[i]? = some x → gs[i]? = some l → RowI w B x l
  eo : ∀ x, x ∈ xs → Dj x vo
  ed : ∀ x, x ∈ xs → Dj x vd
  d : RowI w B vd D
  od : Dj vd vo
theorem Acc.start (w : World) (B : Nat) : Acc w B (.slice none 0 0) (.slice none 0 0) [] [] [] :=
  ⟨World.ownsRow_nil _ _ _ _, rfl, fun i x l h => by simp at h, fun x h => by simp at h, fun x h => by simp at h, World.ownsRow_nil _ _ _ _, Dj.nil _⟩
section
variable {w w' : World} {B : Nat} {vo vd u : Value} {xs : List Value} {gs : List (List Int)} {D : List Int}
theorem Acc.row (h : Acc w B vo vd xs gs D) {x : Value} (hx : x ∈ xs) : ∃ l, RowI w B x l := by
  obtain ⟨i, hi, rfl⟩ := List.getElem_of_mem hx
  have hg : i < gs.length := by rw [← h.len]; exact hi
  exact ⟨_, h.each i _ _ (List.getElem?_eq_getElem hi) (List.getElem?_eq_getElem hg)⟩
theorem Acc.lt (h : Acc w B vo vd xs gs D) {x : Value} (hx : x ∈ xs) : ∀ j, x.ownBlock = some j → j < w.heap.size := by
  obtain ⟨l, hl⟩ := h.row hx
  exact fun j hj => (hl.lt j hj).2
/-- Over the growth of another row. -/
theorem Acc.kept (h : Acc w B vo vd xs gs D) (hg : w.grownBy w' u.ownBlock) (h1 : Dj vo u) (h2 : Dj vd u) (h3 : ∀ x, x ∈ xs → Dj x u) : Acc w' B vo vd xs gs D :=
  ⟨h.o.kept hg h1.row, h.len, fun i x l hx hl => (h.each i x l hx hl).kept hg (h3 x (List.mem_of_getElem? hx)), h.eo, h.ed, h.d.kept hg h2, h.od⟩
theorem Acc.carry (h : Acc w B vo vd xs gs D) (hb : Below w.heap.size w w') : Acc w' B vo vd xs gs D :=
  h.kept (u := .slice none 0 0) (grown_below hb) (Dj.nil _) (Dj.nil _) (fun x _ => Dj.nil x)
/-- A label more is done. -/
theorem Acc.done {vd' : Value} {z : Int} {n : Nat} (h : Acc w B vo vd xs gs D) (hg : w.grownBy w' vd.ownBlock) (hr : w'.ownsRow B 3 1 vd' (D.length + 1) (ints D ++ [.int .i64 z])) (hl : vd'.ownBlock = vd.ownBlock ∨ vd'.ownBlock = some n) (hn : w.heap.size ≤ n) : Acc w' B vo vd' xs gs (D ++ [z]) :=
  ⟨h.o.kept hg h.od.symm.row, h.len, fun i x l hx hl => (h.each i x l hx hl).kept hg (h.ed x (List.mem_of_getElem? hx)), h.eo, fun x hx => (h.ed x hx).new hl (fun j hj => Nat.lt_of_lt_of_le (h.lt hx j hj) hn), RowI.snoc hr,
    (Dj.new (h.od.symm) hl (fun j hj => Nat.lt_of_lt_of_le (h.o.lt j hj).2 hn)).symm⟩
/-- A group more. -/
theorem Acc.more {vo' x : Value} {l : List Int} {n : Nat} (h : Acc w B vo vd xs gs D) (hx : RowI w B x l) (h1 : Dj x vo) (h2 : Dj x vd) (hg : w.grownBy w' vo.ownBlock) (hr : w'.ownsRow B 22 1 vo' (xs.length + 1) (xs ++ [x])) (hl : vo'.ownBlock = vo.ownBlock ∨ vo'.ownBlock = some n) (hn : w.heap.size ≤ n) : Acc w' B vo' vd (xs ++ [x]) (gs ++ [l]) D := by
  have hnew : ∀ y, (∃ l, RowI w B y l) → Dj y vo → Dj y vo' := fun y ⟨l, hy⟩ hd => hd.new hl (fun j hj => Nat.lt_of_lt_of_le (hy.lt j hj).2 hn)
  refine ⟨by rw [List.length_append]; exact hr, by rw [List.length_append, List.length_append, h.len]; rfl, fun i y m hy hm => ?_, fun y hy => ?_, fun y hy => ?_, h.d.kept hg h.od, hnew vd ⟨_, h.d⟩ h.od⟩
  · rcases Nat.lt_or_ge i xs.length with h3 | h3
    · rw [List.getElem?_append_left h3] at hy
      rw [List.getElem?_append_left (by rw [← h.len]; exact h3)] at hm
      exact (h.each i y m hy hm).kept hg (h.eo y (List.mem_of_getElem? hy))
    · have h4 : i = xs.length := by
        have := (List.getElem?_eq_some_iff.1 hy).1
        simp at this
        omega
      subst h4
      rw [List.getElem?_append_right (Nat.le_refl _), Nat.sub_self] at hy
      rw [h.len, List.getElem?_append_right (Nat.le_refl _), Nat.sub_self] at hm
      obtain rfl : x = y := by simpa using hy
      obtain rfl : l = m := by simpa using hm
      exact hx.kept hg h1
  · rcases List.mem_append.1 hy with h3 | h3
    · exact hnew y (h.row h3) (h.eo y h3)
    · obtain rfl := List.mem_singleton.1 h3
      exact hnew y ⟨_, hx⟩ h1
  · rcases List.mem_append.1 hy with h3 | h3
    · exact h.ed y h3
    · obtain rfl := List.mem_singleton.1 h3
      exact h2
theorem Acc.gl (h : Acc w B vo vd xs gs D) : GL w vo gs :=
  ⟨xs, h.len, VL.owned h.o, fun i x l hx hl => (h.each i x l hx hl).il⟩
end

set_option maxRecDepth 100000 in
set_option maxHeartbeats 8000000 in
theorem refGroups_any (v : Value) (k : Nat) (f : Nat → Int) (w : World) (h : IL w v (labs k f)) (hk : k ≤ 10000) :
    Calls Try.prog 21 #[v] w fun e w' => ∃ v', e = .returned v' ∧ GL w' v' ((grps k f).map natI) ∧ (∀ j, v'.ownBlock = some j → w.heap.size ≤ j) ∧ Below w.heap.size w w' := by
  obtain ⟨a, cap, rfl, h1, h2, h3⟩ := h.shape
  rw [labs_length] at *
  unfold maxLen at h2
  have h3' := Lib.hid (fun (h0 : 0 < k) => by
    obtain ⟨g, off, e, hg, hc⟩ := h3 h0
    exact (⟨g, off, e, hg, fun i hi => hc i _ (labs_at f hi)⟩ : ∃ g off, a = some ⟨g, off, none⟩ ∧ g < w.heap.size ∧ ∀ i, i < k → w.cell? ⟨g, off + i, none⟩ = some (.int .i64 (f i))))
  clear h h3
  obtain ⟨i0, hi0, hz0, hz1, hz2⟩ := info_parts infoU
  obtain ⟨i1, ri0, rz0, rz1, rz2⟩ := info_parts infoR
  have hi0' := Lib.hid hi0; clear hi0
  have hz0' := Lib.hid hz0; clear hz0
  have hz1' := Lib.hid hz1; clear hz1
  have hz2' := Lib.hid hz2; clear hz2
  have ri0' := Lib.hid ri0; clear ri0
  have rz0' := Lib.hid rz0; clear rz0
  have rz1' := Lib.hid rz1; clear rz1
  have rz2' := Lib.hid rz2; clear rz2
  go_enter Try.func21, Try.ntmps21
  go_wp2_with fail
  go_loopw [3, 4, 5, 6, 7] (fun vo vd i _ _ wr => ∃ n : Nat, n ≤ k ∧ i = .int .i64 (n : Nat) ∧ (∃ xs, Acc wr w.heap.size vo vd xs ((outL k f n).map natI) (doneL f n)) ∧ Below w.heap.size w wr) (fun _ _ i _ _ _ => k - (intOf i).toNat)
  case atStart => exact ⟨0, Nat.zero_le _, rfl, ⟨[], Acc.start _ _⟩, Below.refl _ _⟩
  case round =>
    obtain ⟨n, hn, rfl, ⟨xs, hA⟩, hb⟩ := hrel
    obtain ⟨W0, hW0⟩ : ∃ V, V = wr := ⟨wr, rfl⟩
    subst hW0
    have hA' := Lib.hid hA
    have hb' := Lib.hid hb
    clear hA hb
    by_cases hlt : n < k
    · obtain ⟨g, off, rfl, hg, hc⟩ := h3'.out (by omega)
      have hc' := Lib.hid hc
      clear hc
      have c0 := (hb'.out.cell (p := ⟨g, off + n, none⟩) hg).trans (hc'.out n hlt)
      obtain ⟨X, hX⟩ : ∃ X, X = f n := ⟨_, rfl⟩
      rw [← hX] at c0
      have hX' := Lib.hid hX
      clear hX
      have kh := Lib.hid (hasI_any u4 (doneL f n) X W0 hA'.out.d.il)
      have hxl := Lib.hid (show xs.length = (outL k f n).length from by have := hA'.out.len; rwa [List.length_map] at this)
      have hxn := Lib.hid (show xs.length ≤ n from by rw [hxl.out]; exact outL_len k f n)
      have hdn := Lib.hid (doneL_len f n)
      cases hh : isHead f n with
      | false =>
        have hm := Lib.hid (show decide (X ∈ doneL f n) = true from decide_eq_true (by rw [hX'.out]; exact mem_doneL.2 hh))
        have hh' := Lib.hid hh
        clear hh
        go_wp2_with (first | (go_at_call 26; with_reducible refine kh.out.mono ?_; rintro e w1 ⟨rfl, rfl⟩; rw [hm.out]))
        go_roundw
        case rel => exact ⟨n + 1, by omega, by go_num, ⟨xs, by rw [outL_no hh'.out, doneL_no hh'.out]; exact hA'.out⟩, hb'.out⟩
        case measure => simp [intOf]; omega
      | true =>
        have hm := Lib.hid (show decide (X ∈ doneL f n) = false from decide_eq_false (by rw [hX'.out, mem_doneL, hh]; simp))
        have hh' := Lib.hid hh
        clear hh
        go_wp2_with (first
          | (go_at_call 26; with_reducible refine kh.out.mono ?_; rintro e w1 ⟨rfl, rfl⟩; rw [hm.out])
          | (at_builtin; refine wpList_append_own_at _ rfl _ _ 22 rfl w.heap.size 3 i0 _ 1 8 Try.underlying22 hi0'.out hz0'.out hz1'.out hz2'.out rfl (by decide) _ _ _ rfl (World.ownsRow.alloc hA'.out.d _) ⟨W0.heap.size, 0, none⟩ 1 1 [.int .i64 X] rfl rfl (cells_new _ _ _ _ (by simp)) (by simp [Value.oneCell']) (by have := hdn.out; unfold maxLen; omega) (by have := hdn.out; omega) (by have := hb'.out.size; simp; omega) ?_; intro vd' w2 hown2 hg2 _ hloc; have hg2' := Lib.hid ((World.grownBy_alloc W0 _ _).trans hg2); have hA2 := Lib.hid (hA'.out.done hg2'.out hown2 hloc (by simp)); have hb2 := Lib.hid (hb'.out.grown hg2'.out hb'.out.size (fun j hj => (hA'.out.d.lt j hj).1)); clear hown2 hg2 hloc))
        have hA2' := Lib.hid hA2.out
        clear c0 kh hm hdn
        go_loopw [6, 7] (fun vg j wr => ∃ t : Nat, t ≤ k ∧ j = .int .i64 (t : Nat) ∧ Acc wr w.heap.size u3 vd' xs ((outL k f n).map natI) (doneL f n ++ [X]) ∧ RowI wr w.heap.size vg (natI (clsL f n t)) ∧ Dj vg u3 ∧ Dj vg vd' ∧ (∀ x, x ∈ xs → Dj x vg) ∧ Below w.heap.size w wr) (fun _ j _ => k - (intOf j).toNat)
        case atStart => exact ⟨0, Nat.zero_le _, rfl, hA2'.out, World.ownsRow_nil _ _ _ _, (Dj.nil _).symm, (Dj.nil _).symm, fun x _ => Dj.nil x, hb2.out⟩
        case round =>
          obtain ⟨t, ht, rfl, hB, hR, hd1, hd2, hd3, hbb⟩ := hrel
          obtain ⟨W1, hW1⟩ : ∃ V, V = wr := ⟨wr, rfl⟩
          subst hW1
          have hB' := Lib.hid hB
          have hR' := Lib.hid hR
          have hd' := Lib.hid (And.intro hd1 (And.intro hd2 hd3))
          have hbb' := Lib.hid hbb
          clear hB hR hd1 hd2 hd3 hbb
          by_cases hlt2 : t < k
          · have c0 := (hbb'.out.cell (p := ⟨g, off + t, none⟩) hg).trans (hc'.out t hlt2)
            have c1 := (hbb'.out.cell (p := ⟨g, off + n, none⟩) hg).trans (hc'.out n hlt)
            rw [← hX'.out] at c1
            obtain ⟨Y, hY⟩ : ∃ Y, Y = f t := ⟨_, rfl⟩
            rw [← hY] at c0
            have hY' := Lib.hid hY
            clear hY
            have hct := Lib.hid (clsL_len f n t)
            by_cases e : Y = X
            · have hcl := Lib.hid (show clsL f n (t + 1) = clsL f n t ++ [t] from clsL_yes (by rw [← hY'.out, ← hX'.out, e]))
              subst e
              have b1 : (Y == Y) = true := by simp
              go_wp2_with fail
              go_quiet (fail)
              have hB2 := Lib.hid (hB'.out.carry (below_drewN W1 nq))
              have hR2 := Lib.hid (hR'.out.carry (below_drewN W1 nq))
              have hbb2 := Lib.hid (below_step hbb'.out (below_drewN W1 nq))
              generalize W1.drewN nq = W2 at *
              clear c0 c1
              go_wp2_with (at_builtin; refine wpList_append_own_at _ rfl _ _ 22 rfl w.heap.size 3 i0 _ 1 8 Try.underlying22 hi0'.out hz0'.out hz1'.out hz2'.out rfl (by decide) _ _ _ rfl (World.ownsRow.alloc hR2.out _) ⟨W2.heap.size, 0, none⟩ 1 1 [.int .i64 (t : Nat)] rfl rfl (cells_new _ _ _ _ (by simp)) (by simp [Value.oneCell']) (by have := hct.out; rw [natI_length]; unfold maxLen; omega) (by have := hct.out; rw [natI_length]; omega) (by have := hbb2.out.size; simp; omega) ?_; intro vg' w3 hown3 hg3 _ hloc; have hg3' := Lib.hid ((World.grownBy_alloc W2 _ _).trans hg3); have hR3 := Lib.hid (RowI.snoc hown3); have hloc' := Lib.hid hloc; have hsz := Lib.hid (show W2.heap.size ≤ (W2.alloc (.cells #[.int .i64 (t : Nat)] 3)).heap.size from by simp); clear hown3 hg3 hloc)
              go_roundw
              case rel =>
                refine ⟨t + 1, by omega, by go_num, hB2.out.kept hg3'.out hd'.out.1.symm hd'.out.2.1.symm hd'.out.2.2, by rw [hcl.out, natI_snoc]; exact hR3.out, ?_, ?_, ?_, hbb2.out.grown hg3'.out hbb2.out.size (fun j hj => (hR2.out.lt j hj).1)⟩
                · exact (hd'.out.1.symm.new hloc'.out (fun j hj => Nat.lt_of_lt_of_le (hB2.out.o.lt j hj).2 hsz.out)).symm
                · exact (hd'.out.2.1.symm.new hloc'.out (fun j hj => Nat.lt_of_lt_of_le (hB2.out.d.lt j hj).2 hsz.out)).symm
                · exact fun x hx => (hd'.out.2.2 x hx).new hloc'.out (fun j hj => Nat.lt_of_lt_of_le (hB2.out.lt hx j hj) hsz.out)
              case measure => simp [intOf]; omega
            · have hcl := Lib.hid (show clsL f n (t + 1) = clsL f n t from clsL_no (by rw [← hY'.out, ← hX'.out]; exact e))
              have b1 : (Y == X) = false := by simpa using e
              clear e
              go_wp2_with fail
              go_quiet (fail)
              have hB2 := Lib.hid (hB'.out.carry (below_drewN W1 nq))
              have hR2 := Lib.hid (hR'.out.carry (below_drewN W1 nq))
              have hbb2 := Lib.hid (below_step hbb'.out (below_drewN W1 nq))
              generalize W1.drewN nq = W2 at *
              clear c0 c1
              go_wp2_with fail
              go_roundw
              case rel => exact ⟨t + 1, by omega, by go_num, hB2.out, by rw [hcl.out]; exact hR2.out, hd'.out.1, hd'.out.2.1, hd'.out.2.2, hbb2.out⟩
              case measure => simp [intOf]; omega
          · obtain rfl : t = k := by omega
            obtain ⟨va, vn, vc, hvg⟩ : ∃ a n c, u6 = Value.slice a n c := by
              rcases hR'.out.2 with ⟨e, _⟩ | ⟨g, cap, cur, e, _⟩ <;> exact ⟨_, _, _, e⟩
            rw [hvg] at hR' hd' ⊢
            have hon := Lib.hid (show (outL t f (n + 1)).map natI = (outL t f n).map natI ++ [natI (clsL f n t)] ∧ doneL f (n + 1) = doneL f n ++ [X] from ⟨by rw [outL_yes hh'.out, List.map_append]; rfl, by rw [doneL_yes hh'.out, hX'.out]⟩)
            clear hvg
            go_wp2_with (at_builtin; refine wpList_append_own_at _ rfl _ _ 35 rfl w.heap.size 22 i1 _ 1 24 Try.underlying35 ri0'.out rz0'.out rz1'.out rz2'.out rfl (by decide) _ _ _ rfl (World.ownsRow.alloc hB'.out.o _) ⟨W1.heap.size, 0, none⟩ 1 1 [.slice va vn vc] rfl rfl (cell_one_new _ _ _) (by simp [Value.oneCell']) (by have := hxn.out; unfold maxLen; omega) (by have := hxn.out; omega) (by have := hbb'.out.size; simp; omega) ?_; intro vo' w3 hown3 hg3 _ hloc; have hg3' := Lib.hid ((World.grownBy_alloc W1 _ _).trans hg3); have hA3 := Lib.hid (hB'.out.more hR'.out hd'.out.1 hd'.out.2.1 hg3'.out hown3 hloc (by simp)); clear hown3 hg3 hloc)
            go_roundw
            case rel => exact ⟨n + 1, by omega, by go_num, ⟨_, by rw [hon.out.1, hon.out.2]; exact hA3.out⟩, hbb'.out.grown hg3'.out hbb'.out.size (fun j hj => (hB'.out.o.lt j hj).1)⟩
            case measure => simp [intOf]; omega
    · obtain rfl : n = k := by omega
      have hv := Lib.hid (And.intro hA'.out.gl (fun j hj => (hA'.out.o.lt j hj).1))
      go_wp2
      go_ret
      exact ⟨_, rfl, hv.out.1, hv.out.2, hb'.out⟩
end Go.Proofs.Ytalglkeabppabaa
