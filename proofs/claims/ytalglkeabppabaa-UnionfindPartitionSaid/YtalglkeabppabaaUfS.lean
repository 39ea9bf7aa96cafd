/- The reference of package unionfind: Same, Union, Edges. -/
import Derived.Test.YtalglkeabppabaaUfR
namespace Go.Proofs.Ytalglkeabppabaa
open Go.ChangeShapes Go.WideShapes Go.ChangeAt Go.RowKit
open Uf
set_option linter.unusedSimpArgs false
set_option linter.unusedVariables false

set_option maxHeartbeats 4000000 in
theorem refSame_any (v : Value) (k : Nat) (f : Nat → Int) (x y : Int) (w : World) (h : IL w v (labs k f)) :
    Calls Try.prog 18 #[v, .int .i64 x, .int .i64 y] w fun e w' => e = .returned (.bool (sameF k f x y)) ∧ Below w.heap.size w w' := by
  have kh := Lib.hid (fun a => in_any v (labs k f) a w h)
  rw [labs_length] at kh
  cases hx : inB k x with
  | false =>
    have hs := Lib.hid (show sameF k f x y = false from by unfold sameF; rw [hx]; rfl)
    have hx' := Lib.hid hx
    clear hx h
    go_enter Try.func18, Try.ntmps18
    go_wp2_with (first | (go_at_call 29; with_reducible refine (kh.out x).mono ?_; rintro e w1 ⟨rfl, rfl⟩; rw [hx'.out]))
    go_ret
    exact ⟨by rw [hs.out]; rfl, Below.refl _ _⟩
  | true =>
    cases hy : inB k y with
    | false =>
      have hs := Lib.hid (show sameF k f x y = false from by unfold sameF; rw [hx, hy]; rfl)
      have hx' := Lib.hid hx
      have hy' := Lib.hid hy
      clear hx hy h
      go_enter Try.func18, Try.ntmps18
      go_wp2_with (first
        | (go_at_call 29; with_reducible refine (kh.out x).mono ?_; rintro e w1 ⟨rfl, rfl⟩; rw [hx'.out])
        | (go_at_call 29; with_reducible refine (kh.out y).mono ?_; rintro e w1 ⟨rfl, rfl⟩; rw [hy'.out]))
      go_ret
      exact ⟨by rw [hs.out]; rfl, Below.refl _ _⟩
    | true =>
      obtain ⟨p, rfl⟩ : ∃ p : Nat, x = (p : Int) := ⟨x.toNat, by rw [inB_iff] at hx; omega⟩
      obtain ⟨q, rfl⟩ : ∃ q : Nat, y = (q : Int) := ⟨y.toNat, by rw [inB_iff] at hy; omega⟩
      have hp := (inB_iff.1 hx).2
      have hq := (inB_iff.1 hy).2
      have hs := Lib.hid (show sameF k f p q = decide (f p = f q) from by
        rw [Bool.eq_iff_iff, sameF_iff, decide_eq_true_iff]
        exact ⟨fun h => h.2.2, fun h => ⟨hx, hy, h⟩⟩)
      have hx' := Lib.hid hx
      have hy' := Lib.hid hy
      clear hx hy
      have hp' : p < k := by omega
      have hq' : q < k := by omega
      obtain ⟨a, cap, rfl, h1, h2, h3⟩ := h.shape
      rw [labs_length] at *
      unfold maxLen at h2
      obtain ⟨g, off, rfl, hg, hc⟩ := h3 (by omega)
      have c0 := hc p _ (labs_at f hp')
      have c1 := hc q _ (labs_at f hq')
      clear h hc h3
      generalize f p = X at *
      generalize f q = Y at *
      go_enter Try.func18, Try.ntmps18
      go_upto_region 3 with (first
        | (go_at_call 29; with_reducible refine (kh.out (p : Int)).mono ?_; rintro e w1 ⟨rfl, rfl⟩; rw [hx'.out])
        | (go_at_call 29; with_reducible refine (kh.out (q : Int)).mono ?_; rintro e w1 ⟨rfl, rfl⟩; rw [hy'.out]))
      go_quiet (fail)
      go_wp2
      refine bodyPost_ret (v := .bool (X == Y)) (by simp [results, Try.results18, go_sem]) rfl ⟨?_, below_drewN _ _⟩
      rw [hs.out]
      congr 2

set_option maxHeartbeats 4000000 in
theorem refUnion_any (v : Value) (k : Nat) (f : Nat → Int) (x y : Int) (w : World) (h : IL w v (labs k f)) (hk : k ≤ 10000) :
    Calls Try.prog 15 #[v, .int .i64 x, .int .i64 y] w fun e w' => ∃ v', e = .returned (.tuple #[v', .bool (canU k f x y)]) ∧ IL w' v' (labs k (uniF k f x y)) ∧ (v' = v ∨ ∀ j, v'.ownBlock = some j → w.heap.size ≤ j) ∧ Below w.heap.size w w' := by
  have kh := Lib.hid (fun a => in_any v (labs k f) a w h)
  rw [labs_length] at kh
  have h' := Lib.hid h
  cases hx : inB k x with
  | false =>
    have hs := Lib.hid (show canU k f x y = false from by unfold canU; rw [hx]; rfl)
    have hx' := Lib.hid hx
    clear hx h
    go_enter Try.func15, Try.ntmps15
    go_wp2_with (first | (go_at_call 29; with_reducible refine (kh.out x).mono ?_; rintro e w1 ⟨rfl, rfl⟩; rw [hx'.out]))
    go_ret2
    exact ⟨v, by rw [hs.out]; rfl, by rw [uniF_none hs.out]; exact h'.out, .inl rfl, Below.refl _ _⟩
  | true =>
    cases hy : inB k y with
    | false =>
      have hs := Lib.hid (show canU k f x y = false from by unfold canU; rw [hx, hy]; rfl)
      have hx' := Lib.hid hx
      have hy' := Lib.hid hy
      clear hx hy h
      go_enter Try.func15, Try.ntmps15
      go_wp2_with (first
        | (go_at_call 29; with_reducible refine (kh.out x).mono ?_; rintro e w1 ⟨rfl, rfl⟩; rw [hx'.out])
        | (go_at_call 29; with_reducible refine (kh.out y).mono ?_; rintro e w1 ⟨rfl, rfl⟩; rw [hy'.out]))
      go_ret2
      exact ⟨v, by rw [hs.out]; rfl, by rw [uniF_none hs.out]; exact h'.out, .inl rfl, Below.refl _ _⟩
    | true =>
      obtain ⟨p, rfl⟩ : ∃ p : Nat, x = (p : Int) := ⟨x.toNat, by rw [inB_iff] at hx; omega⟩
      obtain ⟨q, rfl⟩ : ∃ q : Nat, y = (q : Int) := ⟨y.toNat, by rw [inB_iff] at hy; omega⟩
      have hp := (inB_iff.1 hx).2
      have hq := (inB_iff.1 hy).2
      have hx' := Lib.hid hx
      have hy' := Lib.hid hy
      clear hx hy
      have hp' : p < k := by omega
      have hq' : q < k := by omega
      obtain ⟨a, cap, rfl, h1, h2, h3⟩ := h.shape
      rw [labs_length] at *
      unfold maxLen at h2
      obtain ⟨g, off, rfl, hg, hc⟩ := h3 (by omega)
      have c0 := hc p _ (labs_at f hp')
      have c1 := hc q _ (labs_at f hq')
      have hc' := Lib.hid (fun (i : Nat) (hi : i < k) => hc i _ (labs_at f hi))
      clear h hc h3
      obtain ⟨X, hX⟩ : ∃ X, X = f p := ⟨_, rfl⟩
      obtain ⟨Y, hY⟩ : ∃ Y, Y = f q := ⟨_, rfl⟩
      rw [← hX] at c0
      rw [← hY] at c1
      have hXY := Lib.hid (And.intro hX hY)
      clear hX hY
      by_cases e : X = Y
      · have hs := Lib.hid (show canU k f p q = false from canU_after fun _ _ => by simp; rw [← hXY.out.1, ← hXY.out.2, e])
        subst e
        have b1 : (X == X) = true := by simp
        go_enter Try.func15, Try.ntmps15
        go_wp2_with (first
          | (go_at_call 29; with_reducible refine (kh.out (p : Int)).mono ?_; rintro e w1 ⟨rfl, rfl⟩; rw [hx'.out])
          | (go_at_call 29; with_reducible refine (kh.out (q : Int)).mono ?_; rintro e w1 ⟨rfl, rfl⟩; rw [hy'.out]))
        go_ret2
        exact ⟨_, by rw [hs.out]; rfl, by rw [uniF_none hs.out]; exact h'.out, .inl rfl, Below.refl _ _⟩
      · have b1 : (X == Y) = false := by simpa using e
        have hs := Lib.hid (show canU k f p q = true from canU_iff.2 ⟨hx'.out, hy'.out, by simp; rw [← hXY.out.1, ← hXY.out.2]; exact e⟩)
        have hu := Lib.hid (show uniF k f p q = mrg f p q from by unfold uniF; rw [if_pos hs.out]; simp)
        clear e
        obtain ⟨i0, hi0, hz0, hz1, hz2⟩ := info_parts infoU
        have hi0' := Lib.hid hi0; clear hi0
        have hz0' := Lib.hid hz0; clear hz0
        have hz1' := Lib.hid hz1; clear hz1
        have hz2' := Lib.hid hz2; clear hz2
        go_enter Try.func15, Try.ntmps15
        go_wp2_with (first
          | (go_at_call 29; with_reducible refine (kh.out (p : Int)).mono ?_; rintro e w1 ⟨rfl, rfl⟩; rw [hx'.out])
          | (go_at_call 29; with_reducible refine (kh.out (q : Int)).mono ?_; rintro e w1 ⟨rfl, rfl⟩; rw [hy'.out]))
        clear c0 c1
        go_loopw [10, 11, 12] (fun vo i _ wr => ∃ t : Nat, t ≤ k ∧ i = .int .i64 (t : Nat) ∧ wr.ownsRow w.heap.size 3 1 vo t (ints (labs t (mrg f p q))) ∧ Below w.heap.size w wr) (fun _ i _ _ => k - (intOf i).toNat)
        case atStart => exact ⟨0, Nat.zero_le _, rfl, World.ownsRow_nil _ _ _ _, Below.refl _ _⟩
        case round =>
          obtain ⟨t, ht, rfl, hown, hb⟩ := hrel
          have hws := hb.size
          by_cases hlt : t < k
          · have c0 := (hb.cell (p := ⟨g, off + t, none⟩) hg).trans (hc'.out t hlt)
            obtain ⟨Z, hZ⟩ : ∃ Z, Z = f t := ⟨_, rfl⟩
            rw [← hZ] at c0
            have hm := Lib.hid (show mrg f p q t = if Z = Y then X else Z from by unfold mrg; rw [hZ, hXY.out.1, hXY.out.2])
            clear hZ
            by_cases e : Z = Y
            · have hm2 := Lib.hid (show labs (t + 1) (mrg f p q) = labs t (mrg f p q) ++ [X] from by rw [labs_succ, hm.out, if_pos e])
              subst e
              have b2 : (Z == Z) = true := by simp
              go_wp2_with (at_builtin; refine wpList_append_own _ rfl _ _ 22 rfl w.heap.size 3 i0 _ 1 8 Try.underlying22 hi0'.out hz0'.out hz1'.out hz2'.out rfl (by decide) _ _ _ rfl (World.ownsRow.alloc hown _) ⟨wr.heap.size, 0, none⟩ 1 1 [.int .i64 X] rfl rfl (cells_new _ _ _ _ (by simp)) (by simp [Value.oneCell']) (by unfold maxLen; omega) (by omega) (by simp; omega) ?_; intro v' w2 hown2 hg2 _)
              have hB2 := (below_step hb (alloc_below wr _)).grown hg2 (by simp; omega) (fun j hj => (World.ownsRow.lt hown j hj).1)
              go_wp2_with fail
              go_roundw
              case rel => exact ⟨t + 1, by omega, by go_num, by rw [hm2.out]; unfold ints; rw [List.map_append]; exact hown2, hB2⟩
              case measure => simp [intOf]; omega
            · have hm2 := Lib.hid (show labs (t + 1) (mrg f p q) = labs t (mrg f p q) ++ [Z] from by rw [labs_succ, hm.out, if_neg e])
              have b2 : (Z == Y) = false := by simpa using e
              clear e
              go_wp2_with (at_builtin; refine wpList_append_own _ rfl _ _ 22 rfl w.heap.size 3 i0 _ 1 8 Try.underlying22 hi0'.out hz0'.out hz1'.out hz2'.out rfl (by decide) _ _ _ rfl (World.ownsRow.alloc hown _) ⟨wr.heap.size, 0, none⟩ 1 1 [.int .i64 Z] rfl rfl (cells_new _ _ _ _ (by simp)) (by simp [Value.oneCell']) (by unfold maxLen; omega) (by omega) (by simp; omega) ?_; intro v' w2 hown2 hg2 _)
              have hB2 := (below_step hb (alloc_below wr _)).grown hg2 (by simp; omega) (fun j hj => (World.ownsRow.lt hown j hj).1)
              go_wp2_with fail
              go_roundw
              case rel => exact ⟨t + 1, by omega, by go_num, by rw [hm2.out]; unfold ints; rw [List.map_append]; exact hown2, hB2⟩
              case measure => simp [intOf]; omega
          · obtain rfl : t = k := by omega
            have hv := Lib.hid (And.intro (IL.owned hown) (fun j hj => (World.ownsRow.lt hown j hj).1))
            have hb' := Lib.hid hb
            clear hown hb
            go_wp2
            go_ret2
            exact ⟨_, by rw [hs.out]; rfl, by rw [hu.out]; exact hv.out.1, .inr hv.out.2, hb'.out⟩

/-! ## Edges -/
def edgeOf (z : Int) : Int × Int := (arnd z 10000 % 15 - arnd z 10000 % 100 / 99, arnd z 10000 / 15 % 15)
def edgesN (Z : Nat → Int) (n : Nat) : List (Int × Int) := (List.range n).map fun i => edgeOf (Z i)
def edgesL (Z : Nat → Int) (l : Nat) : List (Int × Int) := edgesN Z (min l 30)
theorem edgesN_succ (Z : Nat → Int) (n : Nat) : edgesN Z (n + 1) = edgesN Z n ++ [edgeOf (Z n)] := by unfold edgesN; rw [List.range_succ, List.map_append]; rfl
theorem edgesL_len (Z : Nat → Int) (l : Nat) : (edgesL Z l).length = min l 30 := by unfold edgesL edgesN; simp
theorem edgeOf_bd (z : Int) : (-1 ≤ (edgeOf z).1 ∧ (edgeOf z).1 ≤ 14) ∧ 0 ≤ (edgeOf z).2 ∧ (edgeOf z).2 ≤ 14 := by
  have := arnd_bd z (m := 10000) (by omega)
  unfold edgeOf
  simp only
  omega
theorem edgesL_bd {Z : Nat → Int} {l : Nat} {p : Int × Int} (h : p ∈ edgesL Z l) : (-1 ≤ p.1 ∧ p.1 ≤ 14) ∧ 0 ≤ p.2 ∧ p.2 ≤ 14 := by
  unfold edgesL edgesN at h
  obtain ⟨i, _, rfl⟩ := List.mem_map.1 h
  exact edgeOf_bd _
theorem infoP : (Try.prog.info? 31).map (fun i => (i.zero, i.size, i.bytes)) = some (some (.agg #[.int .i64 0, .int .i64 0]), 2, 16) := by kernel_rfl
theorem i64_bd {n : Int} (h : (Lit.int .i64 n).wf = true) : -9223372036854775808 ≤ n ∧ n ≤ 9223372036854775807 := by
  have h1 : IntKind.i64.min = -9223372036854775808 := rfl
  have h2 : IntKind.i64.max = 9223372036854775807 := rfl
  simp only [Lit.wf, Bool.and_eq_true, decide_eq_true_eq] at h
  omega
theorem two_one (x y : Int) : ∀ u ∈ [Value.int .i64 x, .int .i64 y], u.oneCell' = true := fun u hu => by
  simp only [List.mem_cons, List.not_mem_nil, or_false] at hu
  rcases hu with rfl | rfl <;> rfl

set_option maxHeartbeats 4000000 in
theorem edges_any (v : Value) (Z : Nat → Int) (l : Nat) (w : World) (h : IntsAt w v 1 Z l) :
    Calls Try.prog 14 #[v] w fun e w' => ∃ v', e = .returned v' ∧ PL w' v' (edgesL Z l) ∧ (∀ j, v'.ownBlock = some j → w.heap.size ≤ j) ∧ Below w.heap.size w w' := by
  obtain ⟨a, cap, rfl, h1, h2, hZ, h3⟩ := h
  unfold maxLen at h2
  have hZ' := Lib.hid hZ; clear hZ
  have h3' := Lib.hid h3; clear h3
  obtain ⟨i0, hi0, hz0, hz1, hz2⟩ := info_parts infoP
  have hi0' := Lib.hid hi0; clear hi0
  have hz0' := Lib.hid hz0; clear hz0
  have hz1' := Lib.hid hz1; clear hz1
  have hz2' := Lib.hid hz2; clear hz2
  go_enter Try.func14, Try.ntmps14
  go_wp2_with fail
  go_loopw [3, 4, 5] (fun vo i _ wr => ∃ k : Nat, k ≤ l ∧ k ≤ 30 ∧ i = .int .i64 (k : Nat) ∧ wr.ownsRow w.heap.size 31 2 vo k (flatP (edgesN Z k)) ∧ Below w.heap.size w wr) (fun _ i _ _ => 30 - (intOf i).toNat)
  case atStart => exact ⟨0, Nat.zero_le _, by omega, rfl, World.ownsRow_nil _ _ _ _, Below.refl _ _⟩
  case round =>
    obtain ⟨k, hk, hk2, rfl, hown, hB⟩ := hrel
    have hws := hB.size
    by_cases hlt : k < l ∧ k < 30
    · obtain ⟨hlt, hlt2⟩ := hlt
      obtain ⟨g, off, rfl, hc⟩ := h3'.out.resolve_left (by omega)
      have c0 := carry hB (hc k (by omega))
      obtain ⟨b1, b2⟩ := i64_bd (hZ'.out k)
      have he := Lib.hid (show edgesN Z (k + 1) = edgesN Z k ++ [(arnd (Z k) 10000 % 15 - arnd (Z k) 10000 % 100 / 99, arnd (Z k) 10000 / 15 % 15)] from edgesN_succ Z k)
      generalize Z k = z at *
      clear hc
      go_wp2_with fail
      refine (around_any z 10000 _ b1 b2 (by omega)).mono ?_
      rintro e w' ⟨rfl, rfl⟩
      have hab := arnd_bd z (m := 10000) (by omega)
      clear c0 b1 b2
      generalize arnd z 10000 = x at *
      obtain ⟨x1, x2⟩ := hab
      go_wp2_with (at_builtin; refine wpList_append_own _ rfl _ _ 27 rfl w.heap.size 31 i0 _ 2 16 Try.underlying27 hi0'.out hz0'.out hz1'.out hz2'.out rfl (by decide) _ _ _ rfl (World.ownsRow.alloc hown _) ⟨wr.heap.size, 0, none⟩ 1 1 [.int .i64 (x % 15 - x % 100 / 99), .int .i64 (x / 15 % 15)] rfl rfl (cells_new _ _ _ _ (by simp)) (two_one _ _) (by unfold maxLen; omega) (by omega) (by simp; omega) ?_; intro v' w2 hown2 hg2 _)
      have hB2 := (below_step hB (alloc_below wr _)).grown hg2 (by simp; omega) (fun j hj => (World.ownsRow.lt hown j hj).1)
      go_wp2_with fail
      go_roundw
      case rel => exact ⟨k + 1, by omega, by omega, by go_num, by rw [he.out, flatP_append]; exact hown2, hB2⟩
      case measure => simp [intOf]; omega
    · have hfin := Lib.hid (show k = min l 30 from by omega)
      have hv := Lib.hid (And.intro (PL.owned hown) (fun j hj => (World.ownsRow.lt hown j hj).1))
      have hb' := Lib.hid hB
      clear hown hB
      by_cases hkl : k < l
      · obtain rfl : k = 30 := by omega
        clear hlt
        go_wp2
        go_ret
        exact ⟨_, rfl, by unfold edgesL; rw [← hfin.out]; exact hv.out.1, hv.out.2, hb'.out⟩
      · obtain rfl : k = l := by omega
        clear hlt
        go_wp2
        go_ret
        exact ⟨_, rfl, by unfold edgesL; rw [← hfin.out]; exact hv.out.1, hv.out.2, hb'.out⟩
end Go.Proofs.Ytalglkeabppabaa
