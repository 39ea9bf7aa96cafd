/- The reference's Islands; the example; the sets behind some merges. -/
import Derived.Test.YtalglkeabppabaaUfV
import Derived.Deep.RegionHeld3
namespace Go.Proofs.Ytalglkeabppabaa
open Go.ChangeShapes Go.WideShapes Go.ChangeAt Go.RowKit
open Uf
set_option linter.unusedSimpArgs false
set_option linter.unusedVariables false

set_option maxRecDepth 100000 in
set_option maxHeartbeats 8000000 in
theorem refIslands_any (k : Nat) (v : Value) (E : List (Int × Int)) (w : World) (h : PL w v E) (hk : k ≤ 10000) (hE : E.length ≤ 10000) :
    Calls Try.prog 24 #[.int .i64 (k : Nat), v] w fun e w' => ∃ v', e = .returned v' ∧ GL w' v' ((isl k E).map natI) ∧ (∀ j, v'.ownBlock = some j → w.heap.size ≤ j) ∧ Below w.heap.size w w' := by
  obtain ⟨a, cap, rfl, h1, h2, h3⟩ := h.shape
  clear h
  unfold maxLen at h2
  have h3' := Lib.hid h3
  clear h3
  obtain ⟨m, hm⟩ : ∃ m, m = E.length := ⟨_, rfl⟩
  rw [← hm] at h1 hE h3' ⊢
  have hm' := Lib.hid hm
  clear hm
  go_enter Try.func24, Try.ntmps24
  go_wp2_with (first | (go_at_call 13; with_reducible refine (refNew_any k _ hk).mono ?_; rintro e w1 ⟨⟨s0, rfl, hI, _⟩, hB⟩; have hI' := Lib.hid hI; have hB' := Lib.hid hB; clear hI hB))
  go_loopw [5, 6, 7, 8] (fun s i _ _ wr => ∃ n : Nat, n ≤ m ∧ i = .int .i64 (n : Nat) ∧ IL wr s (labs k (playF k idL (E.take n))) ∧ Below w.heap.size w wr) (fun _ i _ _ _ => m - (intOf i).toNat)
  case atStart => exact ⟨0, Nat.zero_le _, rfl, hI'.out, hB'.out⟩
  case round =>
    obtain ⟨n, hn, rfl, hI, hB⟩ := hrel
    obtain ⟨W0, hW0⟩ : ∃ V, V = wr := ⟨wr, rfl⟩
    subst hW0
    have hI2 := Lib.hid hI
    have hB2 := Lib.hid hB
    clear hI hB hI' hB'
    by_cases hlt : n < m
    · obtain ⟨g2, off, rfl, hg2, hc⟩ := h3'.out (by omega)
      obtain ⟨p, hp⟩ : ∃ p, E[n]? = some p := ⟨_, List.getElem?_eq_getElem (by rw [← hm'.out]; exact hlt)⟩
      obtain ⟨c0, c1⟩ := hc n p hp
      replace c0 := (hB2.out.cell (p := ⟨g2, off + n * 2, none⟩) hg2).trans c0
      replace c1 := (hB2.out.cell (p := ⟨g2, off + n * 2 + 1, none⟩) hg2).trans c1
      have hp' := Lib.hid hp
      have hws := hB2.out.size
      obtain ⟨x, y⟩ := p
      simp only at c0 c1
      clear hp hc
      have bD : Below W0.heap.size W0 W0.drew := (Below.refl _ W0).drew
      have mk := Lib.hid (fun w' (h : Below W0.heap.size W0 w') => (⟨carry h c0, carry h c1, h⟩ : w'.cell? ⟨g2, off + n * 2, none⟩ = some (.int .i64 x) ∧ w'.cell? ⟨g2, off + n * 2 + 1, none⟩ = some (.int .i64 y) ∧ Below W0.heap.size W0 w'))
      go_upto_region 5 with fail
      go_region_held3 (fun w' => w'.cell? ⟨g2, off + n * 2, none⟩ = some (.int .i64 x) ∧ w'.cell? ⟨g2, off + n * 2 + 1, none⟩ = some (.int .i64 y) ∧ Below W0.heap.size W0 w')
        (first | (with_reducible exact mk.out _ bD) | (with_reducible exact mk.out _ B2))
        (first | (go_at_call 15; with_reducible refine (refUnion_any u5 k _ x y _ (hI2.out.carry (by first | exact bD | exact Below.refl _ _)) hk).mono ?_; rintro e w2 ⟨s2, rfl, hI3, _, hb3⟩; have hI3' := Lib.hid hI3; have B2 : Below W0.heap.size W0 w2 := below_step (by first | exact bD | exact Below.refl _ _) hb3; clear hI3 hb3; dsimp only))
      rename_i hHeld
      have hB3 := Lib.hid (below_step hB2.out B2)
      clear hHeld mk bD B2 c0 c1
      go_wp2_with fail
      go_roundw
      case rel => exact ⟨n + 1, by omega, by go_num, by rw [play_succ k idL E hp'.out]; exact hI3'.out, hB3.out⟩
      case measure => simp [intOf]; omega
    · obtain rfl : n = m := by omega
      have hfin := Lib.hid (show playF k idL (E.take n) = playF k idL E from by rw [hm'.out, List.take_length])
      rw [hfin.out] at hI2
      go_wp2_with (first | (go_at_call 21; with_reducible refine (refGroups_any u5 k _ W0 hI2.out hk).mono ?_; rintro e w2 ⟨v', rfl, hG, hlo, hg3⟩; have hG' := Lib.hid hG; have hlo' := Lib.hid hlo; have hg3' := Lib.hid hg3; clear hG hlo hg3))
      go_ret
      exact ⟨_, rfl, hG'.out, fun j hj => Nat.le_trans hB2.out.size (hlo'.out j hj), below_step hB2.out hg3'.out⟩

theorem il_made (W : World) (l : List Int) (t : TypeId) (n : Nat) (hn : n = W.heap.size) (hl : l.length ≤ 1000) : IL (W.alloc (.cells (ints l).toArray t)) (.slice (some ⟨n, 0, none⟩) l.length l.length) l := by
  subst hn
  refine ⟨_, l.length, by rw [ints_length], by rw [ints_length]; exact Nat.le_refl _, by unfold maxLen; omega, .inr ⟨W.heap.size, 0, rfl, by simp, fun i u hu => ?_⟩⟩
  rw [Nat.zero_add, World.cell?_alloc_new]
  simpa using hu
def lit4 (W : World) : World := (((W.alloc (.cells #[.int .i64 0, .int .i64 3, .int .i64 4] 3)).alloc (.cells #[.int .i64 1] 3)).alloc (.cells #[.int .i64 2] 3)).alloc (.cells #[.slice (some ⟨W.heap.size, 0, none⟩) 3 3, .slice (some ⟨W.heap.size + 1, 0, none⟩) 1 1, .slice (some ⟨W.heap.size + 1 + 1, 0, none⟩) 1 1] 22)
theorem lit_below (W : World) : Below W.heap.size W (lit4 W) := below_step (below_step (below_step (alloc_below _ _) (alloc_below _ _)) (alloc_below _ _)) (alloc_below _ _)
theorem lit_gl (W : World) : GL (lit4 W) (.slice (some ⟨W.heap.size + 1 + 1 + 1, 0, none⟩) 3 3) [[0, 3, 4], [1], [2]] := by
  have a1 := il_made W [0, 3, 4] 3 W.heap.size rfl (by decide)
  have a2 := il_made (W.alloc (.cells (ints [0, 3, 4]).toArray 3)) [1] 3 (W.heap.size + 1) (by simp) (by decide)
  have a3 := il_made ((W.alloc (.cells (ints [0, 3, 4]).toArray 3)).alloc (.cells (ints [1]).toArray 3)) [2] 3 (W.heap.size + 1 + 1) (by simp) (by decide)
  have b1 := ((a1.carry (alloc_below _ (.cells (ints [1]).toArray 3))).carry (alloc_below _ (.cells (ints [2]).toArray 3))).carry (alloc_below _ (.cells #[.slice (some ⟨W.heap.size, 0, none⟩) 3 3, .slice (some ⟨W.heap.size + 1, 0, none⟩) 1 1, .slice (some ⟨W.heap.size + 1 + 1, 0, none⟩) 1 1] 22))
  have b2 := (a2.carry (alloc_below _ (.cells (ints [2]).toArray 3))).carry (alloc_below _ (.cells #[.slice (some ⟨W.heap.size, 0, none⟩) 3 3, .slice (some ⟨W.heap.size + 1, 0, none⟩) 1 1, .slice (some ⟨W.heap.size + 1 + 1, 0, none⟩) 1 1] 22))
  have b3 := a3.carry (alloc_below _ (.cells #[.slice (some ⟨W.heap.size, 0, none⟩) 3 3, .slice (some ⟨W.heap.size + 1, 0, none⟩) 1 1, .slice (some ⟨W.heap.size + 1 + 1, 0, none⟩) 1 1] 22))
  refine ⟨[.slice (some ⟨W.heap.size, 0, none⟩) 3 3, .slice (some ⟨W.heap.size + 1, 0, none⟩) 1 1, .slice (some ⟨W.heap.size + 1 + 1, 0, none⟩) 1 1], rfl, ⟨_, 3, rfl, (by decide : (3 : Nat) ≤ 3), by unfold maxLen; omega, .inr ⟨W.heap.size + 1 + 1 + 1, 0, rfl, by simp [lit4], fun i u hu => ?_⟩⟩, fun i x l hx hl => ?_⟩
  · have e : W.heap.size + 1 + 1 + 1 = (((W.alloc (.cells #[.int .i64 0, .int .i64 3, .int .i64 4] 3)).alloc (.cells #[.int .i64 1] 3)).alloc (.cells #[.int .i64 2] 3)).heap.size := by simp
    unfold lit4
    rw [Nat.zero_add, e, World.cell?_alloc_new]
    simpa using hu
  · match i, hx, hl with
    | 0, hx, hl => obtain rfl : Value.slice (some ⟨W.heap.size, 0, none⟩) 3 3 = x := by simpa using hx
                   obtain rfl : [0, 3, 4] = l := by simpa using hl
                   exact b1
    | 1, hx, hl => obtain rfl : Value.slice (some ⟨W.heap.size + 1, 0, none⟩) 1 1 = x := by simpa using hx
                   obtain rfl : [1] = l := by simpa using hl
                   exact b2
    | 2, hx, hl => obtain rfl : Value.slice (some ⟨W.heap.size + 1 + 1, 0, none⟩) 1 1 = x := by simpa using hx
                   obtain rfl : [2] = l := by simpa using hl
                   exact b3
    | n + 3, hx, hl => simp at hx

set_option maxHeartbeats 4000000 in
theorem lives8_any (w : World) : Calls Try.prog 22 #[] w fun e w' => e = .returned (.bool true) ∧ Below w.heap.size w w' := by
  have hP := Lib.hid (show PL (w.alloc (.cells #[.int .i64 0, .int .i64 3, .int .i64 3, .int .i64 4] 31)) (.slice (some ⟨w.heap.size, 0, none⟩) 2 2) [(0, 3), (3, 4)] from by
    refine ⟨_, 2, rfl, by decide, by unfold maxLen; omega, .inr ⟨w.heap.size, 0, rfl, by simp, fun i p hp => ?_⟩⟩
    match i, hp with
    | 0, hp => obtain rfl : (0, 3) = p := by simpa using hp
               exact ⟨by simp, by simp⟩
    | 1, hp => obtain rfl : (3, 4) = p := by simpa using hp
               exact ⟨by simp, by simp⟩
    | n + 2, hp => simp at hp)
  have hb0 := Lib.hid (alloc_below w (.cells #[.int .i64 0, .int .i64 3, .int .i64 3, .int .i64 4] 31))
  have hq := Lib.hid (show (isl 5 [(0, 3), (3, 4)]).map natI = [[0, 3, 4], [1], [2]] from by decide)
  have kI := islands_any 5 _ [(0, 3), (3, 4)] _ hP.out (by omega) (by decide)
  rw [show ((5 : Nat) : Int) = 5 from rfl, hq.out] at kI
  have kI' := Lib.hid kI
  clear kI
  go_enter Try.func22, Try.ntmps22
  go_wp2_with (first
    | (go_at_call 23; with_reducible refine kI'.out.mono ?_; rintro e w1 ⟨v1, rfl, hG, hb1⟩; have hG' := Lib.hid hG; have hb1' := Lib.hid (below_step hb0.out hb1); clear hG hb1)
    | fail)
  refine (equalG_any _ _ _ _ _ (hG'.out.gl.carry (lit_below w1)) (lit_gl w1)).mono ?_
  rintro e w2 ⟨rfl, hb2⟩
  have hb2' := Lib.hid (below_step (below_step hb1'.out (lit_below w1)) hb2)
  clear hb2
  go_wp2
  go_ret
  exact ⟨rfl, hb2'.out⟩

set_option maxRecDepth 100000 in
set_option maxHeartbeats 4000000 in
theorem merged_any (k : Nat) (v : Value) (E : List (Int × Int)) (w : World) (h : PL w v E) (hk : k ≤ 10000) (hE : E.length ≤ 10000) :
    Calls Try.prog 25 #[.int .i64 (k : Nat), v] w fun e w' => ∃ b g, e = .returned (.pointer (some ⟨b, 0, none⟩)) ∧ St w' b g k (playF k idL E) ∧ w.heap.size ≤ b ∧ w.heap.size ≤ g ∧ Below w.heap.size w w' := by
  obtain ⟨a, cap, rfl, h1, h2, h3⟩ := h.shape
  clear h
  unfold maxLen at h2
  have h3' := Lib.hid h3
  clear h3
  obtain ⟨m, hm⟩ : ∃ m, m = E.length := ⟨_, rfl⟩
  rw [← hm] at h1 hE h3' ⊢
  have hm' := Lib.hid hm
  clear hm
  go_enter Try.func25, Try.ntmps25
  go_wp2_with (first | (go_at_call 12; with_reducible refine (new_any k _ hk).mono ?_; rintro e w1 ⟨b, g, rfl, hS, hb, hg, hB⟩; have hS' := Lib.hid hS; have hB' := Lib.hid hB; clear hS hB))
  go_loopw [6] (fun i wr => ∃ n : Nat, n ≤ m ∧ i = .int .i64 (n : Nat) ∧ St wr b g k (playF k idL (E.take n)) ∧ Below w.heap.size w wr) (fun i _ => m - (intOf i).toNat)
  case atStart => exact ⟨0, Nat.zero_le _, rfl, hS'.out, hB'.out⟩
  case round =>
    obtain ⟨n, hn, rfl, hS, hB⟩ := hrel
    obtain ⟨W0, hW0⟩ : ∃ V, V = wr := ⟨wr, rfl⟩
    subst hW0
    have hS2 := Lib.hid hS
    have hB2 := Lib.hid hB
    clear hS hB hS' hB'
    by_cases hlt : n < m
    · obtain ⟨g2, off, rfl, hg2, hc⟩ := h3'.out (by omega)
      obtain ⟨p, hp⟩ : ∃ p, E[n]? = some p := ⟨_, List.getElem?_eq_getElem (by rw [← hm'.out]; exact hlt)⟩
      obtain ⟨c0, c1⟩ := hc n p hp
      replace c0 := (hB2.out.cell (p := ⟨g2, off + n * 2, none⟩) hg2).trans c0
      replace c1 := (hB2.out.cell (p := ⟨g2, off + n * 2 + 1, none⟩) hg2).trans c1
      have hp' := Lib.hid hp
      have hws := hB2.out.size
      obtain ⟨x, y⟩ := p
      simp only at c0 c1
      clear hp hc
      have bD : W0.grownBy W0.drew (some g) := grown_below ((Below.refl _ W0).drew)
      have nG : some g2 ≠ some g := by simp; omega
      have mk := Lib.hid (fun w' (h : W0.grownBy w' (some g)) => (⟨h.cell c0 nG, h.cell c1 nG, h⟩ : w'.cell? ⟨g2, off + n * 2, none⟩ = some (.int .i64 x) ∧ w'.cell? ⟨g2, off + n * 2 + 1, none⟩ = some (.int .i64 y) ∧ W0.grownBy w' (some g)))
      have kD := Lib.hid (hS2.out.carry ((Below.refl _ W0).drew))
      go_upto_region 5 with fail
      go_region_held3 (fun w' => w'.cell? ⟨g2, off + n * 2, none⟩ = some (.int .i64 x) ∧ w'.cell? ⟨g2, off + n * 2 + 1, none⟩ = some (.int .i64 y) ∧ W0.grownBy w' (some g))
        (first | (with_reducible exact mk.out _ bD) | (with_reducible exact mk.out _ B2))
        (first | (go_at_call 16; with_reducible refine (union_any b g k _ x y _ (by first | exact kD.out | exact hS2.out) hk).mono ?_; rintro e w2 ⟨rfl, hS3, hg3⟩; have hS3' := Lib.hid hS3; have B2 : W0.grownBy w2 (some g) := grown_trans (by first | exact bD | exact grown_refl _ _) hg3; clear hS3 hg3; dsimp only))
      rename_i hHeld
      have hB3 := Lib.hid (hB2.out.grown B2 hB2.out.size (fun j hj => by cases hj; exact hg))
      clear hHeld mk bD B2 c0 c1
      go_wp2_with fail
      go_roundw
      case rel => exact ⟨n + 1, by omega, by go_num, by rw [play_succ k idL E hp'.out]; exact hS3'.out, hB3.out⟩
      case measure => simp [intOf]; omega
    · obtain rfl : n = m := by omega
      have hfin := Lib.hid (show playF k idL (E.take n) = playF k idL E from by rw [hm'.out, List.take_length])
      rw [hfin.out] at hS2
      go_wp2
      go_ret
      exact ⟨_, _, rfl, hS2.out, hb, hg, hB2.out⟩
end Go.Proofs.Ytalglkeabppabaa
