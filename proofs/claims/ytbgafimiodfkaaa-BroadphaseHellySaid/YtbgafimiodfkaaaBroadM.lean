/- The reference's Ints; boxes that contain others; the nearest point of a box. -/
import Derived.Test.YtbgafimiodfkaaaBroadL
import Derived.Test.YtbgafimiodfkaaaOpenB
import Derived.Laws.AppendOwnNone
namespace Go.Proofs.Ytbgafimiodfkaaa
open Go.ChangeShapes Go.WideShapes Go.ChangeAt Go.RowKit
open Bo
set_option linter.unusedSimpArgs false
set_option linter.unusedVariables false

def encI (z : Int) : List Value := [.int .i64 z]
theorem int_len : ∀ z : Int, (encI z).length = 1 := fun _ => rfl
theorem int_one : ∀ x : Int, ∀ v ∈ encI x, v.oneCell' = true := fun x v hv => by
  simp only [encI, List.mem_cons, List.not_mem_nil, or_false] at hv
  subst hv; rfl
theorem infoI : (Try.prog.info? 3).map (fun i => (i.zero, i.size, i.bytes)) = some (some (.int .i64 0), 1, 8) := by kernel_rfl
theorem range_get (Z : Nat → Int) (m i : Nat) (u : Value) (h : (((List.range m).map Z).flatMap encI)[i]? = some u) : i < m ∧ u = .int .i64 (Z i) := by
  have e : ((List.range m).map Z).flatMap encI = (List.range m).map fun i => Value.int .i64 (Z i) := by
    rw [List.flatMap_map]
    induction (List.range m) with
    | nil => rfl
    | cons x l ih => rw [List.flatMap_cons, List.map_cons, ih]; rfl
  rw [e] at h
  have hi : i < m := by have := (List.getElem?_eq_some_iff.1 h).1; simpa using this
  refine ⟨hi, ?_⟩
  rw [List.getElem?_map, List.getElem?_range hi] at h
  simpa using h.symm
theorem range_len (Z : Nat → Int) (m : Nat) : (((List.range m).map Z).flatMap encI).length = m * 1 := by
  rw [flat_length int_len]; simp
/-- What Ints hands back. -/
def IntsPost (e : Ending) (w' : World) : Prop := ∃ (v : Value) (Z : Nat → Int) (l : Nat), e = .returned v ∧ IntsAt w' v 1 Z l
theorem ints_owned {w : World} {base : Nat} {v : Value} {Z : Nat → Int} {m : Nat} (h : w.ownsRow base 3 1 v m (((List.range m).map Z).flatMap encI)) (hZ : ∀ i, (Lit.int .i64 (Z i)).wf = true) : IntsAt w v 1 Z m := by
  have hl : ((List.range m).map Z).length = m := by simp
  rcases owned_row (l := (List.range m).map Z) (enc := encI) (by rw [hl]; exact h) with ⟨rfl, e⟩ | ⟨g, cap, e, _, _, hR, _⟩
  · have : m = 0 := by have := congrArg List.length e; simpa using this
    subst this
    exact ⟨none, 0, rfl, Nat.le_refl _, Nat.zero_le _, hZ, Or.inl rfl⟩
  · rw [hl] at e
    refine ⟨_, cap, e, by have := hR.le; rw [hl] at this; exact this, hR.max, hZ, Or.inr ⟨g, 0, rfl, fun i hi => hR.cells i _ ?_⟩⟩
    have hlt : i < (((List.range m).map Z).flatMap encI).length := by rw [range_len]; omega
    obtain ⟨u, hu⟩ : ∃ u, (((List.range m).map Z).flatMap encI)[i]? = some u := ⟨_, List.getElem?_eq_getElem hlt⟩
    rw [hu, (range_get Z m i u hu).2]

set_option maxHeartbeats 2000000 in
theorem intsS_any (ad : Addr) (cap l : Nat) (Z : Nat → Int) (w : World) (hl : l ≤ cap) (hm : cap ≤ maxLen) (hZ : ∀ i, (Lit.int .i64 (Z i)).wf = true)
    (hc : ∀ j u, (((List.range (min (l : Int) 18).toNat).map Z).flatMap encI)[j]? = some u → w.cell? (ad.add j) = some u) :
    Calls Try.prog 23 #[.slice (some ad) l cap, .int .i64 18] w fun e w' => IntsPost e w' ∧ Below w.heap.size w w' := by
  obtain ⟨i0, hi0, hz0, hz1, hz2⟩ := info_parts infoI
  have hi0' := Lib.hid hi0; clear hi0
  have hz0' := Lib.hid hz0; clear hz0
  have hz1' := Lib.hid hz1; clear hz1
  have hz2' := Lib.hid hz2; clear hz2
  have hc' := Lib.hid hc; clear hc
  have hZ' := Lib.hid hZ; clear hZ
  unfold maxLen at hm
  go_enter Try.func23, Try.ntmps23
  go_wp2_with (at_builtin; refine wpList_append_own _ rfl _ _ 28 rfl w.heap.size 3 i0 _ 1 8 Try.underlying28 hi0'.out hz0'.out hz1'.out hz2'.out rfl (by decide) _ 0 [] rfl (World.ownsRow_nil _ _ _ _) ad (min (l : Int) 18).toNat cap (((List.range (min (l : Int) 18).toNat).map Z).flatMap encI) rfl (range_len _ _) hc'.out (flat_one int_one _) (by unfold maxLen; omega) (by omega) (Nat.le_refl _) ?_; intro v' w2 hown2 hg2 _)
  have hB2 := (Below.refl w.heap.size w).grown hg2 (Nat.le_refl _) (fun j hj => by cases hj)
  simp only [Nat.zero_add, List.nil_append] at hown2
  have hi := Lib.hid (ints_owned hown2 hZ'.out)
  clear hown2
  go_wp2
  go_ret
  exact ⟨⟨_, _, _, rfl, hi.out⟩, hB2⟩
set_option maxHeartbeats 2000000 in
theorem intsE_any (w : World) :
    Calls Try.prog 23 #[.slice none 0 0, .int .i64 18] w fun e w' => IntsPost e w' ∧ Below w.heap.size w w' := by
  obtain ⟨i0, hi0, hz0, hz1, hz2⟩ := info_parts infoI
  have hi0' := Lib.hid hi0; clear hi0 hz0 hz1 hz2
  go_enter Try.func23, Try.ntmps23
  go_wp2_with (at_builtin; refine wpList_append_own_none rfl _ _ 28 rfl w.heap.size 3 i0 1 Try.underlying28 hi0'.out _ 0 [] rfl (World.ownsRow_nil _ _ _ _) rfl ?_)
  go_ret
  exact ⟨⟨_, fun _ => 0, 0, rfl, none, 0, rfl, Nat.le_refl _, Nat.zero_le _, fun _ => (by decide : (Lit.int .i64 0).wf = true), Or.inl rfl⟩, Below.refl _ _⟩
theorem ints_any (v : Value) (Z : Nat → Int) (l : Nat) (w : World) (h : IntsAt w v 1 Z l) (hn : ∀ n c, v = .slice none n c → v = .slice none 0 0) :
    Calls Try.prog 23 #[v, .int .i64 18] w fun e w' => IntsPost e w' ∧ Below w.heap.size w w' := by
  obtain ⟨a, cap, rfl, h1, h2, h3, h4⟩ := h
  cases a with
  | none =>
    rw [hn _ _ rfl]
    exact intsE_any w
  | some ad =>
    refine intsS_any ad cap l Z w h1 h2 h3 fun j u hu => ?_
    obtain ⟨hj, rfl⟩ := range_get Z _ j u hu
    rcases h4 with rfl | ⟨g, off, e, h5⟩
    · have : (min ((0 : Nat) : Int) 18).toNat = 0 := by omega
      omega
    · cases e
      rw [add_plain]
      exact h5 j (by omega)

/-! ### boxes that contain others -/
theorem bigger {A B O : Bx} (hA : Ov A B) (h1 : O.x0 ≤ B.x0) (h2 : O.y0 ≤ B.y0) (h3 : B.x1 ≤ O.x1) (h4 : B.y1 ≤ O.y1) : Ov A O := by
  have := hA.1; have := hA.2.1; have := hA.2.2.1; have := hA.2.2.2
  exact ⟨by omega, by omega, by omega, by omega⟩
theorem self_in {B O : Bx} (hB : Proper B) (h1 : O.x0 ≤ B.x0) (h2 : O.y0 ≤ B.y0) (h3 : B.x1 ≤ O.x1) (h4 : B.y1 ≤ O.y1) : Ov B O := by
  have := hB.1; have := hB.2
  exact ⟨by omega, by omega, by omega, by omega⟩
/-- The nearest point of a box lies in another one just if the boxes meet. -/
theorem nearest {A B : Bx} (hA : Proper A) (hB : Proper B) : ov ⟨clampV A.x0 B.x0 B.x1, clampV A.y0 B.y0 B.y1, clampV A.x0 B.x0 B.x1, clampV A.y0 B.y0 B.y1⟩ A = ov B A := by
  have a1 := hA.1; have a2 := hA.2; have b1 := hB.1; have b2 := hB.2
  have cx : (clampV A.x0 B.x0 B.x1 ≤ A.x1 ∧ A.x0 ≤ clampV A.x0 B.x0 B.x1) ↔ (B.x0 ≤ A.x1 ∧ A.x0 ≤ B.x1) := by
    unfold clampV; split
    · omega
    · split <;> omega
  have cy : (clampV A.y0 B.y0 B.y1 ≤ A.y1 ∧ A.y0 ≤ clampV A.y0 B.y0 B.y1) ↔ (B.y0 ≤ A.y1 ∧ A.y0 ≤ B.y1) := by
    unfold clampV; split
    · omega
    · split <;> omega
  by_cases h : Ov B A
  · have k1 := cx.2 ⟨h.1, h.2.1⟩
    have k2 := cy.2 ⟨h.2.2.1, h.2.2.2⟩
    rw [ov_true h, ov_true (show Ov _ A from ⟨k1.1, k1.2, k2.1, k2.2⟩)]
  · rw [ov_false h, ov_false fun k => h ?_]
    have k1 := cx.1 ⟨k.1, k.2.1⟩
    have k2 := cy.1 ⟨k.2.2.1, k.2.2.2⟩
    exact ⟨k1.1, k1.2, k2.1, k2.2⟩
/-- What has pairs with the contained box, or is that box, has one with the container, which lies behind all. -/
theorem contains_has {bs : List Bx} {O : Bx} {i k : Nat} (hi : i < bs.length) (hk : k < bs.length) (hp : Proper (at' bs k)) (h1 : O.x0 ≤ (at' bs k).x0) (h2 : O.y0 ≤ (at' bs k).y0) (h3 : (at' bs k).x1 ≤ O.x1) (h4 : (at' bs k).y1 ≤ O.y1)
    (h : hasB (pairs (bs ++ [O])) (min (i : Int) (k : Int)) (max (i : Int) (k : Int)) = true ∨ i = k) : hasB (pairs (bs ++ [O])) (i : Int) (bs.length : Int) = true := by
  have hO : at' (bs ++ [O]) bs.length = O := at_append_here
  rw [hasB_pairs hi (by simp), hO, at_append_left hi, ov_iff]
  by_cases e : i = k
  · subst e; exact self_in hp h1 h2 h3 h4
  · have h' := h.resolve_right e
    rw [show min (i : Int) (k : Int) = ((min i k : Nat) : Int) by omega, show max (i : Int) (k : Int) = ((max i k : Nat) : Int) by omega, hasB_pairs (by omega) (by simp; omega), ov_iff] at h'
    rcases Nat.lt_or_ge i k with hik | hik
    · rw [Nat.min_eq_left (by omega), Nat.max_eq_right (by omega), at_append_left hi, at_append_left hk] at h'
      exact bigger h' h1 h2 h3 h4
    · rw [Nat.min_eq_right (by omega), Nat.max_eq_left (by omega), at_append_left hi, at_append_left hk] at h'
      exact bigger h'.symm h1 h2 h3 h4
end Go.Proofs.Ytbgafimiodfkaaa
