/- The law's helpers: Short, Ints, Few; rows of bytes. -/
import Derived.Test.YtknjdkgemkmoeaaHaI
import Derived.Test.YtknjdkgemkmoeaaFixed
namespace Go.Proofs.Ytknjdkgemkmoeaa
open Go.ChangeShapes Go.WideShapes Go.ChangeAt Go.RowKit Go.Shelf
set_option linter.unusedSimpArgs false
set_option linter.unusedVariables false

/-! ## Short -/
/-! ## Rows of bytes -/
def byts (L : List Nat) : List Value := L.map fun b => .int .u8 (b : Nat)
theorem byts_len (L : List Nat) : (byts L).length = L.length := by unfold byts; rw [List.length_map]
theorem byts_append (L M : List Nat) : byts (L ++ M) = byts L ++ byts M := by unfold byts; rw [List.map_append]
theorem byts_at {L : List Nat} {i b : Nat} (h : L[i]? = some b) : (byts L)[i]? = some (.int .u8 (b : Nat)) := by unfold byts; rw [List.getElem?_map, h]; rfl
theorem byts_one (L : List Nat) : ∀ u ∈ byts L, u.oneCell' = true := fun u hu => by
  unfold byts at hu
  obtain ⟨z, _, rfl⟩ := List.mem_map.1 hu
  rfl
theorem byts_set (L : List Nat) (i b : Nat) : (byts L).set i (.int .u8 (b : Nat)) = byts (L.set i b) := by unfold byts; rw [List.map_set]
theorem ByRow.owned {w : World} {B : Nat} {e : TypeId} {v : Value} {n : Nat} {L : List Nat} (h : w.ownsRow B e 1 v n (byts L)) (hB : Byt L) :
    ∃ a cap, v = .slice a n cap ∧ ByRow w (fun r => r < w.heap.size) a n cap L ∧ (a = none → cap = 0) := by
  obtain ⟨h1, h2⟩ := h
  rw [Nat.mul_one, byts_len] at h1
  rcases h2 with ⟨rfl, h3⟩ | ⟨g, cap, cur, rfl, h4, h5, h6, h7, h8, h9⟩
  · subst h3
    exact ⟨none, 0, rfl, ⟨h1, Nat.le_refl _, Nat.zero_le _, hB, fun h => absurd h (Nat.lt_irrefl 0)⟩, fun _ => rfl⟩
  · refine ⟨_, cap, rfl, ⟨h1, h6, h7, hB, fun _ => ⟨g, 0, rfl, (Array.getElem?_eq_some_iff.1 h5).1, (Array.getElem?_eq_some_iff.1 h5).1, fun i b hi => ?_⟩⟩, fun e => by cases e⟩
    have hu := byts_at hi
    rw [← h9, List.getElem?_take] at hu
    split at hu
    · rw [Nat.zero_add]
      simp only [World.cell?, h5]
      simpa using hu
    · cases hu
theorem BytsAt.shape' {w : World} {v : Value} {L : List Nat} (h : BytsAt w v L) : ∃ a cap, v = .slice a L.length cap ∧ ByRow w (fun r => r < w.heap.size) a L.length cap L ∧ (a = none → cap = 0) := by
  obtain ⟨a, cap, rfl, h1, h2, h3, h5, h4⟩ := h
  refine ⟨a, cap, rfl, ⟨rfl, h1, h2, h3, fun h => ?_⟩, h5⟩
  rcases h4 with rfl | ⟨g, off, rfl, h6⟩
  · exact absurd h (Nat.lt_irrefl 0)
  · have hg := block_lt_of_cell (h6 0 _ (List.getElem?_eq_getElem h))
    exact ⟨g, off, rfl, hg, hg, h6⟩

set_option maxRecDepth 100000 in
set_option maxHeartbeats 2000000 in
theorem ints_any (v : Value) (l : List Int) (q : Nat) (w : World) (h : IL w v l) (hnn : ∀ n c, v = .slice none n c → v = .slice none 0 0) (hq : q ≤ 100) :
    Calls Try.prog 42 #[v, .int .i64 (q : Nat)] w fun e w' => (∃ v, e = .returned v ∧ w'.ownsRow w.heap.size 3 1 v (l.take q).length (ints (l.take q))) ∧ Below w.heap.size w w' := by
  obtain ⟨i0, hi0, hz0, hz1, hz2⟩ := info_parts info_int
  have hi0' := Lib.hid hi0; clear hi0
  have hz0' := Lib.hid hz0; clear hz0
  have hz1' := Lib.hid hz1; clear hz1
  have hz2' := Lib.hid hz2; clear hz2
  obtain ⟨a, cap, rfl, hle, hmx, hrow⟩ := h.shape
  clear h
  unfold maxLen at hmx
  cases a with
  | none =>
    have e := hnn _ _ rfl
    simp only [Value.slice.injEq, true_and] at e
    obtain ⟨e1, rfl⟩ := e
    obtain rfl : l = [] := List.length_eq_zero_iff.1 e1
    clear hrow hnn e1
    rw [List.take_nil]
    go_enter Try.func42, Try.ntmps42
    go_wp2_with (at_builtin; refine wpList_append_own_none rfl _ _ 22 rfl w.heap.size 3 i0 1 Try.underlying22 hi0'.out _ 0 [] rfl (World.ownsRow_nil _ _ _ _) rfl ?_)
    go_ret
    exact ⟨⟨_, rfl, World.ownsRow_nil _ _ _ _⟩, Below.refl _ _⟩
  | some ad =>
    obtain ⟨n, hn⟩ : ∃ n, n = l.length := ⟨_, rfl⟩
    rw [← hn] at hle hrow ⊢
    have hln := Lib.hid (show (l.take q).length = min n q from by rw [List.length_take, ← hn]; omega)
    have hc0 : ∀ (j : Nat) (u : Value), (ints (l.take q))[j]? = some u → w.cell? (ad.add j) = some u := by
      intro j u hu
      unfold ints at hu
      rw [List.getElem?_map, List.getElem?_take] at hu
      split at hu
      · obtain ⟨b, hb, rfl⟩ := Option.map_eq_some_iff.1 hu
        have hj := (List.getElem?_eq_some_iff.1 hb).1
        rw [← hn] at hj
        obtain ⟨g, off, e, _, hc⟩ := hrow (by omega)
        cases e
        rw [add_plain]
        exact hc j b hb
      · cases hu
    have hc' := Lib.hid hc0
    clear hc0
    have hl1 := Lib.hid (show (ints (l.take q)).length = (if q < n then (q : Int) else (n : Int)).toNat * 1 from by rw [ints_length, hln.out]; omega)
    have hl2 := Lib.hid (show (if q < n then (q : Int) else (n : Int)).toNat = (l.take q).length from by rw [hln.out]; omega)
    clear hrow hnn hn
    generalize l.take q = M at *
    go_enter Try.func42, Try.ntmps42
    go_wp2_with (at_builtin; refine wpList_append_own _ rfl _ _ 22 rfl w.heap.size 3 i0 _ 1 8 Try.underlying22 hi0'.out hz0'.out hz1'.out hz2'.out rfl (by decide) _ 0 [] rfl (World.ownsRow_nil _ _ _ _) ad (if q < n then (q : Int) else (n : Int)).toNat cap (ints M) rfl hl1.out hc'.out (ints_one' _) (by unfold maxLen; omega) (by omega) (Nat.le_refl _) ?_; intro v' w2 hown2 hg2 _)
    all_goals
      have hB2 := (Below.refl w.heap.size w).grown hg2 (Nat.le_refl _) (fun j hj => by cases hj)
      simp only [Nat.zero_add, List.nil_append] at hown2
      rw [hl2.out] at hown2
      go_ret
      exact ⟨⟨_, rfl, hown2⟩, hB2⟩
end Go.Proofs.Ytknjdkgemkmoeaa
