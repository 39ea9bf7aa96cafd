/- package broadphase: endPoints. -/
import Derived.Test.YtbgafimiodfkaaaBroadB
import Derived.Test.YtbgafimiodfkaaaRowK
import Derived.Test.YtbgafimiodfkaaaSort
import Derived.OwnWalk
import Derived.LoopTactic
namespace Go.Proofs.Ytbgafimiodfkaaa
open Go.ChangeShapes Go.WideShapes Go.ChangeAt Go.RowKit
open Bo
set_option linter.unusedSimpArgs false
set_option linter.unusedVariables false

theorem bx_len : ∀ b : Bx, b.cells.length = 4 := fun _ => rfl
theorem pt_len : ∀ p : Pt, p.cells.length = 3 := fun _ => rfl
theorem pt_one : ∀ x : Pt, ∀ v ∈ x.cells, v.oneCell' = true := fun x v hv => by
  simp only [Pt.cells, List.mem_cons, List.not_mem_nil, or_false] at hv
  rcases hv with rfl | rfl | rfl <;> rfl
theorem bx_one : ∀ x : Bx, ∀ v ∈ x.cells, v.oneCell' = true := fun x v hv => by
  simp only [Bx.cells, List.mem_cons, List.not_mem_nil, or_false] at hv
  rcases hv with rfl | rfl | rfl | rfl <;> rfl
theorem flat_one {α : Type} {enc : α → List Value} (h : ∀ x, ∀ v ∈ enc x, v.oneCell' = true) (l : List α) : ∀ v ∈ l.flatMap enc, v.oneCell' = true := fun v hv => by
  obtain ⟨x, _, hx⟩ := List.mem_flatMap.1 hv
  exact h x v hx

/-- A slice of boxes, nil and empty ones too. -/
def BoxesAt (w : World) (v : Value) (bs : List Bx) : Prop := (bs = [] ∧ ∃ a cap, v = .slice a 0 cap) ∨ ∃ g off cap, v = .slice (some ⟨g, off, none⟩) bs.length cap ∧ RowK Bx.cells w g off cap bs
theorem BoxesAt.carry {w w' : World} {v : Value} {bs : List Bx} (h : BoxesAt w v bs) (hb : Below w.heap.size w w') : BoxesAt w' v bs := by
  rcases h with h | ⟨g, off, cap, h1, h2⟩
  · exact Or.inl h
  · exact Or.inr ⟨g, off, cap, h1, h2.carry hb⟩
theorem at_get {bs : List Bx} {i : Nat} (h : i < bs.length) : bs[i]? = some (at' bs i) := by
  simp [at', List.getD, List.getElem?_eq_getElem h]
theorem row_box {w : World} {g off cap : Nat} {bs : List Bx} (h : RowK Bx.cells w g off cap bs) {i : Nat} (hi : i < bs.length) :
    w.cell? ⟨g, off + i * 4, none⟩ = some (.int .i64 (at' bs i).x0) ∧ w.cell? ⟨g, off + i * 4 + 1, none⟩ = some (.int .i64 (at' bs i).y0) ∧ w.cell? ⟨g, off + i * 4 + 2, none⟩ = some (.int .i64 (at' bs i).x1) ∧ w.cell? ⟨g, off + i * 4 + 3, none⟩ = some (.int .i64 (at' bs i).y1) :=
  ⟨by have := h.at bx_len (j := 0) (at_get hi) rfl; simpa using this, by have := h.at bx_len (j := 1) (at_get hi) rfl; simpa [Nat.add_assoc] using this,
   by have := h.at bx_len (j := 2) (at_get hi) rfl; simpa [Nat.add_assoc] using this, by have := h.at bx_len (j := 3) (at_get hi) rfl; simpa [Nat.add_assoc] using this⟩

theorem swoPt : Go.Sort.SWO (ltOf cmpPt) where
  irrefl x := by
    unfold ltOf
    refine decide_eq_false fun h => ?_
    rw [cmpPt_lt] at h
    rcases h with h | ⟨_, h1, h2⟩
    · omega
    · rw [h1] at h2; cases h2
  trans x y z h1 h2 := by
    unfold ltOf at *
    have a := of_decide_eq_true h1
    have b := of_decide_eq_true h2
    refine decide_eq_true ?_
    rw [cmpPt_lt] at *
    rcases a with a | ⟨a, a1, a2⟩ <;> rcases b with b | ⟨b, b1, b2⟩
    · exact Or.inl (by omega)
    · exact Or.inl (by omega)
    · exact Or.inl (by omega)
    · rw [a2] at b1; cases b1
  ntrans x y z h1 h2 := by
    unfold ltOf at *
    have a := of_decide_eq_false h1
    have b := of_decide_eq_false h2
    refine decide_eq_false ?_
    rw [cmpPt_lt] at *
    intro c
    cases hx : x.right <;> cases hy : y.right <;> cases hz : z.right <;> simp_all <;> omega
theorem sortPt_any {base : Nat} (v : Value) (ps : List Pt) (w : World) (hown : w.ownsRow base 50 3 v ps.length (ps.flatMap Pt.cells)) (hl : ps.length < 4611686018427387904) :
    Calls Try.prog 30 #[v, .func (.func 31) #[] #[]] w fun e w' =>
      e = .returned (.tuple #[]) ∧ ∃ l' : List Pt, l'.Perm ps ∧ (l'.Pairwise fun x y => ¬ cmpPt y x < 0) ∧ w'.ownsRow base 50 3 v l'.length (l'.flatMap Pt.cells) ∧ Below base w w' :=
  sort_owned Try.sort_pt Try.isAgg50 Try.sizeOf50 pt_len pt_one cmpPt swoPt 31 (enters_of Try.func31 (by kernel_rfl) rfl) (fun x y W => closurePt x y W) v ps w hown hl

theorem infoPt : (Try.prog.info? 50).map (fun i => (i.zero, i.size, i.bytes)) = some (some (.agg #[.int .i64 0, .int .i64 0, .bool false]), 3, 24) := by kernel_rfl

theorem pts_succ_flat (bs : List Bx) (k : Nat) : (pts bs (k + 1)).flatMap Pt.cells = (pts bs k).flatMap Pt.cells ++ [.int .i64 (at' bs k).x0, .int .i64 (k : Int), .bool false, .int .i64 (at' bs k).x1, .int .i64 (k : Int), .bool true] := by
  rw [pts, List.flatMap_append]; rfl

/-- What endPoints hands back: the end points in the order of the sweep, in memory of the call's own. -/
def PtsPost (bs : List Bx) (base : Nat) (e : Ending) (w' : World) : Prop :=
  ∃ (v : Value) (ps : List Pt), e = .returned v ∧ ps.Perm (pts bs bs.length) ∧ (ps.Pairwise fun x y => ¬ cmpPt y x < 0) ∧ w'.ownsRow base 50 3 v ps.length (ps.flatMap Pt.cells)
theorem new_cells (w : World) (cs : List Value) (t : TypeId) (n : Nat) (hn : n = w.heap.size) : ∀ j u, cs[j]? = some u → (w.alloc (.cells cs.toArray t)).cell? ((⟨n, 0, none⟩ : Addr).add j) = some u := fun j u hu => by
  subst hn
  rw [show (⟨w.heap.size, 0, none⟩ : Addr).add j = ⟨w.heap.size, j, none⟩ by simp [Addr.add]; intro h; exact h.symm]
  have := World.cell?_alloc_new (w := w) cs.toArray t j
  rw [this]
  simpa using hu
theorem six_one (x y z t : Int) : ∀ u ∈ [Value.int .i64 x, .int .i64 y, .bool false, .int .i64 z, .int .i64 t, .bool true], u.oneCell' = true := fun u hu => by
  simp only [List.mem_cons, List.not_mem_nil, or_false] at hu
  rcases hu with rfl | rfl | rfl | rfl | rfl | rfl <;> rfl
set_option maxHeartbeats 4000000 in
theorem endPointsN_any (g off cap : Nat) (bs : List Bx) (w : World) (hR : RowK Bx.cells w g off cap bs) (hn : bs.length ≤ 1000) :
    Calls Try.prog 25 #[.slice (some ⟨g, off, none⟩) bs.length cap] w fun e w' =>
      PtsPost bs w.heap.size e w' ∧ Below w.heap.size w w' := by
  obtain ⟨i0, hi0, hz0, hz1, hz2⟩ := info_parts infoPt
  have hcap := hR.le
  have hmax := hR.max
  unfold maxLen at hmax
  have hR' := Lib.hid hR
  clear hR
  have hi0' := Lib.hid hi0; clear hi0
  have hz0' := Lib.hid hz0; clear hz0
  have hz1' := Lib.hid hz1; clear hz1
  have hz2' := Lib.hid hz2; clear hz2
  go_enter Try.func25, Try.ntmps25
  go_wp2_with (at_make; refine wpList_make_own _ rfl _ _ 47 rfl w.heap.size 50 i0 _ 3 Try.underlying47 hi0'.out hz0'.out hz1'.out .i64 .i64 (2 * (bs.length : Int)) (2 * bs.length) rfl rfl (by simp) (by rw [hz2'.out]; omega) (by unfold maxLen; omega) (Nat.le_refl _) ?_; intro w1 hown1 hg1)
  have hB1 := (Below.refl w.heap.size w).grown hg1 (Nat.le_refl _) (fun j hj => by cases hj)
  go_loopw [3, 12] (fun v i wr => ∃ k : Nat, k ≤ bs.length ∧ i = .int .i64 k ∧ wr.ownsRow w.heap.size 50 3 v (2 * k) ((pts bs k).flatMap Pt.cells) ∧ Below w.heap.size w wr) (fun _ i _ => bs.length - (intOf i).toNat)
  case atStart => exact ⟨0, Nat.zero_le _, rfl, hown1, hB1⟩
  case round =>
    obtain ⟨k, hk, rfl, hown, hB⟩ := hrel
    by_cases hlt : k < bs.length
    · obtain ⟨c0, c1, c2, c3⟩ := row_box (hR'.out.carry hB) hlt
      have hp := Lib.hid (pts_succ_flat bs k)
      have hws := hB.size
      generalize (at' bs k).x0 = X0 at *
      generalize (at' bs k).y0 = Y0 at *
      generalize (at' bs k).x1 = X1 at *
      generalize (at' bs k).y1 = Y1 at *
      go_wp2_with (at_builtin; refine wpList_append_own _ rfl _ _ 47 rfl w.heap.size 50 i0 _ 3 24 Try.underlying47 hi0'.out hz0'.out hz1'.out hz2'.out rfl (by decide) _ _ _ rfl ((hown.alloc _).alloc _) ⟨wr.heap.size + 1, 0, none⟩ 2 2 [.int .i64 X0, .int .i64 (k : Int), .bool false, .int .i64 X1, .int .i64 (k : Int), .bool true] rfl rfl (new_cells _ _ _ _ (by simp)) (six_one _ _ _ _) (by unfold maxLen; omega) (by omega) (by simp; omega) ?_; intro v' w2 hown2 hg2 _)
      have hB2 := (below_step (below_step hB (alloc_below wr _)) (alloc_below _ _)).grown hg2 (by simp; omega) (fun j hj => (hown.lt j hj).1)
      go_wp2
      go_roundw
      case rel => exact ⟨k + 1, by omega, by go_num, by rw [hp.out, show 2 * (k + 1) = 2 * k + 2 by omega]; exact hown2, hB2⟩
      case measure => simp [intOf]; omega
    · obtain rfl : k = bs.length := by omega
      have hpl := pts_length bs bs.length
      rw [← hpl] at hown
      have hS := Lib.hid (sortPt_any _ _ wr hown (by rw [pts_length]; omega))
      clear hpl hlt
      go_wp2_with fail
      refine hS.out.mono ?_
      rintro e w3 ⟨rfl, ps, h1, h2, h3, h4⟩
      have hx := Lib.hid (And.intro h1 (And.intro h2 h3))
      clear h1 h2 h3
      go_wp2
      go_ret
      exact ⟨⟨_, ps, rfl, hx.out.1, hx.out.2.1.imp fun h => by omega, hx.out.2.2⟩, hB.trans h4⟩
set_option maxHeartbeats 4000000 in
theorem endPointsE_any (a : Option Addr) (cap : Nat) (w : World) :
    Calls Try.prog 25 #[.slice a 0 cap] w fun e w' => PtsPost [] w.heap.size e w' ∧ Below w.heap.size w w' := by
  obtain ⟨i0, hi0, hz0, hz1, hz2⟩ := info_parts infoPt
  have hi0' := Lib.hid hi0; clear hi0
  have hz0' := Lib.hid hz0; clear hz0
  have hz1' := Lib.hid hz1; clear hz1
  have hz2' := Lib.hid hz2; clear hz2
  go_enter Try.func25, Try.ntmps25
  go_wp2_with (at_make; refine wpList_make_own _ rfl _ _ 47 rfl w.heap.size 50 i0 _ 3 Try.underlying47 hi0'.out hz0'.out hz1'.out .i64 .i64 _ 0 rfl rfl (by simp) (by rw [hz2'.out]; omega) (by unfold maxLen; omega) (Nat.le_refl _) ?_; intro w1 hown1 hg1)
  have hB1 := (Below.refl w.heap.size w).grown hg1 (Nat.le_refl _) (fun j hj => by cases hj)
  refine wp_loop_rounds 1 ?_
  rw [rounds_succ]
  go_wp2_with fail
  refine (sortPt_any (base := w.heap.size) (.slice (some ⟨w.heap.size, 0, none⟩) 0 0) [] w1 (by simpa using hown1) (by simp)).mono ?_
  rintro e w3 ⟨rfl, ps, h1, h2, h3, h4⟩
  have hx := Lib.hid (And.intro h1 (And.intro h2 h3))
  clear h1 h2 h3
  go_wp2
  go_ret
  exact ⟨⟨_, ps, rfl, hx.out.1, hx.out.2.1.imp fun h => by omega, hx.out.2.2⟩, hB1.trans h4⟩

theorem endPoints_any (v : Value) (bs : List Bx) (w : World) (hv : BoxesAt w v bs) (hn : bs.length ≤ 1000) :
    Calls Try.prog 25 #[v] w fun e w' => PtsPost bs w.heap.size e w' ∧ Below w.heap.size w w' := by
  rcases hv with ⟨rfl, a, cap, rfl⟩ | ⟨g, off, cap, rfl, hR⟩
  · exact endPointsE_any a cap w
  · exact endPointsN_any g off cap bs w hR hn
end Go.Proofs.Ytbgafimiodfkaaa
