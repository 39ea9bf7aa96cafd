/-
  package broadphase, P4.5: for up to eighteen boxes on a small grid made of any numbers, and one more that contains a chosen one of them, enlarged by any amounts, every box that overlaps the contained box overlaps the container, and the nearest point of a box decides whether it meets the contained one; and the section's examples hold; whatever the arguments are.
-/
import Derived.Test.YtbgafimiodfkaaaRows
import Derived.WalkKit
import Derived.ProofKit
import Derived.OpenShut
import Derived.Test.YtbgafimiodfkaaaOpen
import Derived.Test.YtbgafimiodfkaaaBroadM
import Derived.Deep.AppendLies
import Derived.Deep.RegionHeld3
import Derived.Deep.DeepCutAuto
namespace Go.Proofs.Ytbgafimiodfkaaa.broadphaseContains
open Go.ChangeShapes Go.WideShapes Go.ChangeAt Go.RowKit
set_option linter.unusedVariables false
set_option linter.unusedSimpArgs false

open Bo
theorem emp (U W : World) (h : U.heap.size ≤ W.heap.size) : (W.alloc (.cells #[] 23)).ownsRow U.heap.size 23 4 (.slice (some ⟨W.heap.size, 0, none⟩) 0 0) 0 [] :=
  World.ownsRow_made W #[] 0 h (Nat.zero_le _) rfl
theorem row_news {w : World} {g off cap : Nat} {bs : List Bx} (h : RowK Bx.cells w g off cap bs) : ∀ j u, (bs.flatMap Bx.cells)[j]? = some u → w.cell? ((⟨g, off, none⟩ : Addr).add j) = some u := fun j u hu => by
  rw [add_plain]; exact h.cells j u hu
/-- The container's cells in a block of their own. -/
def News (W : World) (b : Nat) (O : Bx) : Prop := ∀ j u, ([.int .i64 O.x0, .int .i64 O.y0, .int .i64 O.x1, .int .i64 O.y1] : List Value)[j]? = some u → W.cell? ((⟨b, 0, none⟩ : Addr).add j) = some u
theorem News.new (W : World) (O : Bx) : News (W.alloc (.cells #[.int .i64 O.x0, .int .i64 O.y0, .int .i64 O.x1, .int .i64 O.y1] 23)) W.heap.size O := new_cells W _ _ _ rfl
theorem News.grown {W W1 : World} {b : Nat} {O : Bx} {row : Option Nat} (h : News W b O) (hg : W.grownBy W1 row) (hne : some b ≠ row) : News W1 b O := fun j u hu => by
  have := h j u hu
  rw [add_plain] at this ⊢
  exact hg.cell this hne
theorem boxes_of {W : World} {base : Nat} {v : Value} {bs : List Bx} {O : Bx} (h : W.ownsRow base 23 4 v (bs.length + 1) (bs.flatMap Bx.cells ++ [.int .i64 O.x0, .int .i64 O.y0, .int .i64 O.x1, .int .i64 O.y1])) : BoxesAt W v (bs ++ [O]) := by
  refine OwnsBoxes.at (base := base) ?_
  unfold OwnsBoxes
  rw [flat_snoc_bx, List.length_append, List.length_singleton]
  simpa using h
theorem own : ownKnob Try.prog.godebug = none := by kernel_rfl
theorem laid : laidOutB Try.prog = true := by kernel_rfl

set_option maxRecDepth 100000 in
set_option maxHeartbeats 8000000 in
theorem walk (w : World) (s0 : Value) (Z0 : Nat → Int) (l0 : Nat) (H0 : IntsAt w s0 1 Z0 l0) (N0 : ∀ n c, s0 = .slice none n c → s0 = .slice none 0 0) (a1 : Int) (w1 : (Lit.int .i64 a1).wf = true) (a2 : Int) (w2 : (Lit.int .i64 a2).wf = true) :
    Calls Try.prog 8 #[s0, .int .i64 a1, .int .i64 a2] w fun e w' => e = .returned (.bool true) ∧ Below w.heap.size w w' := by
  obtain ⟨l1, r1⟩ := i64_bd w1
  obtain ⟨l2, r2⟩ := i64_bd w2
  clear w1 w2
  obtain ⟨i0, hi0, hz0, hz1, hz2⟩ := info_parts infoBx
  have hi0' := Lib.hid hi0; clear hi0
  have hz0' := Lib.hid hz0; clear hz0
  have hz1' := Lib.hid hz1; clear hz1
  have hz2' := Lib.hid hz2; clear hz2
  have hI := Lib.hid (ints_any s0 Z0 l0 w H0 N0)
  obtain ⟨a, cap, rfl, k1, k2, k3, k4⟩ := H0
  clear k1 k2 k3 k4 N0
  go_enter Try.func8, Try.ntmps8
  go_wp2_with fail
  refine hI.out.mono ?_
  rintro e u0 ⟨⟨vi, Zi, li, rfl, hI2⟩, hb0⟩
  have hb0' := Lib.hid hb0
  go_wp2_with fail
  refine (boxes_any _ _ _ _ hI2).mono ?_
  rintro e u1 ⟨⟨vm, bm, rfl, m1, m2, m3, m4⟩, hb1⟩
  have hB1 := Lib.hid (below_step hb0 hb1)
  clear hb0' hb0 hb1 hI2 hI
  have hn20 := m1
  have hgr := Lib.hid m3
  rcases owned_row m4 with ⟨rfl, rfl⟩ | ⟨gm, capm, rfl, hgm, hgm2, hRm, _⟩
  · clear m1 m2 m3 m4
    go_wp2_with fail
    refine (lives4_any _).mono ?_
    rintro e u2 ⟨rfl, hb2⟩
    go_wp2
    go_ret
    exact ⟨rfl, below_step hB1.out hb2⟩
  · have rM := Lib.hid hRm
    have hlm := hRm.le
    have hmm := hRm.max
    unfold maxLen at hmm
    clear m2 m3 m4 hRm
    by_cases h0 : bm.length = 0
    · have hz : ((bm.length : Int) == 0) = true := by simp only [beq_iff_eq]; omega
      go_wp2_with fail
      refine (lives4_any _).mono ?_
      rintro e u2 ⟨rfl, hb2⟩
      go_wp2
      go_ret
      exact ⟨rfl, below_step hB1.out hb2⟩
    · have hz : ((bm.length : Int) == 0) = false := by simp only [beq_eq_false_iff_ne, ne_eq]; omega
      have hn1 : 1 ≤ bm.length := by omega
      clear h0
      go_wp2_with fail
      refine (aroundx_any _ (bm.length : Int) _ l1 r1 (by omega)).mono ?_
      rintro e w' ⟨⟨x, x1, x2, rfl⟩, rfl⟩
      obtain ⟨kk, rfl⟩ : ∃ kk : Nat, x = (kk : Int) := ⟨x.toNat, by omega⟩
      have hkk : kk < bm.length := by omega
      go_wp2_with fail
      refine (aroundx_any _ 1000 _ l2 r2 (by omega)).mono ?_
      rintro e w' ⟨⟨gg, g1, g2, rfl⟩, rfl⟩
      clear l1 r1 l2 r2 hz
      obtain ⟨c0, c1, c2, c3⟩ := row_box rM.out hkk
      simp only [Nat.zero_add] at c0 c1 c2 c3
      obtain ⟨⟨b0, b1, b2⟩, b3, b4, b5⟩ := hgr.out kk hkk
      obtain ⟨Bk, hBk⟩ : ∃ X, X = at' bm kk := ⟨_, rfl⟩
      rw [← hBk] at c0 c1 c2 c3 b0 b1 b2 b3 b4 b5
      have hBk' := Lib.hid hBk
      clear hBk
      have hgw : gm < u1.heap.size := hgm2
      go_wp2_with fail
      obtain ⟨U, hU⟩ : ∃ U, U = (u1.alloc (.cells #[.int .i64 Bk.x0, .int .i64 Bk.y0, .int .i64 Bk.x1, .int .i64 Bk.y1] 23)).alloc (.cells #[.int .i64 (Bk.x0 - gg % 10), .int .i64 (Bk.y0 - gg / 10 % 10), .int .i64 (Bk.x1 + gg / 100), .int .i64 (Bk.y1 + gg % 7)] 23) := ⟨_, rfl⟩
      rw [← hU]
      obtain ⟨O, hO⟩ : ∃ O : Bx, O = ⟨Bk.x0 - gg % 10, Bk.y0 - gg / 10 % 10, Bk.x1 + gg / 100, Bk.y1 + gg % 7⟩ := ⟨_, rfl⟩
      have hUb : Below u1.heap.size u1 U := by rw [hU]; exact below_two _ _ _
      have p0 : U.cell? ⟨u1.heap.size, 0, none⟩ = some (.int .i64 Bk.x0) := by rw [hU]; simp [go_sem]
      have p1 : U.cell? ⟨u1.heap.size, 1, none⟩ = some (.int .i64 Bk.y0) := by rw [hU]; simp [go_sem]
      have p2 : U.cell? ⟨u1.heap.size, 2, none⟩ = some (.int .i64 Bk.x1) := by rw [hU]; simp [go_sem]
      have p3 : U.cell? ⟨u1.heap.size, 3, none⟩ = some (.int .i64 Bk.y1) := by rw [hU]; simp [go_sem]
      have o0 : U.cell? ⟨u1.heap.size + 1, 0, none⟩ = some (.int .i64 O.x0) := by rw [hU, hO]; simp [go_sem]
      have o1 : U.cell? ⟨u1.heap.size + 1, 1, none⟩ = some (.int .i64 O.y0) := by rw [hU, hO]; simp [go_sem]
      have o2 : U.cell? ⟨u1.heap.size + 1, 2, none⟩ = some (.int .i64 O.x1) := by rw [hU, hO]; simp [go_sem]
      have o3 : U.cell? ⟨u1.heap.size + 1, 3, none⟩ = some (.int .i64 O.y1) := by rw [hU, hO]; simp [go_sem]
      have rU := Lib.hid (rM.out.carry hUb)
      have hBU := Lib.hid (below_step hB1.out hUb)
      have hOb : (O.x0 ≤ Bk.x0 ∧ O.y0 ≤ Bk.y0) ∧ Bk.x1 ≤ O.x1 ∧ Bk.y1 ≤ O.y1 := by rw [hO]; exact ⟨⟨by simp only; omega, by simp only; omega⟩, by simp only; omega, by simp only; omega⟩
      have hOb' := Lib.hid hOb
      have q0 : u1.heap.size < U.heap.size := by rw [hU]; simp; omega
      have q1 : u1.heap.size + 1 < U.heap.size := by rw [hU]; simp
      clear hU hO hOb hUb c0 c1 c2 c3 b0 b1 b2 b3 b4 b5 g1 g2 hgm hgm2
      generalize Bk.x0 - gg % 10 = G0 at *
      generalize Bk.y0 - gg / 10 % 10 = G1 at *
      generalize Bk.x1 + gg / 100 = G2 at *
      generalize Bk.y1 + gg % 7 = G3 at *
      have mk := Lib.hid (fun w' (h : Below U.heap.size U w') => (⟨(h.cell q1).trans o0, (h.cell q1).trans o1, (h.cell q1).trans o2, (h.cell q1).trans o3, h⟩ : w'.cell? ⟨u1.heap.size + 1, 0, none⟩ = some (.int .i64 O.x0) ∧ w'.cell? ⟨u1.heap.size + 1, 1, none⟩ = some (.int .i64 O.y0) ∧ w'.cell? ⟨u1.heap.size + 1, 2, none⟩ = some (.int .i64 O.x1) ∧ w'.cell? ⟨u1.heap.size + 1, 3, none⟩ = some (.int .i64 O.y1) ∧ Below U.heap.size U w'))
      have oA := Lib.hid (show ((U.alloc (.cells #[] 23)).drew).ownsRow U.heap.size 23 4 (.slice (some ⟨U.heap.size, 0, none⟩) 0 0) 0 [] from World.ownsRow.drew (emp U U (Nat.le_refl _)))
      have oB := Lib.hid (show (((U.alloc (.cells #[] 23)).alloc (.cells #[.int .i64 O.x0, .int .i64 O.y0, .int .i64 O.x1, .int .i64 O.y1] 23)).drew).ownsRow U.heap.size 23 4 (.slice (some ⟨U.heap.size, 0, none⟩) 0 0) 0 [] from World.ownsRow.drew ((emp U U (Nat.le_refl _)).alloc _))
      have oC := Lib.hid (show (((U.alloc (.cells #[.int .i64 O.x0, .int .i64 O.y0, .int .i64 O.x1, .int .i64 O.y1] 23)).alloc (.cells #[] 23)).drew).ownsRow U.heap.size 23 4 (.slice (some ⟨U.heap.size + 1, 0, none⟩) 0 0) 0 [] from World.ownsRow.drew (by
        have := emp U (U.alloc (.cells #[.int .i64 O.x0, .int .i64 O.y0, .int .i64 O.x1, .int .i64 O.y1] 23)) (by simp)
        rw [World.size_alloc] at this; exact this))
      have bA := Lib.hid (show Below U.heap.size U ((U.alloc (.cells #[] 23)).drew) from (alloc_below _ _).drew)
      have bB := Lib.hid (show Below U.heap.size U (((U.alloc (.cells #[] 23)).alloc (.cells #[.int .i64 O.x0, .int .i64 O.y0, .int .i64 O.x1, .int .i64 O.y1] 23)).drew) from (below_two _ _ _).drew)
      have bC := Lib.hid (show Below U.heap.size U (((U.alloc (.cells #[.int .i64 O.x0, .int .i64 O.y0, .int .i64 O.x1, .int .i64 O.y1] 23)).alloc (.cells #[] 23)).drew) from (below_two _ _ _).drew)
      have nB := Lib.hid (show News (((U.alloc (.cells #[] 23)).alloc (.cells #[.int .i64 O.x0, .int .i64 O.y0, .int .i64 O.x1, .int .i64 O.y1] 23)).drew) (U.heap.size + 1) O from by
        have := News.new (U.alloc (.cells #[] 23)) O
        rw [World.size_alloc] at this; exact this)
      have nC := Lib.hid (show News (((U.alloc (.cells #[.int .i64 O.x0, .int .i64 O.y0, .int .i64 O.x1, .int .i64 O.y1] 23)).alloc (.cells #[] 23)).drew) U.heap.size O from by
        have := (News.new U O).grown (World.grownBy_alloc _ (.cells #[] 23) none) (by simp)
        exact this)
      go_cut [13] (fun vp V => PairsAt V vp (pairs (bm ++ [O])) ∧ Below U.heap.size U V)
      case first =>
        go_region_held3 (fun w' => w'.cell? ⟨u1.heap.size + 1, 0, none⟩ = some (.int .i64 O.x0) ∧ w'.cell? ⟨u1.heap.size + 1, 1, none⟩ = some (.int .i64 O.y0) ∧ w'.cell? ⟨u1.heap.size + 1, 2, none⟩ = some (.int .i64 O.x1) ∧ w'.cell? ⟨u1.heap.size + 1, 3, none⟩ = some (.int .i64 O.y1) ∧ Below U.heap.size U w')
          (first | (exact mk.out _ (Below.refl _ _).drew) | (exact mk.out _ (by assumption)) | (exact mk.out _ (below_step (by assumption) (alloc_below _ _))) | (exact mk.out _ bA.out) | (exact mk.out _ bB.out) | (exact mk.out _ bC.out) | (exact mk.out _ (alloc_below _ _).drew))
          (first
            | (refine step_append_lies _ (by rfl) _ _ _ (by rfl) U.heap.size 23 i0 _ 4 32 Try.underlying27 hi0'.out hz0'.out hz1'.out hz2'.out rfl (by decide) (.slice (some ⟨U.heap.size, 0, none⟩) 0 0) 0 [] (by rfl) oA.out ⟨gm, 0, none⟩ bm.length capm (bm.flatMap Bx.cells) (by rfl) (flat_length bx_len bm) (row_news (rU.out.carry bA.out)) (flat_one bx_one bm) hn1 (by unfold maxLen; omega) (by omega) bA.out.size _ rfl ?_; intro ga ca w1 hown1 hgrow1 hat1 hlt1; simp only [Nat.zero_add, List.nil_append] at hown1 ⊢; have hA1 : Below U.heap.size U w1 := bA.out.grown hgrow1 bA.out.size (fun j hj => by cases hj; exact Nat.le_refl _))
            | (refine step_append_lies _ (by rfl) _ _ _ (by rfl) U.heap.size 23 i0 _ 4 32 Try.underlying27 hi0'.out hz0'.out hz1'.out hz2'.out rfl (by decide) (.slice (some ⟨U.heap.size, 0, none⟩) 0 0) 0 [] (by rfl) oB.out ⟨gm, 0, none⟩ bm.length capm (bm.flatMap Bx.cells) (by rfl) (flat_length bx_len bm) (row_news (rU.out.carry bB.out)) (flat_one bx_one bm) hn1 (by unfold maxLen; omega) (by omega) bB.out.size _ rfl ?_; intro ga ca w1 hown1 hgrow1 hat1 hlt1; simp only [Nat.zero_add, List.nil_append] at hown1 ⊢; have hA1 : Below U.heap.size U w1 := bB.out.grown hgrow1 bB.out.size (fun j hj => by cases hj; exact Nat.le_refl _); have hN1 : News w1 (U.heap.size + 1) O := nB.out.grown hgrow1 (by simp [Value.ownBlock]))
            | (refine step_append_lies _ (by rfl) _ _ _ (by rfl) U.heap.size 23 i0 _ 4 32 Try.underlying27 hi0'.out hz0'.out hz1'.out hz2'.out rfl (by decide) (.slice (some ⟨U.heap.size + 1, 0, none⟩) 0 0) 0 [] (by rfl) oC.out ⟨gm, 0, none⟩ bm.length capm (bm.flatMap Bx.cells) (by rfl) (flat_length bx_len bm) (row_news (rU.out.carry bC.out)) (flat_one bx_one bm) hn1 (by unfold maxLen; omega) (by omega) bC.out.size _ rfl ?_; intro ga ca w1 hown1 hgrow1 hat1 hlt1; simp only [Nat.zero_add, List.nil_append] at hown1 ⊢; have hA1 : Below U.heap.size U w1 := bC.out.grown hgrow1 bC.out.size (fun j hj => by cases hj; exact Nat.le_succ _); have hN1 : News w1 U.heap.size O := nC.out.grown hgrow1 (by simp [Value.ownBlock]))
            | (refine step_append_lies _ (by rfl) _ _ _ (by rfl) U.heap.size 23 i0 _ 4 32 Try.underlying27 hi0'.out hz0'.out hz1'.out hz2'.out rfl (by decide) _ bm.length (bm.flatMap Bx.cells) (by rfl) (World.ownsRow.alloc hown1 _) ⟨_, 0, none⟩ 1 1 [.int .i64 O.x0, .int .i64 O.y0, .int .i64 O.x1, .int .i64 O.y1] (by rfl) rfl (News.new w1 O) (four_one _ _ _ _) (by omega) (by unfold maxLen; omega) (by omega) (below_step hA1 (alloc_below w1 _)).size _ rfl ?_; intro gb cb w2 hown2 hgrow2 hat2 hlt2; have hA2 : Below U.heap.size U w2 := (below_step hA1 (alloc_below w1 _)).grown hgrow2 (below_step hA1 (alloc_below w1 _)).size (fun j hj => by cases hj; exact (World.ownsRow.lt hown1 ga rfl).1))
            | (refine step_append_lies _ (by rfl) _ _ _ (by rfl) U.heap.size 23 i0 _ 4 32 Try.underlying27 hi0'.out hz0'.out hz1'.out hz2'.out rfl (by decide) _ bm.length (bm.flatMap Bx.cells) (by rfl) hown1 ⟨_, 0, none⟩ 1 1 [.int .i64 O.x0, .int .i64 O.y0, .int .i64 O.x1, .int .i64 O.y1] (by rfl) rfl hN1 (four_one _ _ _ _) (by omega) (by unfold maxLen; omega) (by omega) hA1.size _ rfl ?_; intro gb cb w2 hown2 hgrow2 hat2 hlt2; have hA2 : Below U.heap.size U w2 := hA1.grown hgrow2 hA1.size (fun j hj => by cases hj; exact (World.ownsRow.lt hown1 ga rfl).1))
            | (go_simp; go_at_call 16; refine (pairsG_any _ (bm ++ [O]) _ (boxes_of hown2) (by rw [List.length_append, List.length_singleton]; omega)).mono ?_; rintro e V ⟨⟨vp, rfl, hvp⟩, hb2⟩; have hA3 : Below U.heap.size U V := below_step hA2 hb2; dsimp only)
            | (go_at_call 16; refine (pairsG_any _ (bm ++ [O]) _ (boxes_of hown2) (by rw [List.length_append, List.length_singleton]; omega)).mono ?_; rintro e V ⟨⟨vp, rfl, hvp⟩, hb2⟩; have hA3 : Below U.heap.size U V := below_step hA2 hb2; dsimp only))
        all_goals
          go_wp2_with fail
          go_meet
          exact ⟨hvp, hA3⟩
      obtain ⟨hvp, hA3⟩ := hcut
      obtain ⟨V, hVV⟩ : ∃ V, V = wc := ⟨wc, rfl⟩
      subst hVV
      obtain ⟨vp, hVV⟩ : ∃ vp, vp = u13 := ⟨u13, rfl⟩
      subst hVV
      have gV := Lib.hid (below_step hBU.out hA3)
      have rV := Lib.hid (rU.out.carry hA3)
      have P0 := (hA3.cell q0).trans p0
      have P1 := (hA3.cell q0).trans p1
      have P2 := (hA3.cell q0).trans p2
      have P3 := (hA3.cell q0).trans p3
      have gP := Lib.hid hvp
      have hVs := hA3.size
      clear hA3 hvp oA oB oC bA bB bC nB nC mk p0 p1 p2 p3 o0 o1 o2 o3 rU rM hBU hi0' hz0' hz1' hz2'
      go_wp2_with fail
      go_loopw [14] (fun i wr => ∃ k : Nat, k ≤ bm.length ∧ i = .int .i64 k ∧ Below V.heap.size V wr) (fun i _ => bm.length - (intOf i).toNat)
      case atStart => exact ⟨0, Nat.zero_le _, rfl, Below.refl _ _⟩
      case round =>
        obtain ⟨i, hi, rfl, hB⟩ := hrel
        by_cases hlt : i < bm.length
        · obtain ⟨c0, c1, c2, c3⟩ := row_box (i := i) ((rV.out).carry hB) hlt
          simp only [Nat.zero_add] at c0 c1 c2 c3
          have t0 := carry hB P0
          have t1 := carry hB P1
          have t2 := carry hB P2
          have t3 := carry hB P3
          have hpb : Proper Bk := by rw [hBk'.out]; exact hgr.out.proper kk hkk
          have hpa : Proper (at' bm i) := hgr.out.proper i hlt
          have hnear := nearest hpa hpb
          have hyes : (hasB (pairs (bm ++ [O])) (min (i : Int) (kk : Int)) (max (i : Int) (kk : Int)) = true ∨ i = kk) → hasB (pairs (bm ++ [O])) (i : Int) (bm.length : Int) = true := contains_has hlt hkk (by rw [← hBk'.out]; exact hpb) (by rw [← hBk'.out]; exact hOb'.out.1.1) (by rw [← hBk'.out]; exact hOb'.out.1.2) (by rw [← hBk'.out]; exact hOb'.out.2.1) (by rw [← hBk'.out]; exact hOb'.out.2.2)
          obtain ⟨A, hA⟩ : ∃ X, X = at' bm i := ⟨_, rfl⟩
          rw [← hA] at c0 c1 c2 c3 hnear
          have hK1 := Lib.hid (has_any vp (pairs (bm ++ [O])) (min (i : Int) (kk : Int)) (max (i : Int) (kk : Int)) wr (gP.out.carry hB))
          have hK2 := Lib.hid (has_any vp (pairs (bm ++ [O])) (i : Int) (bm.length : Int) wr (gP.out.carry hB))
          have hnear' := Lib.hid hnear
          have hB' := Lib.hid hB
          clear hnear hpb hpa hA hB P0 P1 P2 P3
          go_upto_region 13 with fail
          go_cut [90] (fun cx wx => cx = .bool false ∧ wx = wr)
          case first =>
            by_cases hf : hasB (pairs (bm ++ [O])) (min (i : Int) (kk : Int)) (max (i : Int) (kk : Int)) = true
            · rw [hf] at hK1
              rw [hyes (Or.inl hf)] at hK2
              clear hf hyes
              go_wp2_with fail
              with_reducible refine hK1.out.mono ?_
              rintro e w' ⟨rfl, rfl⟩
              go_wp2_with fail
              with_reducible refine hK2.out.mono ?_
              rintro e w' ⟨rfl, rfl⟩
              go_wp2_with fail
              go_meet
              exact ⟨rfl, rfl⟩
            · by_cases hk : i = kk
              · rw [show hasB (pairs (bm ++ [O])) (min (i : Int) (kk : Int)) (max (i : Int) (kk : Int)) = false by simpa using hf] at hK1
                rw [hyes (Or.inr hk)] at hK2
                have hkb : ((i : Int) == (kk : Int)) = true := by simp [hk]
                clear hk
                clear hf hyes
                go_wp2_with fail
                with_reducible refine hK1.out.mono ?_
                rintro e w' ⟨rfl, rfl⟩
                go_wp2_with fail
                with_reducible refine hK2.out.mono ?_
                rintro e w' ⟨rfl, rfl⟩
                go_wp2_with fail
                go_meet
                exact ⟨rfl, rfl⟩
              · rw [show hasB (pairs (bm ++ [O])) (min (i : Int) (kk : Int)) (max (i : Int) (kk : Int)) = false by simpa using hf] at hK1
                have hkb : ((i : Int) == (kk : Int)) = false := by simp; omega
                clear hk
                clear hf hyes hK2
                go_wp2_with fail
                with_reducible refine hK1.out.mono ?_
                rintro e w' ⟨rfl, rfl⟩
                clear hK1
                go_wp2_with fail
                go_meet
                exact ⟨rfl, rfl⟩
          obtain ⟨rfl, rfl⟩ := hcut
          clear hK1 hK2 hyes
          go_wp2_with fail
          refine wp_region_made (by kernel_rfl) (by kernel_rfl) ?_
          intro W hK
          have g_c0 := fun x => carry ((hK.below x)) c0
          have g_c1 := fun x => carry ((hK.below x)) c1
          have g_c2 := fun x => carry ((hK.below x)) c2
          have g_c3 := fun x => carry ((hK.below x)) c3
          have g_t0 := fun x => carry ((hK.below x)) t0
          have g_t1 := fun x => carry ((hK.below x)) t1
          have g_t2 := fun x => carry ((hK.below x)) t2
          have g_t3 := fun x => carry ((hK.below x)) t3
          repeat (go_big_quiet_step ((go_at_call 24; with_reducible exact met_same (clamp_any _ _ _ _))))
          refine wpQuiet_nil ?_
          intro wq hw'
          have hbq := kept_in hK hw'
          clear g_c0 g_c1 g_c2 g_c3 g_t0 g_t1 g_t2 g_t3
          clear hw' hK W
          replace c0 := carry (hbq) c0
          replace c1 := carry (hbq) c1
          replace c2 := carry (hbq) c2
          replace c3 := carry (hbq) c3
          replace t0 := carry (hbq) t0
          replace t1 := carry (hbq) t1
          replace t2 := carry (hbq) t2
          replace t3 := carry (hbq) t3
          have hs1 := Lib.hid hbq
          clear hbq
          go_wp2_with fail
          refine wp_region_made (by kernel_rfl) (by kernel_rfl) ?_
          intro W hK
          have g_c0 := fun x => carry ((hK.below x)) c0
          have g_c1 := fun x => carry ((hK.below x)) c1
          have g_c2 := fun x => carry ((hK.below x)) c2
          have g_c3 := fun x => carry ((hK.below x)) c3
          have g_t0 := fun x => carry ((hK.below x)) t0
          have g_t1 := fun x => carry ((hK.below x)) t1
          have g_t2 := fun x => carry ((hK.below x)) t2
          have g_t3 := fun x => carry ((hK.below x)) t3
          repeat (go_big_quiet_step ((go_at_call 24; with_reducible exact met_same (clamp_any _ _ _ _))))
          refine wpQuiet_nil ?_
          intro wq hw'
          have hbq := kept_in hK hw'
          clear g_c0 g_c1 g_c2 g_c3 g_t0 g_t1 g_t2 g_t3
          clear hw' hK W
          replace c0 := carry (hbq) c0
          replace c1 := carry (hbq) c1
          replace c2 := carry (hbq) c2
          replace c3 := carry (hbq) c3
          replace t0 := carry (hbq) t0
          replace t1 := carry (hbq) t1
          replace t2 := carry (hbq) t2
          replace t3 := carry (hbq) t3
          have hs2 := Lib.hid hbq
          clear hbq
          have e1 : ov ⟨clampV A.x0 Bk.x0 Bk.x1, clampV A.y0 Bk.y0 Bk.y1, clampV A.x0 Bk.x0 Bk.x1, clampV A.y0 Bk.y0 Bk.y1⟩ ⟨A.x0, A.y0, A.x1, A.y1⟩ = ov ⟨Bk.x0, Bk.y0, Bk.x1, Bk.y1⟩ ⟨A.x0, A.y0, A.x1, A.y1⟩ := hnear'.out
          clear hnear'
          generalize clampV A.x0 Bk.x0 Bk.x1 = X at *
          generalize clampV A.y0 Bk.y0 Bk.y1 = Y at *
          have n0 : (wq.alloc (.cells #[.int .i64 X, .int .i64 Y, .int .i64 X, .int .i64 Y] 23)).cell? ⟨wq.heap.size, 0, none⟩ = some (.int .i64 X) := World.cell?_alloc_new (w := wq) #[.int .i64 X, .int .i64 Y, .int .i64 X, .int .i64 Y] 23 0
          have n1 : (wq.alloc (.cells #[.int .i64 X, .int .i64 Y, .int .i64 X, .int .i64 Y] 23)).cell? ⟨wq.heap.size, 1, none⟩ = some (.int .i64 Y) := World.cell?_alloc_new (w := wq) #[.int .i64 X, .int .i64 Y, .int .i64 X, .int .i64 Y] 23 1
          have n2 : (wq.alloc (.cells #[.int .i64 X, .int .i64 Y, .int .i64 X, .int .i64 Y] 23)).cell? ⟨wq.heap.size, 2, none⟩ = some (.int .i64 X) := World.cell?_alloc_new (w := wq) #[.int .i64 X, .int .i64 Y, .int .i64 X, .int .i64 Y] 23 2
          have n3 : (wq.alloc (.cells #[.int .i64 X, .int .i64 Y, .int .i64 X, .int .i64 Y] 23)).cell? ⟨wq.heap.size, 3, none⟩ = some (.int .i64 Y) := World.cell?_alloc_new (w := wq) #[.int .i64 X, .int .i64 Y, .int .i64 X, .int .i64 Y] 23 3
          replace c0 := carry (alloc_below wq (.cells #[.int .i64 X, .int .i64 Y, .int .i64 X, .int .i64 Y] 23)) c0
          replace c1 := carry (alloc_below wq (.cells #[.int .i64 X, .int .i64 Y, .int .i64 X, .int .i64 Y] 23)) c1
          replace c2 := carry (alloc_below wq (.cells #[.int .i64 X, .int .i64 Y, .int .i64 X, .int .i64 Y] 23)) c2
          replace c3 := carry (alloc_below wq (.cells #[.int .i64 X, .int .i64 Y, .int .i64 X, .int .i64 Y] 23)) c3
          replace t0 := carry (alloc_below wq (.cells #[.int .i64 X, .int .i64 Y, .int .i64 X, .int .i64 Y] 23)) t0
          replace t1 := carry (alloc_below wq (.cells #[.int .i64 X, .int .i64 Y, .int .i64 X, .int .i64 Y] 23)) t1
          replace t2 := carry (alloc_below wq (.cells #[.int .i64 X, .int .i64 Y, .int .i64 X, .int .i64 Y] 23)) t2
          replace t3 := carry (alloc_below wq (.cells #[.int .i64 X, .int .i64 Y, .int .i64 X, .int .i64 Y] 23)) t3
          have hs3 := Lib.hid (alloc_below wq (.cells #[.int .i64 X, .int .i64 Y, .int .i64 X, .int .i64 Y] 23))
          go_upto_region 18 with fail
          generalize wq.alloc (.cells #[.int .i64 X, .int .i64 Y, .int .i64 X, .int .i64 Y] 23) = W3 at *
          have k1 := fun W => overlap4 X Y X Y A.x0 A.y0 A.x1 A.y1 W
          have k2 := fun W => overlap4 Bk.x0 Bk.y0 Bk.x1 Bk.y1 A.x0 A.y0 A.x1 A.y1 W
          rw [e1] at k1
          obtain ⟨q, hq⟩ : ∃ q, q = ov ⟨Bk.x0, Bk.y0, Bk.x1, Bk.y1⟩ ⟨A.x0, A.y0, A.x1, A.y1⟩ := ⟨_, rfl⟩
          rw [← hq] at k1 k2
          have hk := Lib.hid (And.intro k1 k2)
          clear k1 k2 e1 hq
          cases q
          all_goals
            refine wp_region_made (by kernel_rfl) (by kernel_rfl) ?_
            intro W hK
            have g_c0 := fun x => carry ((hK.below x)) c0
            have g_c1 := fun x => carry ((hK.below x)) c1
            have g_c2 := fun x => carry ((hK.below x)) c2
            have g_c3 := fun x => carry ((hK.below x)) c3
            have g_t0 := fun x => carry ((hK.below x)) t0
            have g_t1 := fun x => carry ((hK.below x)) t1
            have g_t2 := fun x => carry ((hK.below x)) t2
            have g_t3 := fun x => carry ((hK.below x)) t3
            have g_n0 := fun x => carry ((hK.below x)) n0
            have g_n1 := fun x => carry ((hK.below x)) n1
            have g_n2 := fun x => carry ((hK.below x)) n2
            have g_n3 := fun x => carry ((hK.below x)) n3
            repeat (go_big_quiet_step ((first | (go_at_call 11; with_reducible exact met_made (hk.out.1 _)) | (go_at_call 11; with_reducible exact met_made (hk.out.2 _)))))
            refine wpQuiet_nil ?_
            intro wq hw'
            have hbq := kept_in hK hw'
            clear g_c0 g_c1 g_c2 g_c3 g_t0 g_t1 g_t2 g_t3 g_n0 g_n1 g_n2 g_n3
            clear hw' hK W
            replace c0 := carry (hbq) c0
            replace c1 := carry (hbq) c1
            replace c2 := carry (hbq) c2
            replace c3 := carry (hbq) c3
            replace t0 := carry (hbq) t0
            replace t1 := carry (hbq) t1
            replace t2 := carry (hbq) t2
            replace t3 := carry (hbq) t3
            replace n0 := carry (hbq) n0
            replace n1 := carry (hbq) n1
            replace n2 := carry (hbq) n2
            replace n3 := carry (hbq) n3
            have hs4 := Lib.hid hbq
            clear hbq
            go_wp2_with fail
            go_roundw
            case rel => exact ⟨i + 1, by omega, by go_num, below_step (below_step (below_step (below_step hB'.out hs1.out) hs2.out) hs3.out) hs4.out⟩
            case measure => simp [intOf]; omega
        · obtain rfl : i = bm.length := by omega
          have gW := Lib.hid hB
          clear hB hlt
          go_wp2_with fail
          refine (lives4_any _).mono ?_
          rintro e u9 ⟨rfl, hb9⟩
          go_wp2
          go_ret
          exact ⟨rfl, below_step (below_step gV.out gW.out) hb9⟩

set_option maxRecDepth 100000 in
theorem lifted (os : Os) (started : os.Started) (H : Type) (enc : TypeId × Value → H) :
    ReturnsInHanded {} Try.checked os 8 .any (Rows.broadphaseContainsSpec.pre6 enc Try.prog Try.f8 Rows.broadphaseContainsRow.domain false) (Rows.broadphaseContainsSpec.post enc Try.prog Try.f8 false true false false) := by
  refine returnsInHanded_of_change (C := Try.checked) own started (by kernel_rfl) Try.func8
    (ChangeSpec.witness6 (enc := enc) (C := Try.checked) false ⟨#[], #[.slice none 0 0, .int .i64 0, .int .i64 0], []⟩ 8 (by kernel_rfl) (by kernel_rfl) (by kernel_rfl) (by kernel_rfl)) ?_
  intro W base args ds gs before hval0 hW hcnd _
  have hval : ∀ (j : Nat) t v, Try.f8.params[j]? = some t → args[j]? = some v → Value.okWide Try.prog W .any base t v := hval0
  have hW' := hW
  obtain ⟨p, q, hA0, hV, rfl, hfz, hnd⟩ := hW
  have hA : DataW.TrodAll enc Try.prog W 0 (fun _ => true) true Try.f8.params.toList args.toList ds p := hA0
  rw [Try.params8] at hA hval
  have hAk := hA
  obtain ⟨v0, vs0, d0, ds0, p0, q0, hargs, rfl, hp0, h0, r0⟩ := trodAll_cons hA
  obtain ⟨v1, vs1, d1, ds1, p1, q1, rfl, rfl, hp1, h1, r1⟩ := trodAll_cons r0
  obtain ⟨v2, vs2, d2, ds2, p2, q2, rfl, rfl, hp2, h2, r2⟩ := trodAll_cons r1
  obtain ⟨rfl, rfl, -⟩ := trodAll_nil r2
  obtain rfl : args = #[v0, v1, v2] := by cases args; simp_all
  obtain ⟨rfl, rfl⟩ := trodVars_none hV
  obtain ⟨x0, q0, c0, rfl⟩ := okWide_slice Try.underlying28 (hval 0 28 v0 rfl rfl)
  obtain ⟨fu0, fh0⟩ := h0
  obtain ⟨s0, Z0, l0, e0, H0, N0⟩ := open_int_cells2 Try.underlying28 Try.underlying3 (by kernel_rfl) fh0
  simp only [Value.cells, List.cons.injEq, and_true] at e0
  obtain rfl := e0.symm
  obtain ⟨a1, rfl, -, -, w1⟩ := open_int Try.underlying3 (hval 1 3 v1 rfl rfl) h1
  obtain ⟨a2, rfl, -, -, w2⟩ := open_int Try.underlying3 (hval 2 3 v2 rfl rfl) h2
  clear hA0 hval0
  simp only [List.append_nil] at hW'
  refine (walk W _ Z0 l0 H0 N0 a1 w1 a2 w2).mono fun e W' ⟨he, hb⟩ => ?_
  subst he
  exact ⟨_, rfl, kept_post (pa := p) hW' (fun _ _ _ => (trodAll_cons_mk (shut_bool Try.underlying4 _) trodAll_mk0)) (fun sp hsp => trodAll_stays laid hb (by rw [Try.params8]; decide +kernel) hAk (fun x hx => hW'.lt x hx) hsp) (fun _ => rfl) hb (ok_one (by kernel_rfl) rfl (okWide_bool_mk Try.underlying4 _))⟩

theorem over : Rows.broadphaseContainsRow.holds Try.pinned (OpenSpec.ofChange Rows.broadphaseContainsSpec) :=
  OpenClaim.holds_of_wide 8 Try.f8 rfl rfl rfl rfl rfl rfl rfl ⟨rfl, rfl, rfl, rfl, rfl⟩ rfl rfl rfl rfl rfl (by kernel_rfl) Try.func8 (by kernel_rfl)
    (of_decide_eq_true (by kernel_rfl)) (by unfold Func.isWrapper; first | (rw [if_pos (by decide +kernel)]; kernel_rfl) | (rw [if_neg (by decide +kernel)]; exact ⟨rfl, rfl⟩))
    (fun os started H enc _ => lifted os started H enc)

theorem proved : Rows.BroadphaseContainsSaid :=
  over
#print axioms proved
end Go.Proofs.Ytbgafimiodfkaaa.broadphaseContains
