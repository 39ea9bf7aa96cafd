/- The reference's Bent. -/
import Derived.Test.YtbaclbncielinaaShapeM
namespace Go.Proofs.Ytbaclbncielinaa
open Go.ChangeShapes Go.WideShapes Go.ChangeAt Go.RowKit
open Fxm
set_option linter.unusedSimpArgs false
set_option linter.unusedVariables false

theorem flatV_set1 : ∀ (vs : List (Int × Int)) (i : Nat) (x : Int), i < vs.length → flatV (vs.set i (x, (at' vs i).2)) = (flatV vs).set (i * 2) (.int .i64 x)
  | p :: l, 0, x, _ => rfl
  | p :: l, i + 1, x, h => by
    rw [show (i + 1) * 2 = i * 2 + 1 + 1 by omega]
    have := flatV_set1 l i x (by simpa using h)
    have e : at' (p :: l) (i + 1) = at' l i := by unfold at'; simp
    rw [e]
    simp only [List.set_cons_succ, flatV, this]
theorem flatV_set2 : ∀ (vs : List (Int × Int)) (i : Nat) (y : Int), i < vs.length → flatV (vs.set i ((at' vs i).1, y)) = (flatV vs).set (i * 2 + 1) (.int .i64 y)
  | p :: l, 0, y, _ => rfl
  | p :: l, i + 1, y, h => by
    rw [show (i + 1) * 2 + 1 = i * 2 + 1 + 1 + 1 by omega]
    have := flatV_set2 l i y (by simpa using h)
    have e : at' (p :: l) (i + 1) = at' l i := by unfold at'; simp
    rw [e]
    simp only [List.set_cons_succ, flatV, this]
theorem at_set {vs : List (Int × Int)} {i : Nat} {p : Int × Int} (h : i < vs.length) : at' (vs.set i p) i = p := by
  unfold at'; rw [List.getD_eq_getElem?_getD, List.getElem?_set_self (by simpa using h)]; rfl
theorem Row.put {w : World} {g cap k : Nat} {vs vs' : List (Int × Int)} {u : Value} (h : Row w g cap vs) (hl : vs'.length = vs.length) (hf : flatV vs' = (flatV vs).set k u) : Row (w.setCell ⟨g, k, none⟩ u) g cap vs' := by
  refine ⟨by rw [hl]; exact h.le, h.max, fun i v hv => ?_⟩
  rw [hf, List.getElem?_set] at hv
  split at hv
  · rename_i e
    subst e
    split at hv
    · rename_i hk
      cases hv
      have hk' : (flatV vs)[k]? = some ((flatV vs)[k]'hk) := List.getElem?_eq_getElem hk
      exact World.cell?_setCell_same' _ _ _ (by rw [h.cells _ _ hk']; rfl)
    · cases hv
  · rename_i e
    have := h.cells _ _ hv
    exact (World.cell?_setCell_other _ _ _ _ (fun q => e (by injection q))).trans this

theorem bent_facts {w w1 : World} {vs : List (Int × Int)} {g cap v1 c1 : Nat} (hl : 0 < vs.length) (hown : w1.ownsRow (w.heap.size + 3) 37 2 (.slice (some ⟨v1, 0, none⟩) vs.length c1) vs.length (flatV vs))
    (hb : Below (w.heap.size + 3) (((w.alloc (.cells #[.int .i64 0, .slice (some ⟨g, 0, none⟩) vs.length cap] 24)).alloc (.cells #[.int .i64 0, .slice none 0 0] 24)).alloc (.cells #[.int .i64 0, .slice none 0 0] 24)) w1) :
    Row w1 v1 c1 vs ∧ w.heap.size + 3 ≤ v1 ∧ Below w.heap.size w w1 ∧ (w1.cell? ⟨w.heap.size, 0, none⟩ = some (.int .i64 0) ∧ w1.cell? ⟨w.heap.size, 1, none⟩ = some (.slice (some ⟨g, 0, none⟩) vs.length cap)) ∧
      (w1.cell? ⟨w.heap.size + 1, 0, none⟩ = some (.int .i64 0) ∧ w1.cell? ⟨w.heap.size + 1, 1, none⟩ = some (.slice none 0 0)) ∧ (w1.cell? ⟨w.heap.size + 1 + 1, 0, none⟩ = some (.int .i64 0) ∧ w1.cell? ⟨w.heap.size + 1 + 1, 1, none⟩ = some (.slice none 0 0)) ∧
      (∀ k, w1.frozen? ⟨w.heap.size + 1, k, none⟩ = false) ∧ (∀ k, w1.frozen? ⟨w.heap.size + 1 + 1, k, none⟩ = false) ∧ (∀ k, w1.frozen? ⟨v1, k, none⟩ = false) := by
  have hW := below_step (below_step (alloc_below w (.cells #[.int .i64 0, .slice (some ⟨g, 0, none⟩) vs.length cap] 24)) (alloc_below _ (.cells #[.int .i64 0, .slice none 0 0] 24))) (alloc_below _ (.cells #[.int .i64 0, .slice none 0 0] 24))
  have hlt := hown.lt v1 (by simp [Value.ownBlock])
  have hfz : ∀ k, w1.frozen? ⟨v1, k, none⟩ = false := fun k => by
    rcases hown.2 with ⟨h3, h4⟩ | ⟨g', cap', cur, h3, h4, h5, _⟩
    · cases h3
    · simp only [Value.slice.injEq, Option.some.injEq, Addr.mk.injEq] at h3
      obtain ⟨⟨rfl, _, _⟩, _, _⟩ := h3
      exact heap_frozen h5 k
  refine ⟨Row.owned hown rfl, hlt.1, hW.trans (hb.mono (by omega)), ⟨(hb.cell (by simp)).trans (by simp [go_sem]), (hb.cell (by simp)).trans (by simp [go_sem])⟩, ⟨(hb.cell (by simp)).trans (by simp [go_sem]), (hb.cell (by simp)).trans (by simp [go_sem])⟩, ⟨(hb.cell (by simp)).trans (by simp [go_sem]), (hb.cell (by simp)).trans (by simp [go_sem])⟩, fun k => (hb.frozen (by simp)).trans (by simp [go_sem]), fun k => (hb.frozen (by simp)).trans (by simp [go_sem]), hfz⟩

theorem bent_news (w : World) (p : Addr) (u x y : Value) : ∀ j v, [x, y][j]? = some v → ((w.setCell p u).alloc (.cells #[x, y] 37)).cell? ((⟨w.heap.size, 0, none⟩ : Addr).add j) = some v := by
  have hz : (w.setCell p u).heap.size = w.heap.size := by simp [World.setCell]
  have := World.news_of_block (cs := #[x, y]) (t := 37) (fr := (0, 0)) (heap_alloc_new (w.setCell p u) (.cells #[x, y] 37))
  rw [hz] at this
  exact this
theorem bent_facts2 {w w1 w2 : World} {vs : List (Int × Int)} {v2 c2 : Nat} {x y : Int} {u z : Value} (hs1 : Below w.heap.size w w1) (hz1 : w.heap.size + 3 ≤ w1.heap.size)
    (r0 : w1.cell? ⟨w.heap.size + 1, 0, none⟩ = some (.int .i64 0)) (r1 : w1.cell? ⟨w.heap.size + 1, 1, none⟩ = some z)
    (o0 : w1.cell? ⟨w.heap.size + 1 + 1, 0, none⟩ = some (.int .i64 0)) (o1 : w1.cell? ⟨w.heap.size + 1 + 1, 1, none⟩ = some z)
    (fr0 : w1.frozen? ⟨w.heap.size + 1, 0, none⟩ = false) (fr1 : w1.frozen? ⟨w.heap.size + 1, 1, none⟩ = false) (fo0 : w1.frozen? ⟨w.heap.size + 1 + 1, 0, none⟩ = false) (fo1 : w1.frozen? ⟨w.heap.size + 1 + 1, 1, none⟩ = false)
    (hown : w2.ownsRow (w.heap.size + 3) 37 2 (.slice (some ⟨v2, 0, none⟩) (vs.length + 1) c2) (vs.length + 1) (flatV vs ++ [.int .i64 x, .int .i64 y]))
    (hb : Below (w.heap.size + 3) ((w1.setCell ⟨w.heap.size + 1 + 1, 1, none⟩ u).alloc (.cells #[.int .i64 x, .int .i64 y] 37)) w2) :
    Row w2 v2 c2 (vs ++ [(x, y)]) ∧ w.heap.size + 3 ≤ v2 ∧ Below w.heap.size w w2 ∧
      (w2.cell? ⟨w.heap.size + 1, 0, none⟩ = some (.int .i64 0) ∧ w2.cell? ⟨w.heap.size + 1, 1, none⟩ = some z) ∧ (w2.cell? ⟨w.heap.size + 1 + 1, 0, none⟩ = some (.int .i64 0) ∧ w2.cell? ⟨w.heap.size + 1 + 1, 1, none⟩ = some u) ∧
      (w2.frozen? ⟨w.heap.size + 1, 0, none⟩ = false ∧ w2.frozen? ⟨w.heap.size + 1, 1, none⟩ = false) ∧ (w2.frozen? ⟨w.heap.size + 1 + 1, 0, none⟩ = false ∧ w2.frozen? ⟨w.heap.size + 1 + 1, 1, none⟩ = false) := by
  have hsz : (w1.setCell ⟨w.heap.size + 1 + 1, 1, none⟩ u).heap.size = w1.heap.size := by simp [World.setCell]
  have ha := alloc_below (w1.setCell ⟨w.heap.size + 1 + 1, 1, none⟩ u) (.cells #[.int .i64 x, .int .i64 y] 37)
  rw [hsz] at ha
  have hab := (ha.mono hz1).trans hb
  have hc : ∀ p : Addr, p.block < w.heap.size + 3 → w2.cell? p = (w1.setCell ⟨w.heap.size + 1 + 1, 1, none⟩ u).cell? p := fun p h => hab.cell h
  have hf : ∀ p : Addr, p.block < w.heap.size + 3 → w2.frozen? p = w1.frozen? p := fun p h => (hab.frozen h).trans (World.frozen?_setCell _ _ _ _)
  refine ⟨Row.owned (vs := vs ++ [(x, y)]) (by rw [flatV_append]; exact hown) (by simp), (hown.lt v2 (by simp [Value.ownBlock])).1, (hs1.setCell (by simp; omega) _).trans (hab.mono (by omega)), ⟨?_, ?_⟩, ⟨?_, ?_⟩, ⟨?_, ?_⟩, ⟨?_, ?_⟩⟩
  · exact (hc _ (by simp)).trans ((World.cell?_setCell_other _ _ _ _ (by simp)).trans r0)
  · exact (hc _ (by simp)).trans ((World.cell?_setCell_other _ _ _ _ (by simp)).trans r1)
  · exact (hc _ (by simp)).trans ((World.cell?_setCell_other _ _ _ _ (by simp)).trans o0)
  · exact (hc _ (by simp)).trans (World.cell?_setCell_same' _ _ _ (by rw [o1]; rfl))
  · exact (hf _ (by simp)).trans fr0
  · exact (hf _ (by simp)).trans fr1
  · exact (hf _ (by simp)).trans fo0
  · exact (hf _ (by simp)).trans fo1
set_option maxRecDepth 100000 in
set_option maxHeartbeats 8000000 in
theorem bentP_any (how n : Int) (g cap : Nat) (vs : List (Int × Int)) (w : World) (hR : Row w g cap vs) (hG : Gen vs) (hh : (Lit.int .i64 how).wf = true) (hn : (Lit.int .i64 n).wf = true) :
    Calls Try.prog 5 #[.agg #[.int .i64 0, .slice (some ⟨g, 0, none⟩) vs.length cap], .int .i64 how, .int .i64 n] w fun e w' =>
      (∃ r' g' n' c' vs', e = .returned (.agg #[.int .i64 r', .slice (some ⟨g', 0, none⟩) n' c']) ∧ n' = vs'.length ∧ Row w' g' c' vs') ∧ Below w.heap.size w w' := by
  obtain ⟨h1, h2⟩ := bounds_i64 hh
  obtain ⟨n1, n2⟩ := bounds_i64 hn
  have hcap := hR.le
  have hmax := hR.max
  unfold maxLen at hmax
  have hl3 := hG.lo
  have hl6 := hG.hi
  have hlb : (vs.length : Int) ≤ 6 := by omega
  have hla : 3 ≤ (vs.length : Int) := by omega
  have hl0 : ((vs.length : Int) == 0) = false := by simp only [beq_eq_false_iff_ne, ne_eq]; omega
  obtain ⟨i0, hi0, hz0, hz1, hz2⟩ := info_parts vinfo
  have hR' := Lib.hid hR
  have hGh := Lib.hid hG
  clear hR hG hh hn
  go_enter Try.func5, Try.ntmps5
  go_wp2_with fail
  refine (aroundx_any _ _ _ h1 h2 (by omega)).mono ?_
  rintro e w' ⟨⟨k, k1, k2, rfl⟩, rfl⟩
  go_wp2_with fail
  refine (boundx_any _ _ _ n1 n2 (by omega) (by omega)).mono ?_
  rintro e w' ⟨⟨m, m1, m2, rfl⟩, rfl⟩
  clear h1 h2 n1 n2
  have hW := below_step (below_step (alloc_below w (.cells #[.int .i64 0, .slice (some ⟨g, 0, none⟩) vs.length cap] 24)) (alloc_below _ (.cells #[.int .i64 0, .slice none 0 0] 24))) (alloc_below _ (.cells #[.int .i64 0, .slice none 0 0] 24))
  have hc : ∀ i u, (flatV vs)[i]? = some u → w.cell? ⟨g, 0 + i, none⟩ = some u := fun i u h => by rw [Nat.zero_add]; exact hR'.out.cells i u h
  have hcase : k % 5 = 0 ∨ k % 5 = 1 ∨ k % 5 = 2 ∨ k % 5 = 3 ∨ k % 5 = 4 := by omega
  rcases hcase with h | h | h | h | h
  · have b0 : (k % 5 == 0) = true := by simp; omega
    clear h
    go_wp2_with (at_builtin; refine append_row rfl _ _ 22 rfl (w.heap.size + 3) 37 i0 _ 2 16 Try.underlying22 hi0 hz0 hz1 hz2 rfl (by omega) _ 0 [] rfl (World.ownsRow_nil _ _ _ _) ⟨g, 0, none⟩ vs.length cap (flatV vs) rfl (by rw [flatV_length]) (news_of hW hc 0) (flatV_one _) (by unfold maxLen; omega) (by omega) (by simp) (by omega) ?_; intro v1 c1 w1 hown1 hb1; simp only [Nat.zero_add, List.nil_append] at hown1; obtain ⟨hrow0, hlt1, hs1, ⟨s0, s1⟩, ⟨r0, r1⟩, ⟨o0, o1⟩, fr, fo, fv⟩ := bent_facts (vs := vs) (g := g) (cap := cap) (by omega) hown1 hb1; have hrow := Lib.hid hrow0; have fr0 := fr 0; have fr1 := fr 1; have fo0 := fo 0; have fo1 := fo 1; have fv' := Lib.hid fv; clear hrow0 fr fo fv; have g1 : ¬ v1 = w.heap.size := (by omega); have g2 : ¬ v1 = w.heap.size + 1 := (by omega); have g3 : ¬ v1 = w.heap.size + 1 + 1 := (by omega); have g4 : ¬ w.heap.size = v1 := (by omega); have g5 : ¬ w.heap.size + 1 = v1 := (by omega); have g6 : ¬ w.heap.size + 1 + 1 = v1 := (by omega); skip)
    refine bodyPost_ret (v := .agg #[.int .i64 m, .slice (some ⟨v1, 0, none⟩) vs.length c1]) (by simp [results, Try.results5, go_sem, r0, r1]) rfl ⟨⟨m, v1, vs.length, c1, vs, rfl, rfl, ?_⟩, ?_⟩
    · exact (((hrow.out.store (by simp; omega) _).store (by simp; omega) _).store (by simp; omega) _).store (by simp; omega) _
    · exact (((hs1.setCell (by simp; omega) _).setCell (by simp; omega) _).setCell (by simp) _).setCell (by simp) _
  · obtain ⟨i, hi⟩ := Int.eq_ofNat_of_zero_le (show 0 ≤ k / 5 % (vs.length : Int) from Int.emod_nonneg _ (by omega))
    have hil : i < vs.length := by have := Int.emod_lt_of_pos (k / 5) (show 0 < (vs.length : Int) by omega); omega
    have b0 : (k % 5 == 0) = false := by simp; omega
    have b1 : (k % 5 == 1) = true := by simp; omega
    have b2 : (k % 5 == 2) = false := by simp; omega
    have b3 : (k % 5 == 3) = false := by simp; omega
    have b4 : (k % 5 == 4) = false := by simp; omega
    have hil' : (i : Int) < (vs.length : Int) := by omega
    clear h
    go_wp2_with (at_builtin; refine append_row rfl _ _ 22 rfl (w.heap.size + 3) 37 i0 _ 2 16 Try.underlying22 hi0 hz0 hz1 hz2 rfl (by omega) _ 0 [] rfl (World.ownsRow_nil _ _ _ _) ⟨g, 0, none⟩ vs.length cap (flatV vs) rfl (by rw [flatV_length]) (news_of hW hc 0) (flatV_one _) (by unfold maxLen; omega) (by omega) (by simp) (by omega) ?_; intro v1 c1 w1 hown1 hb1; simp only [Nat.zero_add, List.nil_append] at hown1; obtain ⟨hrow0, hlt1, hs1, ⟨s0, s1⟩, ⟨r0, r1⟩, ⟨o0, o1⟩, fr, fo, fv⟩ := bent_facts (vs := vs) (g := g) (cap := cap) (by omega) hown1 hb1; have hrow := Lib.hid hrow0; have fr0 := fr 0; have fr1 := fr 1; have fo0 := fo 0; have fo1 := fo 1; have fv' := Lib.hid fv; clear hrow0 fr fo fv; have g1 : ¬ v1 = w.heap.size := (by omega); have g2 : ¬ v1 = w.heap.size + 1 := (by omega); have g3 : ¬ v1 = w.heap.size + 1 + 1 := (by omega); have g4 : ¬ w.heap.size = v1 := (by omega); have g5 : ¬ w.heap.size + 1 = v1 := (by omega); have g6 : ¬ w.heap.size + 1 + 1 = v1 := (by omega); (obtain ⟨vx, vy⟩ := hrow.out.at hil; have fvx := fv'.out (i * 2); have fvy := fv'.out (i * 2 + 1)))
    have hln : (vs.set i (m, (at' vs i).2)).length = vs.length := List.length_set
    refine bodyPost_ret (v := .agg #[.int .i64 0, .slice (some ⟨v1, 0, none⟩) vs.length c1]) (by simp [results, Try.results5, go_sem, r0, r1]) rfl ⟨⟨0, v1, vs.length, c1, vs.set i (m, (at' vs i).2), rfl, hln.symm, ?_⟩, ?_⟩
    · exact (((hrow.out.store (by simp; omega) _).put hln (flatV_set1 vs i m hil)).store (by simp; omega) _).store (by simp; omega) _
    · exact (((hs1.setCell (by simp; omega) _).setCell (by simp; omega) _).setCell (by simp) _).setCell (by simp) _
  · obtain ⟨i, hi⟩ := Int.eq_ofNat_of_zero_le (show 0 ≤ k / 5 % (vs.length : Int) from Int.emod_nonneg _ (by omega))
    have hil : i < vs.length := by have := Int.emod_lt_of_pos (k / 5) (show 0 < (vs.length : Int) by omega); omega
    have b0 : (k % 5 == 0) = false := by simp; omega
    have b1 : (k % 5 == 1) = false := by simp; omega
    have b2 : (k % 5 == 2) = true := by simp; omega
    have b3 : (k % 5 == 3) = false := by simp; omega
    have b4 : (k % 5 == 4) = false := by simp; omega
    have hil' : (i : Int) < (vs.length : Int) := by omega
    clear h
    go_wp2_with (at_builtin; refine append_row rfl _ _ 22 rfl (w.heap.size + 3) 37 i0 _ 2 16 Try.underlying22 hi0 hz0 hz1 hz2 rfl (by omega) _ 0 [] rfl (World.ownsRow_nil _ _ _ _) ⟨g, 0, none⟩ vs.length cap (flatV vs) rfl (by rw [flatV_length]) (news_of hW hc 0) (flatV_one _) (by unfold maxLen; omega) (by omega) (by simp) (by omega) ?_; intro v1 c1 w1 hown1 hb1; simp only [Nat.zero_add, List.nil_append] at hown1; obtain ⟨hrow0, hlt1, hs1, ⟨s0, s1⟩, ⟨r0, r1⟩, ⟨o0, o1⟩, fr, fo, fv⟩ := bent_facts (vs := vs) (g := g) (cap := cap) (by omega) hown1 hb1; have hrow := Lib.hid hrow0; have fr0 := fr 0; have fr1 := fr 1; have fo0 := fo 0; have fo1 := fo 1; have fv' := Lib.hid fv; clear hrow0 fr fo fv; have g1 : ¬ v1 = w.heap.size := (by omega); have g2 : ¬ v1 = w.heap.size + 1 := (by omega); have g3 : ¬ v1 = w.heap.size + 1 + 1 := (by omega); have g4 : ¬ w.heap.size = v1 := (by omega); have g5 : ¬ w.heap.size + 1 = v1 := (by omega); have g6 : ¬ w.heap.size + 1 + 1 = v1 := (by omega); (obtain ⟨vx, vy⟩ := hrow.out.at hil; have fvx := fv'.out (i * 2); have fvy := fv'.out (i * 2 + 1)))
    have hq1 : w.heap.size + 3 ≤ w1.heap.size := by have := hown1.lt v1 (by simp [Value.ownBlock]); omega
    have hq2 : v1 < w1.heap.size := (hown1.lt v1 (by simp [Value.ownBlock])).2
    obtain ⟨U, hU⟩ : ∃ U, U = w1.setCell ⟨w.heap.size + 1 + 1, 1, none⟩ (.slice (some ⟨v1, 0, none⟩) vs.length c1) := ⟨_, rfl⟩
    have hUz : U.heap.size = w1.heap.size := by rw [hU]; simp [World.setCell]
    have U1 : Below w.heap.size w U := by rw [hU]; exact hs1.setCell (by simp; omega) _
    have U2 : Row U v1 c1 vs := by rw [hU]; exact hrow.out.store (by simp; omega) _
    rw [← hU]
    replace o0 : U.cell? ⟨w.heap.size + 1 + 1, 0, none⟩ = some (.int .i64 0) := by rw [hU]; exact (World.cell?_setCell_other _ _ _ _ (by simp)).trans o0
    replace o1 : U.cell? ⟨w.heap.size + 1 + 1, 1, none⟩ = some (.slice (some ⟨v1, 0, none⟩) vs.length c1) := by rw [hU]; exact World.cell?_setCell_same' _ _ _ (by rw [o1]; rfl)
    replace r0 : U.cell? ⟨w.heap.size + 1, 0, none⟩ = some (.int .i64 0) := by rw [hU]; exact (World.cell?_setCell_other _ _ _ _ (by simp)).trans r0
    replace r1 : U.cell? ⟨w.heap.size + 1, 1, none⟩ = some (.slice none 0 0) := by rw [hU]; exact (World.cell?_setCell_other _ _ _ _ (by simp)).trans r1
    replace s1 : U.cell? ⟨w.heap.size, 1, none⟩ = some (.slice (some ⟨g, 0, none⟩) vs.length cap) := by rw [hU]; exact (World.cell?_setCell_other _ _ _ _ (by simp)).trans s1
    replace vx : U.cell? ⟨v1, i * 2, none⟩ = some (.int .i64 (at' vs i).1) := by rw [hU]; exact (World.cell?_setCell_other _ _ _ _ (by first | (simp; done) | (simp; omega))).trans vx
    replace vy : U.cell? ⟨v1, i * 2 + 1, none⟩ = some (.int .i64 (at' vs i).2) := by rw [hU]; exact (World.cell?_setCell_other _ _ _ _ (by first | (simp; done) | (simp; omega))).trans vy
    replace fo0 : U.frozen? ⟨w.heap.size + 1 + 1, 0, none⟩ = false := by rw [hU]; exact (World.frozen?_setCell _ _ _ _).trans fo0
    replace fo1 : U.frozen? ⟨w.heap.size + 1 + 1, 1, none⟩ = false := by rw [hU]; exact (World.frozen?_setCell _ _ _ _).trans fo1
    replace fr0 : U.frozen? ⟨w.heap.size + 1, 0, none⟩ = false := by rw [hU]; exact (World.frozen?_setCell _ _ _ _).trans fr0
    replace fr1 : U.frozen? ⟨w.heap.size + 1, 1, none⟩ = false := by rw [hU]; exact (World.frozen?_setCell _ _ _ _).trans fr1
    replace fvx : U.frozen? ⟨v1, i * 2, none⟩ = false := by rw [hU]; exact (World.frozen?_setCell _ _ _ _).trans fvx
    replace fvy : U.frozen? ⟨v1, i * 2 + 1, none⟩ = false := by rw [hU]; exact (World.frozen?_setCell _ _ _ _).trans fvy
    clear hU hown1 hb1 hs1 s0 hrow fv'
    simp only [hi]
    refine wp_region_tail 14 (by kernel_rfl) (by kernel_rfl) ?_
    intro W hK
    obtain ⟨hc0, hf0, hz0, hbK⟩ := hK
    replace o0 := fun x => (hc0 x _ _ (by omega)).trans o0
    replace o1 := fun x => (hc0 x _ _ (by omega)).trans o1
    replace r0 := fun x => (hc0 x _ _ (by omega)).trans r0
    replace r1 := fun x => (hc0 x _ _ (by omega)).trans r1
    replace s1 := fun x => (hc0 x _ _ (by omega)).trans s1
    replace vx := fun x => (hc0 x _ _ (by omega)).trans vx
    replace vy := fun x => (hc0 x _ _ (by omega)).trans vy
    replace fo0 := fun x => (hf0 x _ _ (by omega)).trans fo0
    replace fo1 := fun x => (hf0 x _ _ (by omega)).trans fo1
    replace fr0 := fun x => (hf0 x _ _ (by omega)).trans fr0
    replace fr1 := fun x => (hf0 x _ _ (by omega)).trans fr1
    replace fvx := fun x => (hf0 x _ _ (by omega)).trans fvx
    replace fvy := fun x => (hf0 x _ _ (by omega)).trans fvy
    have hbd := (hGh.out.bd i hil).2
    obtain ⟨ay, hay⟩ : ∃ ay, ay = (at' vs i).2 := ⟨_, rfl⟩
    obtain ⟨ax, hax⟩ : ∃ ax, ax = (at' vs i).1 := ⟨_, rfl⟩
    rw [← hay] at vy hbd
    rw [← hax] at vx
    have hax' := Lib.hid hax
    clear hay hax hc0 hf0
    simp only [List.take_succ_cons, List.take_zero, List.drop_succ_cons, List.drop_zero]
    repeat (go_big_quiet_step (fail))
    refine wpQuiet_nil ?_
    intro _ hw'
    obtain ⟨xq, hw''⟩ := hw'
    have hbV := hbK xq
    replace o0 := o0 xq
    replace o1 := o1 xq
    replace r0 := r0 xq
    replace r1 := r1 xq
    replace s1 := s1 xq
    replace vx := vx xq
    replace vy := vy xq
    replace fo0 := fo0 xq
    replace fo1 := fo1 xq
    replace fr0 := fr0 xq
    replace fr1 := fr1 xq
    replace fvx := fvx xq
    replace fvy := fvy xq
    rw [← hw''] at hbV o0 o1 r0 r1 s1 vx vy fo0 fo1 fr0 fr1 fvx fvy
    rename_i V
    clear hw'' hz0 hbK
    go_wp2_with fail
    have hln : (vs.set i ((at' vs i).1, wrap64 (ay + m.tmod 5))).length = vs.length := List.length_set
    refine bodyPost_ret (v := .agg #[.int .i64 0, .slice (some ⟨v1, 0, none⟩) vs.length c1]) (by simp [results, Try.results5, go_sem, r0, r1]) rfl ⟨⟨0, v1, vs.length, c1, vs.set i ((at' vs i).1, wrap64 (ay + m.tmod 5)), rfl, hln.symm, ?_⟩, ?_⟩
    · exact (((U2.carry hbV).put hln (flatV_set2 vs i _ hil)).store (by simp; omega) _).store (by simp; omega) _
    · exact (((U1.trans (hbV.mono (by omega))).setCell (by simp; omega) _).setCell (by simp) _).setCell (by simp) _
  · obtain ⟨i, hi⟩ := Int.eq_ofNat_of_zero_le (show 0 ≤ k / 5 % (vs.length : Int) from Int.emod_nonneg _ (by omega))
    have hil : i < vs.length := by have := Int.emod_lt_of_pos (k / 5) (show 0 < (vs.length : Int) by omega); omega
    have b0 : (k % 5 == 0) = false := by simp; omega
    have b1 : (k % 5 == 1) = false := by simp; omega
    have b2 : (k % 5 == 2) = false := by simp; omega
    have b3 : (k % 5 == 3) = true := by simp; omega
    have b4 : (k % 5 == 4) = false := by simp; omega
    have hil' : (i : Int) < (vs.length : Int) := by omega
    clear h
    go_wp2_with (first | (at_builtin; refine append_row rfl _ _ 22 rfl (w.heap.size + 3) 37 i0 _ 2 16 Try.underlying22 hi0 hz0 hz1 hz2 rfl (by omega) _ 0 [] rfl (World.ownsRow_nil _ _ _ _) ⟨g, 0, none⟩ vs.length cap (flatV vs) rfl (by rw [flatV_length]) (news_of hW hc 0) (flatV_one _) (by unfold maxLen; omega) (by omega) (by simp) (by omega) ?_; intro v1 c1 w1 hown1 hb1; simp only [Nat.zero_add, List.nil_append] at hown1; obtain ⟨hrow0, hlt1, hs1, ⟨s0, s1⟩, ⟨r0, r1⟩, ⟨o0, o1⟩, fr, fo, fv⟩ := bent_facts (vs := vs) (g := g) (cap := cap) (by omega) hown1 hb1; have hrow := Lib.hid hrow0; have fr0 := fr 0; have fr1 := fr 1; have fo0 := fo 0; have fo1 := fo 1; have fv' := Lib.hid fv; clear hrow0 fr fo fv; have g1 : ¬ v1 = w.heap.size := (by omega); have g2 : ¬ v1 = w.heap.size + 1 := (by omega); have g3 : ¬ v1 = w.heap.size + 1 + 1 := (by omega); have g4 : ¬ w.heap.size = v1 := (by omega); have g5 : ¬ w.heap.size + 1 = v1 := (by omega); have g6 : ¬ w.heap.size + 1 + 1 = v1 := (by omega); (obtain ⟨vx, vy⟩ := hrow.out.at hil; have fvx := fv'.out (i * 2); have fvy := fv'.out (i * 2 + 1))) | (have hq1 : w.heap.size + 3 ≤ w1.heap.size := (by have := hown1.lt v1 (by simp [Value.ownBlock]); omega); at_builtin; refine append_row rfl _ _ 22 rfl (w.heap.size + 3) 37 i0 _ 2 16 Try.underlying22 hi0 hz0 hz1 hz2 rfl (by omega) _ vs.length (flatV vs) rfl ((ownsRow_setCell_below (a := ⟨w.heap.size + 1 + 1, 1, none⟩) hown1 (by simp) (.slice (some ⟨v1, 0, none⟩) vs.length c1)).alloc _) ⟨w1.heap.size, 0, none⟩ 1 1 [.int .i64 (m.tmod 7), .int .i64 ((m.tdiv 7).tmod 7)] rfl rfl (bent_news w1 ⟨w.heap.size + 1 + 1, 1, none⟩ (.slice (some ⟨v1, 0, none⟩) vs.length c1) _ _) (by simp [Value.oneCell']) (by unfold maxLen; omega) (by omega) (by simp [World.setCell]; omega) (by omega) ?_; intro v2 c2 w2 hown2 hb2; obtain ⟨hrow0, hlt2, hs2, ⟨q0, q1⟩, ⟨p0, p1⟩, ⟨gr0, gr1⟩, ⟨go0, go1⟩⟩ := bent_facts2 (vs := vs) hs1 hq1 r0 r1 o0 o1 fr0 fr1 fo0 fo1 hown2 hb2; have hrow2 := Lib.hid hrow0; have hhs2 := Lib.hid hs2; clear hrow0 hb1 hb2 hown1 hown2 hs1 hs2 r0 r1 o0 o1 fr0 fr1 fo0 fo1 vx vy fvx fvy))
    refine bodyPost_ret (v := .agg #[.int .i64 0, .slice (some ⟨v2, 0, none⟩) (vs.length + 1) c2]) (by simp [results, Try.results5, go_sem, q0, q1]) rfl ⟨⟨0, v2, vs.length + 1, c2, vs ++ [(m.tmod 7, (m.tdiv 7).tmod 7)], rfl, by simp, ?_⟩, ?_⟩
    · exact ((hrow2.out.store (by simp; omega) _).store (by simp; omega) _).store (by simp; omega) _
    · exact ((hhs2.out.setCell (by simp; omega) _).setCell (by simp) _).setCell (by simp) _
  · obtain ⟨i, hi⟩ := Int.eq_ofNat_of_zero_le (show 0 ≤ k / 5 % (vs.length : Int) from Int.emod_nonneg _ (by omega))
    have hil : i < vs.length := by have := Int.emod_lt_of_pos (k / 5) (show 0 < (vs.length : Int) by omega); omega
    have b0 : (k % 5 == 0) = false := by simp; omega
    have b1 : (k % 5 == 1) = false := by simp; omega
    have b2 : (k % 5 == 2) = false := by simp; omega
    have b3 : (k % 5 == 3) = false := by simp; omega
    have b4 : (k % 5 == 4) = true := by simp; omega
    have hil' : (i : Int) < (vs.length : Int) := by omega
    clear h
    go_wp2_with (at_builtin; refine append_row rfl _ _ 22 rfl (w.heap.size + 3) 37 i0 _ 2 16 Try.underlying22 hi0 hz0 hz1 hz2 rfl (by omega) _ 0 [] rfl (World.ownsRow_nil _ _ _ _) ⟨g, 0, none⟩ vs.length cap (flatV vs) rfl (by rw [flatV_length]) (news_of hW hc 0) (flatV_one _) (by unfold maxLen; omega) (by omega) (by simp) (by omega) ?_; intro v1 c1 w1 hown1 hb1; simp only [Nat.zero_add, List.nil_append] at hown1; obtain ⟨hrow0, hlt1, hs1, ⟨s0, s1⟩, ⟨r0, r1⟩, ⟨o0, o1⟩, fr, fo, fv⟩ := bent_facts (vs := vs) (g := g) (cap := cap) (by omega) hown1 hb1; have hrow := Lib.hid hrow0; have fr0 := fr 0; have fr1 := fr 1; have fo0 := fo 0; have fo1 := fo 1; have fv' := Lib.hid fv; clear hrow0 fr fo fv; have g1 : ¬ v1 = w.heap.size := (by omega); have g2 : ¬ v1 = w.heap.size + 1 := (by omega); have g3 : ¬ v1 = w.heap.size + 1 + 1 := (by omega); have g4 : ¬ w.heap.size = v1 := (by omega); have g5 : ¬ w.heap.size + 1 = v1 := (by omega); have g6 : ¬ w.heap.size + 1 + 1 = v1 := (by omega); (obtain ⟨vx, vy⟩ := hrow.out.at hil; have fvx := fv'.out (i * 2); have fvy := fv'.out (i * 2 + 1)))
    have hq1 : w.heap.size + 3 ≤ w1.heap.size := by have := hown1.lt v1 (by simp [Value.ownBlock]); omega
    have hq2 : v1 < w1.heap.size := (hown1.lt v1 (by simp [Value.ownBlock])).2
    obtain ⟨U, hU⟩ : ∃ U, U = w1.setCell ⟨w.heap.size + 1 + 1, 1, none⟩ (.slice (some ⟨v1, 0, none⟩) vs.length c1) := ⟨_, rfl⟩
    have hUz : U.heap.size = w1.heap.size := by rw [hU]; simp [World.setCell]
    have U1 : Below w.heap.size w U := by rw [hU]; exact hs1.setCell (by simp; omega) _
    have U2 : Row U v1 c1 vs := by rw [hU]; exact hrow.out.store (by simp; omega) _
    rw [← hU]
    replace o0 : U.cell? ⟨w.heap.size + 1 + 1, 0, none⟩ = some (.int .i64 0) := by rw [hU]; exact (World.cell?_setCell_other _ _ _ _ (by simp)).trans o0
    replace o1 : U.cell? ⟨w.heap.size + 1 + 1, 1, none⟩ = some (.slice (some ⟨v1, 0, none⟩) vs.length c1) := by rw [hU]; exact World.cell?_setCell_same' _ _ _ (by rw [o1]; rfl)
    replace r0 : U.cell? ⟨w.heap.size + 1, 0, none⟩ = some (.int .i64 0) := by rw [hU]; exact (World.cell?_setCell_other _ _ _ _ (by simp)).trans r0
    replace r1 : U.cell? ⟨w.heap.size + 1, 1, none⟩ = some (.slice none 0 0) := by rw [hU]; exact (World.cell?_setCell_other _ _ _ _ (by simp)).trans r1
    replace s1 : U.cell? ⟨w.heap.size, 1, none⟩ = some (.slice (some ⟨g, 0, none⟩) vs.length cap) := by rw [hU]; exact (World.cell?_setCell_other _ _ _ _ (by simp)).trans s1
    replace vx : U.cell? ⟨v1, i * 2, none⟩ = some (.int .i64 (at' vs i).1) := by rw [hU]; exact (World.cell?_setCell_other _ _ _ _ (by first | (simp; done) | (simp; omega))).trans vx
    replace vy : U.cell? ⟨v1, i * 2 + 1, none⟩ = some (.int .i64 (at' vs i).2) := by rw [hU]; exact (World.cell?_setCell_other _ _ _ _ (by first | (simp; done) | (simp; omega))).trans vy
    replace fo0 : U.frozen? ⟨w.heap.size + 1 + 1, 0, none⟩ = false := by rw [hU]; exact (World.frozen?_setCell _ _ _ _).trans fo0
    replace fo1 : U.frozen? ⟨w.heap.size + 1 + 1, 1, none⟩ = false := by rw [hU]; exact (World.frozen?_setCell _ _ _ _).trans fo1
    replace fr0 : U.frozen? ⟨w.heap.size + 1, 0, none⟩ = false := by rw [hU]; exact (World.frozen?_setCell _ _ _ _).trans fr0
    replace fr1 : U.frozen? ⟨w.heap.size + 1, 1, none⟩ = false := by rw [hU]; exact (World.frozen?_setCell _ _ _ _).trans fr1
    replace fvx : U.frozen? ⟨v1, i * 2, none⟩ = false := by rw [hU]; exact (World.frozen?_setCell _ _ _ _).trans fvx
    replace fvy : U.frozen? ⟨v1, i * 2 + 1, none⟩ = false := by rw [hU]; exact (World.frozen?_setCell _ _ _ _).trans fvy
    clear hU hown1 hb1 hs1 s0 hrow fv'
    simp only [hi]
    obtain ⟨j, hj⟩ := Int.eq_ofNat_of_zero_le (show 0 ≤ ((i : Int) + 1) % (vs.length : Int) from Int.emod_nonneg _ (by omega))
    have hjl : j < vs.length := by have := Int.emod_lt_of_pos ((i : Int) + 1) (show 0 < (vs.length : Int) by omega); omega
    have hjl' : (j : Int) < (vs.length : Int) := by omega
    obtain ⟨ux, uy⟩ := U2.at hjl
    obtain ⟨p, hp⟩ : ∃ p, p = at' vs j := ⟨_, rfl⟩
    rw [← hp] at ux uy
    have hp' := Lib.hid hp
    clear hp
    have U2' := Lib.hid U2
    clear U2
    refine wp_region_tail 14 (by kernel_rfl) (by kernel_rfl) ?_
    intro W hK
    obtain ⟨hc0, hf0, hz0, hbK⟩ := hK
    replace o0 := fun x => (hc0 x _ _ (by omega)).trans o0
    replace o1 := fun x => (hc0 x _ _ (by omega)).trans o1
    replace r0 := fun x => (hc0 x _ _ (by omega)).trans r0
    replace r1 := fun x => (hc0 x _ _ (by omega)).trans r1
    replace s1 := fun x => (hc0 x _ _ (by omega)).trans s1
    replace vx := fun x => (hc0 x _ _ (by omega)).trans vx
    replace ux := fun x => (hc0 x _ _ (by omega)).trans ux
    replace uy := fun x => (hc0 x _ _ (by omega)).trans uy
    replace vy := fun x => (hc0 x _ _ (by omega)).trans vy
    replace fo0 := fun x => (hf0 x _ _ (by omega)).trans fo0
    replace fo1 := fun x => (hf0 x _ _ (by omega)).trans fo1
    replace fr0 := fun x => (hf0 x _ _ (by omega)).trans fr0
    replace fr1 := fun x => (hf0 x _ _ (by omega)).trans fr1
    replace fvx := fun x => (hf0 x _ _ (by omega)).trans fvx
    replace fvy := fun x => (hf0 x _ _ (by omega)).trans fvy
    have hbd := (hGh.out.bd i hil).2
    obtain ⟨ay, hay⟩ : ∃ ay, ay = (at' vs i).2 := ⟨_, rfl⟩
    obtain ⟨ax, hax⟩ : ∃ ax, ax = (at' vs i).1 := ⟨_, rfl⟩
    rw [← hay] at vy hbd
    rw [← hax] at vx
    have hax' := Lib.hid hax
    clear hay hax hc0 hf0
    simp only [List.take_succ_cons, List.take_zero, List.drop_succ_cons, List.drop_zero]
    repeat (go_big_quiet_step (fail))
    refine wpQuiet_nil ?_
    intro _ hw'
    obtain ⟨xq, hw''⟩ := hw'
    have hbV := hbK xq
    replace o0 := o0 xq
    replace o1 := o1 xq
    replace r0 := r0 xq
    replace r1 := r1 xq
    replace s1 := s1 xq
    replace vx := vx xq
    replace ux := ux xq
    replace uy := uy xq
    replace vy := vy xq
    replace fo0 := fo0 xq
    replace fo1 := fo1 xq
    replace fr0 := fr0 xq
    replace fr1 := fr1 xq
    replace fvx := fvx xq
    replace fvy := fvy xq
    rw [← hw''] at hbV o0 o1 r0 r1 s1 ux uy vx vy fo0 fo1 fr0 fr1 fvx fvy
    rename_i V
    clear hw'' hz0 hbK
    go_wp2_with fail
    have hlA : (vs.set i (p.1, (at' vs i).2)).length = vs.length := List.length_set
    have hlB : ((vs.set i (p.1, (at' vs i).2)).set i ((at' (vs.set i (p.1, (at' vs i).2)) i).1, p.2)).length = (vs.set i (p.1, (at' vs i).2)).length := List.length_set
    refine bodyPost_ret (v := .agg #[.int .i64 0, .slice (some ⟨v1, 0, none⟩) vs.length c1]) (by simp [results, Try.results5, go_sem, r0, r1]) rfl ⟨⟨0, v1, vs.length, c1, ((vs.set i (p.1, (at' vs i).2)).set i ((at' (vs.set i (p.1, (at' vs i).2)) i).1, p.2)), rfl, (hlB.trans hlA).symm, ?_⟩, ?_⟩
    · exact ((((U2'.out.carry hbV).put hlA (flatV_set1 vs i p.1 hil)).put hlB (flatV_set2 (vs.set i (p.1, (at' vs i).2)) i p.2 (by rw [hlA]; exact hil))).store (by simp; omega) _).store (by simp; omega) _
    · exact ((((U1.trans (hbV.mono (by omega))).setCell (by simp; omega) _).setCell (by simp; omega) _).setCell (by simp) _).setCell (by simp) _

end Go.Proofs.Ytbaclbncielinaa
