/- The reference's shapes made of a number. -/
import Derived.Test.YtfbgghkkgmgnjaaShapeRefB
namespace Go.Proofs.Ytfbgghkkgmgnjaa
open Go.ChangeShapes Go.WideShapes Go.ChangeAt Go.RowKit
open Fxm
set_option linter.unusedSimpArgs false
set_option linter.unusedVariables false

def scaleV (s : Int) (vs : List (Int × Int)) : List (Int × Int) := vs.map fun p => (s * p.1, s * p.2)
/-- The polygons that are generated: an outline, scaled and turned. -/
def Made (vs : List (Int × Int)) : Prop := ∃ j k s, j < 6 ∧ 1 ≤ s ∧ s ≤ 10000 ∧ k < (outl j).length ∧ vs = (scaleV s (outl j)).drop k ++ (scaleV s (outl j)).take k

theorem outl_len (j : Nat) : 3 ≤ (outl j).length ∧ (outl j).length ≤ 6 := by
  match j with
  | 0 => decide
  | 1 => decide
  | 2 => decide
  | 3 => decide
  | 4 => decide
  | _ + 5 => simp [outl]
theorem outl_prod {s x : Int} (h1 : 1 ≤ s) (h2 : s ≤ 10000) (h3 : -3 ≤ x) (h4 : x ≤ 3) : -30000 ≤ s * x ∧ s * x ≤ 30000 := by
  have := prod_bd (a := s) (b := x) (A := 10000) (B := 3) (by omega) (by omega) (by omega) h2 h3 h4
  omega
theorem outl_bd (j : Nat) : ∀ p ∈ outl j, (-3 ≤ p.1 ∧ p.1 ≤ 3) ∧ (-3 ≤ p.2 ∧ p.2 ≤ 3) := by
  match j with
  | 0 => decide
  | 1 => decide
  | 2 => decide
  | 3 => decide
  | 4 => decide
  | _ + 5 => simp [outl]
theorem flatV_at : ∀ (vs : List (Int × Int)) (i : Nat) (h : i < vs.length), (flatV vs)[i * 2]? = some (.int .i64 (vs[i]).1) ∧ (flatV vs)[i * 2 + 1]? = some (.int .i64 (vs[i]).2)
  | p :: l, 0, _ => ⟨rfl, rfl⟩
  | p :: l, i + 1, h => by
    have := flatV_at l i (by simpa using h)
    rw [show (i + 1) * 2 = i * 2 + 1 + 1 by omega]
    simpa [flatV] using this
theorem scaleV_take (s : Int) (vs : List (Int × Int)) (c : Nat) (h : c < vs.length) : flatV (scaleV s (vs.take (c + 1))) = flatV (scaleV s (vs.take c)) ++ [.int .i64 (s * (vs[c]).1), .int .i64 (s * (vs[c]).2)] := by
  rw [List.take_succ_eq_append_getElem h]
  unfold scaleV
  rw [List.map_append, flatV_append]
  rfl

set_option maxHeartbeats 4000000 in
set_option maxRecDepth 100000 in
theorem shape_any (n : Int) (w : World) (hn : (Lit.int .i64 n).wf = true) :
    Calls Try.prog 13 #[.int .i64 n] w fun e w' =>
      ((∃ r, 1 ≤ r ∧ r ≤ 32768 ∧ e = .returned (.agg #[.int .i64 r, .slice none 0 0])) ∨ (∃ g cap vs, e = .returned (.agg #[.int .i64 0, .slice (some ⟨g, 0, none⟩) vs.length cap]) ∧ Made vs ∧ Row w' g cap vs)) ∧ Below w.heap.size w w' := by
  obtain ⟨n1, n2⟩ := bounds_i64 hn
  clear hn
  go_enter Try.func13, Try.ntmps13
  go_wp2_with fail
  refine (aroundx_any _ _ _ n1 n2 (by omega)).mono ?_
  rintro e w' ⟨⟨k, k1, k2, rfl⟩, rfl⟩
  by_cases h3 : (k % 3 == 0) = true
  · by_cases h2 : (k / 3 % 2 == 0) = true
    · go_wp2
      refine bodyPost_ret (v := .agg #[.int .i64 (1 + k / 6 % 40), .slice none 0 0]) (by simp [results, Try.results13, go_sem]) rfl ⟨Or.inl ⟨_, by omega, by omega, rfl⟩, ?_⟩
      repeat (first | exact Below.refl _ _ | (refine Below.setCell ?_ (by first | (simp; done) | (simp; omega) | omega) _) | (refine Below.alloc ?_ (by first | exact Nat.le_refl _ | (simp; done) | (simp; omega) | omega) _) | refine Below.drew ?_ | (refine Below.trans ?_ ((hb _).mono (by first | (simp; done) | (simp; omega) | omega))) | (refine Below.trans ?_ (hb1.mono (by first | (simp; done) | (simp; omega) | omega))))
    · have h2' : (k / 3 % 2 == 0) = false := by simpa using h2
      go_wp2
      refine bodyPost_ret (v := .agg #[.int .i64 (1 + k / 6 % 32768), .slice none 0 0]) (by simp [results, Try.results13, go_sem]) rfl ⟨Or.inl ⟨_, by omega, by omega, rfl⟩, ?_⟩
      repeat (first | exact Below.refl _ _ | (refine Below.setCell ?_ (by first | (simp; done) | (simp; omega) | omega) _) | (refine Below.alloc ?_ (by first | exact Nat.le_refl _ | (simp; done) | (simp; omega) | omega) _) | refine Below.drew ?_ | (refine Below.trans ?_ ((hb _).mono (by first | (simp; done) | (simp; omega) | omega))) | (refine Below.trans ?_ (hb1.mono (by first | (simp; done) | (simp; omega) | omega))))
  · have h3' : (k % 3 == 0) = false := by simpa using h3
    obtain ⟨i0, hi0, hz0, hz1, hz2⟩ := info_parts vinfo
    go_wp2_with fail
    refine (outlines_any _).mono ?_
    rintro e w1 ⟨⟨B, bs, rfl, ho⟩, hb1⟩
    have hB1 := below_step (alloc_below _ _) hb1
    have q1 : w1.cell? ⟨w.heap.size, 0, none⟩ = some (.int .i64 0) := carry hb1 (by simp)
    have q2 : w1.cell? ⟨w.heap.size, 1, none⟩ = some (.slice none 0 0) := carry hb1 (by simp)
    have f1 : w1.frozen? ⟨w.heap.size, 0, none⟩ = false := (hb1.frozen (by simp)).trans (by simp [go_sem])
    have f2 : w1.frozen? ⟨w.heap.size, 1, none⟩ = false := (hb1.frozen (by simp)).trans (by simp [go_sem])
    obtain ⟨j, hj⟩ := Int.eq_ofNat_of_zero_le (show 0 ≤ k / 3 % 6 by omega)
    have hj6 : j < 6 := by omega
    obtain ⟨ho1, ho2⟩ := ho j hj6
    have hjj := Lib.hid hj
    have hj1 : (0 : Int) ≤ k / 3 % 6 := by omega
    have hj2 : k / 3 % 6 < 6 := by omega
    have ho1' : w1.cell? ⟨B, (k / 3 % 6).toNat, none⟩ = some (.slice (some ⟨bs j, 0, none⟩) (outl j).length (outl j).length) := by rw [hj]; exact ho1
    clear ho hj ho1
    obtain ⟨hl3, hl6⟩ := outl_len j
    have hbd := Lib.hid (outl_bd j)
    by_cases h1 : (k % 3 == 1) = true
    all_goals
      first | have h1' : (k % 3 == 1) = true := h1 | have h1' : (k % 3 == 1) = false := by simpa using h1
      go_wp2_with fail
      first
        | (obtain ⟨s, hs⟩ : ∃ s, s = 1 + k / 18 % 12 := ⟨_, rfl⟩
           rw [← hs])
        | (obtain ⟨s, hs⟩ : ∃ s, s = 1 + k / 18 % 10000 := ⟨_, rfl⟩
           rw [← hs])
      have s1 : 1 ≤ s := by omega
      have s2 : s ≤ 10000 := by omega
      clear hs
      have hbs : bs j < w1.heap.size := (Array.getElem?_eq_some_iff.1 ho2).1
      have hco : ∀ i u, (flatV (outl j))[i]? = some u → w1.cell? ⟨bs j, i, none⟩ = some u := fun i u h => by rw [heap_cell ho2]; simpa using h
      go_loopw [6, 7] (fun v i wr => ∃ c : Nat, c ≤ (outl j).length ∧ i = .int .i64 c ∧ wr.ownsRow w1.heap.size 28 2 v c (flatV (scaleV s ((outl j).take c))) ∧ Below w1.heap.size w1 wr) (fun _ i _ => (outl j).length - (intOf i).toNat)
      case atStart => exact ⟨0, Nat.zero_le _, rfl, World.ownsRow_nil _ _ _ _, Below.refl _ _⟩
      case round =>
        obtain ⟨c, hc, rfl, hown, hbl⟩ := hrel
        by_cases hlt : c < (outl j).length
        · have hclt : (c : Int) < ((outl j).length : Int) := by omega
          have hc0 : (0 : Int) ≤ (c : Int) := by omega
          obtain ⟨⟨x1, x2⟩, ⟨y1, y2⟩⟩ := hbd.out _ (List.getElem_mem hlt)
          have hv := flatV_at (outl j) c hlt
          have hsc := Lib.hid (scaleV_take s (outl j) c hlt)
          have cx := (hbl.cell (p := ⟨bs j, c * 2, none⟩) hbs).trans (hco _ _ hv.1)
          have cy := (hbl.cell (p := ⟨bs j, c * 2 + 1, none⟩) hbs).trans (hco _ _ hv.2)
          have hfar : u6.ownBlock ≠ some (bs j) := fun e => by have := (hown.lt _ e).1; omega
          clear hv
          generalize ((outl j)[c]).1 = x at *
          generalize ((outl j)[c]).2 = y at *
          have px := outl_prod s1 s2 x1 x2
          have py := outl_prod s1 s2 y1 y2
          have hwx : IntKind.i64.wrap (s * x) = s * x := IntWalk.i64_in _ (by omega)
          have hwy : IntKind.i64.wrap (s * y) = s * y := IntWalk.i64_in _ (by omega)
          have hz := hbl.size
          have hn1 : c + 1 ≤ maxLen := by unfold maxLen; omega
          go_wp2_with fail
          go_region_held3 (fun w' => w'.cell? ⟨bs j, c * 2, none⟩ = some (.int .i64 x) ∧ w'.cell? ⟨bs j, c * 2 + 1, none⟩ = some (.int .i64 y))
            (first
              | go_keep
              | (go_split_ands
                 refine ⟨?_, ?_⟩
                 · (rw [hgrow.cell_far _ (by simp; omega) (Ne.symm hfar)]; assumption)
                 · (rw [hgrow.cell_far _ (by simp; omega) (Ne.symm hfar)]; assumption)))
            ((refine step_append_lies _ (by rfl) _ _ _ (by rfl) w1.heap.size 28 i0 _ 2 16 Try.underlying23 hi0 hz0 hz1 hz2 rfl (by omega) u6 c _ (by rfl) ((hown.alloc _).drew)
                ⟨wr.heap.size, 0, none⟩ 1 1 [.int .i64 (s * x), .int .i64 (s * y)] (by rfl) (by rfl) (World.news_of_block (cs := #[.int .i64 (s * x), .int .i64 (s * y)]) (t := 28) (fr := (0, 0)) (heap_alloc_new wr _)) (by simp [Value.oneCell'])
                (by omega) hn1 (by omega) (by simp; omega) (wr.heap.size + 1) (by simp) ?_; intro gg cap w2 hown1 hgrow hat hlt2))
          go_wp2
          go_roundw
          case rel => exact ⟨c + 1, by omega, by go_num, by rw [hsc.out]; exact hown1, (((hbl.alloc hz _).drew).grown hgrow (by simp; omega) (fun k hk => (hown.lt k hk).1))⟩
          case measure => simp [intOf]; omega
        · obtain rfl : c = (outl j).length := by omega
          have hlen : (scaleV s (outl j)).length = (outl j).length := by simp [scaleV]
          rw [List.take_length] at hown
          obtain ⟨g, cap, rfl⟩ := owned_shape hown (by omega)
          have hR := Row.owned hown hlen
          have hwf : (Lit.int .i64 (k / 180000)).wf = true := by simp [Lit.wf, IntKind.min, IntKind.max, IntKind.signed, IntKind.bits]; omega
          have T := turned_any 0 (k / 180000) g 0 cap (scaleV s (outl j)) wr (by omega) (by omega) hR.le hR.max (fun i u h => by rw [Nat.zero_add]; exact hR.cells i u h) hwf
          rw [hlen] at T
          have hT := Lib.hid T
          clear T hwf
          go_wp2_with fail
          refine hT.out.mono ?_
          rintro e w3 ⟨⟨kk, g3, c3, hkk, rfl, hg3, hR3⟩, hb3⟩
          have r1 := carry hb3 ((hbl.cell (p := ⟨w.heap.size, 0, none⟩) (block_lt_of_cell q1)).trans q1)
          have r2 := carry hb3 ((hbl.cell (p := ⟨w.heap.size, 1, none⟩) (block_lt_of_cell q2)).trans q2)
          have hz := hbl.size
          have h0 := block_lt_of_cell q1
          simp only at h0
          have e1 := (hb3.frozen (p := ⟨w.heap.size, 0, none⟩) (show w.heap.size < wr.heap.size by omega)).trans ((hbl.frozen (p := ⟨w.heap.size, 0, none⟩) h0).trans f1)
          have e2 := (hb3.frozen (p := ⟨w.heap.size, 1, none⟩) (show w.heap.size < wr.heap.size by omega)).trans ((hbl.frozen (p := ⟨w.heap.size, 1, none⟩) h0).trans f2)
          go_wp2
          refine bodyPost_ret (v := .agg #[.int .i64 0, .slice (some ⟨g3, 0, none⟩) (outl j).length c3]) (by simp [results, Try.results13, go_sem, r1, r2]) rfl ⟨Or.inr ⟨g3, c3, (scaleV s (outl j)).drop kk ++ (scaleV s (outl j)).take kk, ?_, ⟨j, kk, s, hj6, s1, s2, hkk, rfl⟩, ?_⟩, ?_⟩
          · have : ((scaleV s (outl j)).drop kk ++ (scaleV s (outl j)).take kk).length = (outl j).length := by simp [hlen]; omega
            rw [this]
          · refine Row.store (Row.store hR3 ?_ _) ?_ _ <;> (simp; omega)
          · refine Below.setCell (Below.setCell ?_ (by simp) _) (by simp) _
            exact hB1.trans ((hbl.mono (by omega)).trans (hb3.mono (by omega)))
end Go.Proofs.Ytfbgghkkgmgnjaa
