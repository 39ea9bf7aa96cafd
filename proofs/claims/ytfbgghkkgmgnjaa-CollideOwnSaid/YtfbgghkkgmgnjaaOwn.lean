/- What the law CollideOwn asks: the reference's shape as a function of its number; a row that may be written over. -/
import Derived.Test.YtfbgghkkgmgnjaaCollQ
namespace Go.Proofs.Ytfbgghkkgmgnjaa
open Go.ChangeShapes Go.WideShapes Go.ChangeAt Go.RowKit Go.Shelf
open Fxm
set_option linter.unusedSimpArgs false
set_option linter.unusedVariables false

/-- A row that may be written over. -/
def Wr (w : World) (g n : Nat) : Prop := ∃ cur : Array Value, w.heap[g]? = some (.cells cur 28) ∧ n * 2 ≤ cur.size
theorem Wr.cells {w : World} {g n k : Nat} (h : Wr w g n) (hk : k < n) :
    ((∃ u, w.cell? ⟨g, k * 2, none⟩ = some u) ∧ w.frozen? ⟨g, k * 2, none⟩ = false) ∧ (∃ u, w.cell? ⟨g, k * 2 + 1, none⟩ = some u) ∧ w.frozen? ⟨g, k * 2 + 1, none⟩ = false := by
  obtain ⟨cur, h1, h2⟩ := h
  refine ⟨⟨⟨cur[k * 2]'(by omega), ?_⟩, heap_frozen h1 _⟩, ⟨cur[k * 2 + 1]'(by omega), ?_⟩, heap_frozen h1 _⟩
  · rw [heap_cell h1]; exact Array.getElem?_eq_getElem _
  · rw [heap_cell h1]; exact Array.getElem?_eq_getElem _
theorem Wr.set {w : World} {g n : Nat} (h : Wr w g n) (i j : Nat) (x y : Value) : Wr ((w.setCell ⟨g, i, none⟩ x).setCell ⟨g, j, none⟩ y) g n := by
  obtain ⟨cur, h1, h2⟩ := h
  exact ⟨_, heap_setCell (heap_setCell h1 i x) j y, by simpa using h2⟩
theorem Wr.carry {w w' : World} {g n : Nat} (h : Wr w g n) (hb : Below w.heap.size w w') : Wr w' g n := by
  obtain ⟨cur, h1, h2⟩ := h
  exact ⟨cur, (hb.block _ (Array.getElem?_eq_some_iff.1 h1).1).trans h1, h2⟩
theorem Wr.owned {w : World} {base g n cap : Nat} {xs : List Value} (h : w.ownsRow base 28 2 (.slice (some ⟨g, 0, none⟩) n cap) n xs) : Wr w g n := by
  rcases h.2 with ⟨h', _⟩ | ⟨g', cap', cur, h', hb, hg, hnc, hcm, hcs, htake⟩
  · simp at h'
  · simp only [Value.slice.injEq, Option.some.injEq, Addr.mk.injEq, and_true, true_and] at h'
    obtain ⟨rfl, rfl⟩ := h'
    exact ⟨cur, hg, by rw [hcs]; omega⟩
theorem Vecs.far {w : World} {a n cap : Nat} {vs : List (Int × Int)} (h : Vecs w (some ⟨a, 0, none⟩) n cap vs) {p q : Addr} (hp : p.block ≠ a) (hq : q.block ≠ a) (x y : Value) : Vecs ((w.setCell p x).setCell q y) (some ⟨a, 0, none⟩) n cap vs :=
  ⟨h.len, h.few, h.row.imp_right fun ⟨g, h1, h2⟩ => ⟨g, h1, by cases h1; exact (h2.store hp x).store hq y⟩⟩

/-- The vertices of the shape that is made of a number. -/
def shT (s k : Int) (j : Nat) : List (Int × Int) := (scaleV s (outl j)).drop (arnd (k / 180000) (outl j).length).toNat ++ (scaleV s (outl j)).take (arnd (k / 180000) (outl j).length).toNat
def shK (k : Int) : List (Int × Int) := if (k % 3 == 0) = true then [] else if (k % 3 == 1) = true then shT (1 + k / 18 % 12) k (k / 3 % 6).toNat else shT (1 + k / 18 % 10000) k (k / 3 % 6).toNat
def shV (n : Int) : List (Int × Int) := shK (arnd n 1000000000)

set_option maxHeartbeats 1000000 in
theorem turnedF_any (r n : Int) (g off cap : Nat) (vs : List (Int × Int)) (w : World) (hl : 1 ≤ vs.length) (hl2 : vs.length ≤ 1000) (hcap : vs.length ≤ cap) (hm : cap ≤ maxLen)
    (hc : ∀ i u, (flatV vs)[i]? = some u → w.cell? ⟨g, off + i, none⟩ = some u) (hn : (Lit.int .i64 n).wf = true) :
    Calls Try.prog 37 #[.agg #[.int .i64 r, .slice (some ⟨g, off, none⟩) vs.length cap], .int .i64 n] w fun e w' =>
      (∃ g' cap', e = .returned (.agg #[.int .i64 0, .slice (some ⟨g', 0, none⟩) vs.length cap']) ∧ w.heap.size ≤ g' ∧ Row w' g' cap' (vs.drop (arnd n vs.length).toNat ++ vs.take (arnd n vs.length).toNat)) ∧ Below w.heap.size w w' := by
  obtain ⟨n1, n2⟩ := bounds_i64 hn
  obtain ⟨i0, hi0, hz0, hz1, hz2⟩ := info_parts vinfo
  unfold maxLen at hm
  have hlb : (vs.length : Int) ≤ 1000 := by omega
  have hl1 : (1 : Int) ≤ (vs.length : Int) := by omega
  have hl0 : ((vs.length : Int) == 0) = false := by simp only [beq_eq_false_iff_ne, ne_eq]; omega
  clear hn
  obtain ⟨x1, x2⟩ := arnd_bd n (m := (vs.length : Int)) (by omega)
  have KA := fun w => around_any n (vs.length : Int) w n1 n2 (by omega)
  obtain ⟨k, hkx⟩ := Int.eq_ofNat_of_zero_le x1
  rw [hkx] at KA
  have hk' : (arnd n vs.length).toNat = k := by omega
  rw [hk']
  have hk : k < vs.length := by omega
  clear hk' hkx x1 x2
  go_enter Try.func37, Try.ntmps37
  go_wp2_with fail
  refine (KA _).mono ?_
  rintro e w' ⟨rfl, rfl⟩
  have hW := below_step (alloc_below w (.cells #[.int .i64 r, .slice (some ⟨g, off, none⟩) vs.length cap] 25)) (alloc_below _ (.cells #[.int .i64 0, .slice none 0 0] 25))
  go_wp2_with (first
    | (at_builtin; refine append_row rfl _ _ 23 rfl (w.heap.size + 2) 28 i0 _ 2 16 Try.underlying23 hi0 hz0 hz1 hz2 rfl (by omega) _ 0 [] rfl (World.ownsRow_nil _ _ _ _) ⟨g, off + k * 2, none⟩ (vs.length - k) (cap - k) (flatV (vs.drop k)) rfl (by rw [flatV_length, List.length_drop]) (news_of hW hc k) (flatV_one _) (by unfold maxLen; omega) (by omega) (by simp) (by omega) ?_; intro v1 c1 w1 hown1 hb1; simp only [Nat.zero_add, List.nil_append] at hown1; have hs1 : Below w.heap.size w w1 := hW.trans (hb1.mono (by omega)); have q0 : w1.cell? ⟨w.heap.size, 1, none⟩ = some (.slice (some ⟨g, off, none⟩) vs.length cap) := (hb1.cell (by simp)).trans (by simp); have hsz : w.heap.size + 2 ≤ w1.heap.size := (by have := hb1.size; simp at this; omega))
    | (at_builtin; refine append_row rfl _ _ 23 rfl (w.heap.size + 2) 28 i0 _ 2 16 Try.underlying23 hi0 hz0 hz1 hz2 rfl (by omega) _ _ _ rfl hown1 ⟨g, off, none⟩ k cap (flatV (vs.take k)) rfl (by rw [flatV_length, List.length_take]; omega) (news_to hs1 hc k) (flatV_one _) (by unfold maxLen; omega) (by omega) (by omega) (by omega) ?_; intro v2 c2 w2 hown2 hb2; have hb3 := hb1.trans hb2; have p1 : w2.cell? ⟨w.heap.size + 1, 0, none⟩ = some (.int .i64 0) := (hb3.cell (by simp)).trans (by simp); have p2 : w2.cell? ⟨w.heap.size + 1, 1, none⟩ = some (.slice none 0 0) := (hb3.cell (by simp)).trans (by simp); have g1 : w2.frozen? ⟨w.heap.size + 1, 0, none⟩ = false := (hb3.frozen (by simp)).trans (by simp [go_sem]); have g2 : w2.frozen? ⟨w.heap.size + 1, 1, none⟩ = false := (hb3.frozen (by simp)).trans (by simp [go_sem])))
  have hln : vs.length - k + k = vs.length := by omega
  rw [hln, ← flatV_append] at hown2
  have hlt := hown2.lt v2 (by simp [Value.ownBlock])
  refine bodyPost_ret (v := .agg #[.int .i64 0, .slice (some ⟨v2, 0, none⟩) vs.length c2]) (by simp [results, Try.results37, go_sem, p1, p2]; omega) rfl ⟨⟨v2, c2, rfl, by omega, ?_⟩, ?_⟩
  · refine Row.store (Row.store (Row.owned hown2 (by simp; omega)) ?_ _) ?_ _ <;> (simp; omega)
  · refine Below.setCell (Below.setCell ?_ (by simp) _) (by simp) _
    exact hW.trans (hb3.mono (by omega))

set_option maxHeartbeats 4000000 in
set_option maxRecDepth 100000 in
theorem shapeF_any (n : Int) (w : World) (hn : (Lit.int .i64 n).wf = true) :
    Calls Try.prog 13 #[.int .i64 n] w fun e w' =>
      ((∃ r, 1 ≤ r ∧ r ≤ 32768 ∧ e = .returned (.agg #[.int .i64 r, .slice none 0 0]) ∧ shV n = []) ∨ (∃ g cap, e = .returned (.agg #[.int .i64 0, .slice (some ⟨g, 0, none⟩) (shV n).length cap]) ∧ Made (shV n) ∧ Row w' g cap (shV n))) ∧ Below w.heap.size w w' := by
  obtain ⟨n1, n2⟩ := bounds_i64 hn
  clear hn
  obtain ⟨k1, k2⟩ := arnd_bd n (m := 1000000000) (by omega)
  have KA := fun w => around_any n 1000000000 w n1 n2 (by omega)
  unfold shV
  generalize arnd n 1000000000 = k at *
  go_enter Try.func13, Try.ntmps13
  go_wp2_with fail
  refine (KA _).mono ?_
  rintro e w' ⟨rfl, rfl⟩
  by_cases h3 : (k % 3 == 0) = true
  · by_cases h2 : (k / 3 % 2 == 0) = true
    · go_wp2
      refine bodyPost_ret (v := .agg #[.int .i64 (1 + k / 6 % 40), .slice none 0 0]) (by simp [results, Try.results13, go_sem]) rfl ⟨Or.inl ⟨_, by omega, by omega, rfl, by unfold shK; rw [if_pos h3]⟩, ?_⟩
      repeat (first | exact Below.refl _ _ | (refine Below.setCell ?_ (by first | (simp; done) | (simp; omega) | omega) _) | (refine Below.alloc ?_ (by first | exact Nat.le_refl _ | (simp; done) | (simp; omega) | omega) _) | refine Below.drew ?_ | (refine Below.trans ?_ ((hb _).mono (by first | (simp; done) | (simp; omega) | omega))) | (refine Below.trans ?_ (hb1.mono (by first | (simp; done) | (simp; omega) | omega))))
    · have h2' : (k / 3 % 2 == 0) = false := by simpa using h2
      go_wp2
      refine bodyPost_ret (v := .agg #[.int .i64 (1 + k / 6 % 32768), .slice none 0 0]) (by simp [results, Try.results13, go_sem]) rfl ⟨Or.inl ⟨_, by omega, by omega, rfl, by unfold shK; rw [if_pos h3]⟩, ?_⟩
      repeat (first | exact Below.refl _ _ | (refine Below.setCell ?_ (by first | (simp; done) | (simp; omega) | omega) _) | (refine Below.alloc ?_ (by first | exact Nat.le_refl _ | (simp; done) | (simp; omega) | omega) _) | refine Below.drew ?_ | (refine Below.trans ?_ ((hb _).mono (by first | (simp; done) | (simp; omega) | omega))) | (refine Below.trans ?_ (hb1.mono (by first | (simp; done) | (simp; omega) | omega))))
  · have h3' : (k % 3 == 0) = false := by simpa using h3
    obtain ⟨i0, hi0, hz0, hz1, hz2⟩ := info_parts vinfo
    go_wp2_with fail
    refine (outlines_any _).mono ?_
    rintro e w1 ⟨⟨B, bs, rfl, ho⟩, hb1⟩
    have hB1 := below_step (alloc_below _ _) hb1
    have q1 : w1.cell? ⟨w.heap.size, 0, none⟩ = some (.int .i64 0) := carry hb1 (by simp)
    have q2 : w1.cell? ⟨w.heap.size, 1, none⟩ = some (.slice none 0 0) := carry hb1 (by simp)
    have f1 : w1.frozen? ⟨w.heap.size, 0, none⟩ = false := (hb1.frozen (by simp)).trans (by simp [go_sem])
    have f2 : w1.frozen? ⟨w.heap.size, 1, none⟩ = false := (hb1.frozen (by simp)).trans (by simp [go_sem])
    obtain ⟨j, hj⟩ := Int.eq_ofNat_of_zero_le (show 0 ≤ k / 3 % 6 by omega)
    have hj6 : j < 6 := by omega
    obtain ⟨ho1, ho2⟩ := ho j hj6
    have hjj := Lib.hid hj
    have hj1 : (0 : Int) ≤ k / 3 % 6 := by omega
    have hj2 : k / 3 % 6 < 6 := by omega
    have ho1' : w1.cell? ⟨B, (k / 3 % 6).toNat, none⟩ = some (.slice (some ⟨bs j, 0, none⟩) (outl j).length (outl j).length) := by rw [hj]; exact ho1
    clear ho hj ho1
    obtain ⟨hl3, hl6⟩ := outl_len j
    have hbd := Lib.hid (outl_bd j)
    by_cases h1 : (k % 3 == 1) = true
    all_goals
      first | have h1' : (k % 3 == 1) = true := h1 | have h1' : (k % 3 == 1) = false := by simpa using h1
      go_wp2_with fail
      first
        | (obtain ⟨s, hs⟩ : ∃ s, s = 1 + k / 18 % 12 := ⟨_, rfl⟩
           rw [← hs])
        | (obtain ⟨s, hs⟩ : ∃ s, s = 1 + k / 18 % 10000 := ⟨_, rfl⟩
           rw [← hs])
      have s1 : 1 ≤ s := by omega
      have s2 : s ≤ 10000 := by omega
      have hV : shK k = shT s k j := by
        unfold shK
        rw [if_neg h3]
        first | rw [if_pos h1] | rw [if_neg h1]
        rw [hs, hjj.out]
        rfl
      have hV' := Lib.hid hV
      clear hs hV
      have hbs : bs j < w1.heap.size := (Array.getElem?_eq_some_iff.1 ho2).1
      have hco : ∀ i u, (flatV (outl j))[i]? = some u → w1.cell? ⟨bs j, i, none⟩ = some u := fun i u h => by rw [heap_cell ho2]; simpa using h
      go_loopw [6, 7] (fun v i wr => ∃ c : Nat, c ≤ (outl j).length ∧ i = .int .i64 c ∧ wr.ownsRow w1.heap.size 28 2 v c (flatV (scaleV s ((outl j).take c))) ∧ Below w1.heap.size w1 wr) (fun _ i _ => (outl j).length - (intOf i).toNat)
      case atStart => exact ⟨0, Nat.zero_le _, rfl, World.ownsRow_nil _ _ _ _, Below.refl _ _⟩
      case round =>
        obtain ⟨c, hc, rfl, hown, hbl⟩ := hrel
        by_cases hlt : c < (outl j).length
        · have hclt : (c : Int) < ((outl j).length : Int) := by omega
          have hc0 : (0 : Int) ≤ (c : Int) := by omega
          obtain ⟨⟨x1, x2⟩, ⟨y1, y2⟩⟩ := hbd.out _ (List.getElem_mem hlt)
          have hv := flatV_at (outl j) c hlt
          have hsc := Lib.hid (scaleV_take s (outl j) c hlt)
          have cx := (hbl.cell (p := ⟨bs j, c * 2, none⟩) hbs).trans (hco _ _ hv.1)
          have cy := (hbl.cell (p := ⟨bs j, c * 2 + 1, none⟩) hbs).trans (hco _ _ hv.2)
          have hfar : u6.ownBlock ≠ some (bs j) := fun e => by have := (hown.lt _ e).1; omega
          clear hv
          generalize ((outl j)[c]).1 = x at *
          generalize ((outl j)[c]).2 = y at *
          have px := outl_prod s1 s2 x1 x2
          have py := outl_prod s1 s2 y1 y2
          have hwx : IntKind.i64.wrap (s * x) = s * x := IntWalk.i64_in _ (by omega)
          have hwy : IntKind.i64.wrap (s * y) = s * y := IntWalk.i64_in _ (by omega)
          have hz := hbl.size
          have hn1 : c + 1 ≤ maxLen := by unfold maxLen; omega
          go_wp2_with fail
          go_region_held3 (fun w' => w'.cell? ⟨bs j, c * 2, none⟩ = some (.int .i64 x) ∧ w'.cell? ⟨bs j, c * 2 + 1, none⟩ = some (.int .i64 y))
            (first
              | go_keep
              | (go_split_ands
                 refine ⟨?_, ?_⟩
                 · (rw [hgrow.cell_far _ (by simp; omega) (Ne.symm hfar)]; assumption)
                 · (rw [hgrow.cell_far _ (by simp; omega) (Ne.symm hfar)]; assumption)))
            ((refine step_append_lies _ (by rfl) _ _ _ (by rfl) w1.heap.size 28 i0 _ 2 16 Try.underlying23 hi0 hz0 hz1 hz2 rfl (by omega) u6 c _ (by rfl) ((hown.alloc _).drew)
                ⟨wr.heap.size, 0, none⟩ 1 1 [.int .i64 (s * x), .int .i64 (s * y)] (by rfl) (by rfl) (World.news_of_block (cs := #[.int .i64 (s * x), .int .i64 (s * y)]) (t := 28) (fr := (0, 0)) (heap_alloc_new wr _)) (by simp [Value.oneCell'])
                (by omega) hn1 (by omega) (by simp; omega) (wr.heap.size + 1) (by simp) ?_; intro gg cap w2 hown1 hgrow hat hlt2))
          go_wp2
          go_roundw
          case rel => exact ⟨c + 1, by omega, by go_num, by rw [hsc.out]; exact hown1, (((hbl.alloc hz _).drew).grown hgrow (by simp; omega) (fun k hk => (hown.lt k hk).1))⟩
          case measure => simp [intOf]; omega
        · obtain rfl : c = (outl j).length := by omega
          have hlen : (scaleV s (outl j)).length = (outl j).length := by simp [scaleV]
          rw [List.take_length] at hown
          obtain ⟨g, cap, rfl⟩ := owned_shape hown (by omega)
          have hR := Row.owned hown hlen
          have hwf : (Lit.int .i64 (k / 180000)).wf = true := by simp [Lit.wf, IntKind.min, IntKind.max, IntKind.signed, IntKind.bits]; omega
          have T := turnedF_any 0 (k / 180000) g 0 cap (scaleV s (outl j)) wr (by omega) (by omega) hR.le hR.max (fun i u h => by rw [Nat.zero_add]; exact hR.cells i u h) hwf
          rw [hlen] at T
          have hkk : (arnd (k / 180000) (outl j).length).toNat < (outl j).length := by have := arnd_bd (k / 180000) (m := ((outl j).length : Int)) (by omega); omega
          have hT := Lib.hid T
          clear T hwf
          go_wp2_with fail
          refine hT.out.mono ?_
          rintro e w3 ⟨⟨g3, c3, rfl, hg3, hR3⟩, hb3⟩
          have r1 := carry hb3 ((hbl.cell (p := ⟨w.heap.size, 0, none⟩) (block_lt_of_cell q1)).trans q1)
          have r2 := carry hb3 ((hbl.cell (p := ⟨w.heap.size, 1, none⟩) (block_lt_of_cell q2)).trans q2)
          have hz := hbl.size
          have h0 := block_lt_of_cell q1
          simp only at h0
          have e1 := (hb3.frozen (p := ⟨w.heap.size, 0, none⟩) (show w.heap.size < wr.heap.size by omega)).trans ((hbl.frozen (p := ⟨w.heap.size, 0, none⟩) h0).trans f1)
          have e2 := (hb3.frozen (p := ⟨w.heap.size, 1, none⟩) (show w.heap.size < wr.heap.size by omega)).trans ((hbl.frozen (p := ⟨w.heap.size, 1, none⟩) h0).trans f2)
          go_wp2
          refine bodyPost_ret (v := .agg #[.int .i64 0, .slice (some ⟨g3, 0, none⟩) (outl j).length c3]) (by simp [results, Try.results13, go_sem, r1, r2]) rfl ⟨Or.inr ⟨g3, c3, ?_, by rw [hV'.out]; exact ⟨j, _, s, hj6, s1, s2, hkk, rfl⟩, ?_⟩, ?_⟩
          · rw [hV'.out]
            have : (shT s k j).length = (outl j).length := by unfold shT; simp [hlen]; omega
            rw [this]
          · rw [hV'.out]
            refine Row.store (Row.store hR3 ?_ _) ?_ _ <;> (simp; omega)
          · refine Below.setCell (Below.setCell ?_ (by simp) _) (by simp) _
            exact hB1.trans ((hbl.mono (by omega)).trans (hb3.mono (by omega)))

theorem shapesF_any (n : Int) (w : World) (hn : (Lit.int .i64 n).wf = true) :
    Calls Try.prog 13 #[.int .i64 n] w fun e w' => ∃ s : Sp, e = .returned (.agg #[.int .i64 s.r, .slice s.a s.n s.cap]) ∧ Sh w' s ∧ s.vs = shV n ∧ Below w.heap.size w w' :=
  (shapeF_any n w hn).mono fun e w' h => by
    obtain ⟨⟨r, h1, h2, rfl, h3⟩ | ⟨g, cap, rfl, h1, h2⟩, hb⟩ := h
    · exact ⟨.c r, rfl, ⟨h1, h2⟩, h3.symm, hb⟩
    · exact ⟨.p g cap (shV n), rfl, ⟨h2, h1.gen⟩, rfl, hb⟩
theorem equal_same (us : List (Int × Int)) (a b : Option Addr) (n m ca cb : Nat) (w : World) (hu : Vecs w a n ca us) (hv : Vecs w b m cb us) :
    Calls Try.prog 15 #[.slice a n ca, .slice b m cb] w fun e w' => e = .returned (.bool true) ∧ Below w.heap.size w w' := by
  have h := equal_any a b n m ca cb us us w hu hv
  rw [decide_eq_true (rfl : us = us)] at h
  exact h
end Go.Proofs.Ytfbgghkkgmgnjaa
