/- The reference of package cellmem: Set. -/
import Derived.Test.YtlpacihkmfgegaaCmR
namespace Go.Proofs.Ytlpacihkmfgegaa
open Go.ChangeShapes Go.WideShapes Go.ChangeAt Go.RowKit
open Cm
set_option linter.unusedSimpArgs false
set_option linter.unusedVariables false

theorem info_rowR : (Try.prog.info? 22).map (fun i => (i.zero, i.size, i.bytes)) = some (some (.slice none 0 0), 1, 24) := by kernel_rfl
theorem il_shape {w : World} {v : Value} {l : List Int} (h : IL w v l) : ∃ a cap, v = .slice a l.length cap := by
  obtain ⟨a, cap, h1, _⟩ := VL.shape (show VL w v (ints l) from h)
  rw [ints_length] at h1
  exact ⟨a, cap, h1⟩
section
variable {w : World} {sv cv : Value} {xs : List Value} {R : Rf} {S : Me}
set_option maxHeartbeats 4000000 in
theorem refSet_any (h : Rv w sv cv xs R) (hs : Says R S) (hP : S.pos ≤ 10000) (hN : S.cs.length ≤ 10000) (i v : Int) :
    Calls Try.prog 19 #[refV sv cv R, .int .i64 i, .int .i64 v] w fun e w' => ∃ sv' cv' xs' R', e = .returned (refV sv' cv' R') ∧ Rv w' sv' cv' xs' R' ∧ Says R' (S.set i v) ∧ (∀ g, Rown sv' cv' xs' g → Rown sv cv xs g ∨ (w.heap.size ≤ g ∧ g < w'.heap.size)) ∧ Below w.heap.size w w' := by
  have hb1 := alloc_below w (.cells #[sv, cv, .int .i64 (R.base : Nat)] 28)
  have hp1 := heap_alloc_new w (.cells #[sv, cv, .int .i64 (R.base : Nat)] 28)
  have hq1 := heap_alloc_new (w.alloc (.cells #[sv, cv, .int .i64 (R.base : Nat)] 28)) (.cells #[.slice none 0 0, .slice none 0 0, .int .i64 0] 28)
  have hb2 := alloc_below (w.alloc (.cells #[sv, cv, .int .i64 (R.base : Nat)] 28)) (.cells #[.slice none 0 0, .slice none 0 0, .int .i64 0] 28)
  replace hp1 := h_over hb2 hp1
  have hb := below_step hb1 hb2
  rw [World.size_alloc] at hq1
  obtain ⟨V, hV⟩ : ∃ V, V = (w.alloc (.cells #[sv, cv, .int .i64 (R.base : Nat)] 28)).alloc (.cells #[.slice none 0 0, .slice none 0 0, .int .i64 0] 28) := ⟨_, rfl⟩
  rw [← hV] at hp1 hq1 hb
  obtain ⟨x, hx, hxI, hxz⟩ := h.now hs
  have hcl : R.ce.length ≤ 10000 := by rw [hs.pos]; exact hP
  have kn := Lib.hid (fun W (hB : Below w.heap.size w W) => refNow_any (h.carry hB) hs hP hx)
  have ko := Lib.hid (fun W (hB : Below w.heap.size w W) => own_any x S.cs W (hxI.carry hB) hxz hN)
  have kc := Lib.hid (fun W (hB : Below w.heap.size w W) => own_any cv (natI R.ce) W (h.ce.carry hB) h.nc (by rw [natI_length]; exact hcl))
  have hR := Lib.hid h
  have hS := Lib.hid hs
  have hxl : xs.length = R.ce.length + 1 := by rw [h.len, hs.len]
  obtain ⟨sa, sc, hsv, hs1, hs2, hs3⟩ := h.st.shape
  obtain ⟨g, off, rfl, hg1, hg2⟩ := hs3 (by omega)
  rw [hxl] at hsv hs1
  obtain ⟨ca, cc, hcv, hc1, hc2, _⟩ := h.ce
  rw [ints_length, natI_length] at hcv hc1
  obtain ⟨xa, xc, hxv⟩ := il_shape hxI
  have hXO := Lib.hid (show ∀ u, u ∈ xs → u.oneCell' = true from fun u hu => by
    obtain ⟨q, hq, rfl⟩ := List.getElem_of_mem hu
    obtain ⟨a', c', e', _⟩ := h.el q _ _ (List.getElem?_eq_getElem hq) (List.getElem?_eq_getElem (show q < R.st.length by rw [← h.len]; exact hq))
    rw [e']; rfl)
  have hst := Lib.hid (show ∀ W, Below w.heap.size w W → ∀ (q : Nat) (u : Value), xs[q]? = some u → W.cell? ((⟨g, off, none⟩ : Addr).add q) = some u from fun W hB q u hu => by
    have ha : (⟨g, off, none⟩ : Addr).add q = ⟨g, off + q, none⟩ := by unfold Addr.add; split <;> simp_all
    rw [ha]; exact carry hB (hg2 q u hu))
  subst hsv
  subst hcv
  subst hxv
  unfold refV at *
  unfold maxLen at hs2 hc2
  have hV' := Lib.hid hV
  have hp' := Lib.hid hp1
  have hq' := Lib.hid hq1
  have hb' := Lib.hid hb
  have hx' := Lib.hid hx
  have hxI' := Lib.hid hxI
  have hxl' := Lib.hid hxl
  clear h hs hb1 hb2 hb hp1 hq1 hV hs3 hg2 hx hxI hxz hxl
  cases hc : cin S.cs.length i with
  | false =>
    have hy := Lib.hid (Me.set_out hc v)
    have hS' := hS.out
    generalize hn : S.cs.length = n at *
    have hn' := Lib.hid hn
    clear hn hS'
    by_cases h0 : i < 0
    · have d0 : decide (i < 0) = true := decide_eq_true h0
      clear h0
      go_enter Try.func19, Try.ntmps19
      go_upto_region 1 with fail
      rw [show (w.alloc (.cells #[.slice (some ⟨g, off, none⟩) (R.ce.length + 1) sc, .slice ca R.ce.length cc, .int .i64 (R.base : Nat)] 28)).alloc (.cells #[.slice none 0 0, .slice none 0 0, .int .i64 0] 28) = V from hV'.out.symm]
      obtain ⟨p0, p1, p2, pf0, pf1, pf2, pl⟩ := obj3 hp'.out
      obtain ⟨d0', d1', d2', df0, df1, df2, dl⟩ := obj3 hq'.out
      go_wp2_with fail
      have hB := Lib.hid ((((hb'.out).setCell (p := ⟨w.heap.size + 1, 0, none⟩) (Nat.le_succ _) (.slice (some ⟨g, off, none⟩) (R.ce.length + 1) sc)).setCell (p := ⟨w.heap.size + 1, 1, none⟩) (Nat.le_succ _) (.slice ca R.ce.length cc)).setCell (p := ⟨w.heap.size + 1, 2, none⟩) (Nat.le_succ _) (.int .i64 (R.base : Nat)))
      have hs := (store3 hq'.out (.slice (some ⟨g, off, none⟩) (R.ce.length + 1) sc) (.slice ca R.ce.length cc) (.int .i64 (R.base : Nat))).1
      generalize World.setCell (World.setCell (World.setCell _ ⟨w.heap.size + 1, 0, none⟩ _) ⟨w.heap.size + 1, 1, none⟩ _) ⟨w.heap.size + 1, 2, none⟩ _ = Wz at *
      obtain ⟨e0, e1, e2, _⟩ := obj3 hs
      refine bodyPost_ret (v := .agg #[.slice (some ⟨g, off, none⟩) (R.ce.length + 1) sc, .slice ca R.ce.length cc, .int .i64 (R.base : Nat)]) (by simp [results, Try.results19, go_sem, e0, e1, e2]) rfl ⟨_, _, xs, R, rfl, hR.out.carry hB.out, by rw [hy.out]; exact hS.out, fun g hg => .inl hg, hB.out⟩
    · have d0 : decide (i < 0) = false := decide_eq_false h0
      have d1 : decide ((n : Int) ≤ i) = true := decide_eq_true (by
        have : ¬ (0 ≤ i ∧ i < n) := fun h => by rw [cin_iff.2 h] at hc; cases hc
        omega)
      clear h0
      go_enter Try.func19, Try.ntmps19
      go_upto_region 1 with fail
      rw [show (w.alloc (.cells #[.slice (some ⟨g, off, none⟩) (R.ce.length + 1) sc, .slice ca R.ce.length cc, .int .i64 (R.base : Nat)] 28)).alloc (.cells #[.slice none 0 0, .slice none 0 0, .int .i64 0] 28) = V from hV'.out.symm]
      obtain ⟨p0, p1, p2, pf0, pf1, pf2, pl⟩ := obj3 hp'.out
      go_wp2_with (first | (go_at_call 23; with_reducible refine (kn.out _ hb'.out).mono ?_; rintro e y1 ⟨rfl, hb1⟩; have hp1 := h_over hb1 hp'.out; have hq1 := h_over hb1 hq'.out; obtain ⟨c0, c1, c2, cf0, cf1, cf2, cl⟩ := obj3 hp1; obtain ⟨d0', d1', d2', df0, df1, df2, dl⟩ := obj3 hq1; have hp1' := Lib.hid hp1; have hq1' := Lib.hid hq1; have hb1' := Lib.hid (below_step hb'.out hb1); clear hb1 hp1 hq1 p0 p1 p2 pf0 pf1 pf2 pl))
      have hB := Lib.hid ((((hb1'.out).setCell (p := ⟨w.heap.size + 1, 0, none⟩) (Nat.le_succ _) (.slice (some ⟨g, off, none⟩) (R.ce.length + 1) sc)).setCell (p := ⟨w.heap.size + 1, 1, none⟩) (Nat.le_succ _) (.slice ca R.ce.length cc)).setCell (p := ⟨w.heap.size + 1, 2, none⟩) (Nat.le_succ _) (.int .i64 (R.base : Nat)))
      have hs := (store3 hq1'.out (.slice (some ⟨g, off, none⟩) (R.ce.length + 1) sc) (.slice ca R.ce.length cc) (.int .i64 (R.base : Nat))).1
      generalize World.setCell (World.setCell (World.setCell _ ⟨w.heap.size + 1, 0, none⟩ _) ⟨w.heap.size + 1, 1, none⟩ _) ⟨w.heap.size + 1, 2, none⟩ _ = Wz at *
      obtain ⟨e0, e1, e2, _⟩ := obj3 hs
      refine bodyPost_ret (v := .agg #[.slice (some ⟨g, off, none⟩) (R.ce.length + 1) sc, .slice ca R.ce.length cc, .int .i64 (R.base : Nat)]) (by simp [results, Try.results19, go_sem, e0, e1, e2]) rfl ⟨_, _, xs, R, rfl, hR.out.carry hB.out, by rw [hy.out]; exact hS.out, fun g hg => .inl hg, hB.out⟩
  | true =>
    have hi := cin_iff.1 hc
    obtain ⟨j, rfl⟩ : ∃ j : Nat, i = (j : Int) := ⟨i.toNat, by omega⟩
    have hsay := Lib.hid (hS.out.set (v := v) hc)
    rw [Int.toNat_natCast] at hsay
    have hj : j < S.cs.length := by omega
    obtain ⟨z, hz⟩ : ∃ z, S.cs[j]? = some z := ⟨_, List.getElem?_eq_getElem hj⟩
    have hz' := Lib.hid hz
    have d0 : decide ((j : Int) < 0) = false := decide_eq_false (by omega)
    have d1 : decide (((S.cs.length : Nat) : Int) ≤ (j : Int)) = false := decide_eq_false (by omega)
    clear hz hc hi
    generalize hn : S.cs.length = n at *
    have hn' := Lib.hid hn
    clear hn
    go_enter Try.func19, Try.ntmps19
    go_upto_region 1 with fail
    rw [show (w.alloc (.cells #[.slice (some ⟨g, off, none⟩) (R.ce.length + 1) sc, .slice ca R.ce.length cc, .int .i64 (R.base : Nat)] 28)).alloc (.cells #[.slice none 0 0, .slice none 0 0, .int .i64 0] 28) = V from hV'.out.symm]
    obtain ⟨p0, p1, p2, pf0, pf1, pf2, pl⟩ := obj3 hp'.out
    go_upto_region 3 with (first | (go_at_call 23; with_reducible refine (kn.out _ hb'.out).mono ?_; rintro e y1 ⟨rfl, hb1⟩; have hp1 := h_over hb1 hp'.out; have hq1 := h_over hb1 hq'.out; obtain ⟨c0, c1, c2, cf0, cf1, cf2, cl⟩ := obj3 hp1; have hp1' := Lib.hid hp1; have hq1' := Lib.hid hq1; have hb1' := Lib.hid (below_step hb'.out hb1); clear hb1 hp1 hq1 p0 p1 p2 pf0 pf1 pf2 pl))
    go_upto_region 4 with (first
      | (go_at_call 23; with_reducible refine (kn.out _ hb1'.out).mono ?_; rintro e y2 ⟨rfl, hb2⟩; have hp2 := Lib.hid (h_over hb2 hp1'.out); have hq2 := Lib.hid (h_over hb2 hq1'.out); have hb2' := Lib.hid (below_step hb1'.out hb2); clear hb2 c0 c1 c2 cf0 cf1 cf2 cl)
      | (go_at_call 40; with_reducible refine (ko.out _ hb2'.out).mono ?_; rintro e y3 ⟨⟨vo, rfl, hr⟩, hb3⟩; have hp3 := Lib.hid (h_over hb3 hp2.out); have hq3 := Lib.hid (h_over hb3 hq2.out); have hb3' := Lib.hid (below_step hb2'.out hb3); have hsz3 := hb3.size; obtain ⟨ng, ncap, rfl, hng, hng2⟩ := hr.form (by omega); have hr' := Lib.hid hr; clear hb3 hr))
    have hqs : w.heap.size + 1 < y2.heap.size := (Array.getElem?_eq_some_iff.1 hq2.out).1
    have c0 := hr'.out.cellAt j (by omega)
    rw [ints_at hz'.out] at c0
    have f0 := hr'.out.frozenAt j
    obtain ⟨k1, k2⟩ := hr'.out.stored j (.int .i64 v)
    have hb4 := Lib.hid (hb3'.out.setCell (p := ⟨ng, j, none⟩) (by simp only; omega) (.int .i64 v))
    have hp4 := Lib.hid (h_set (p := ⟨ng, j, none⟩) (v := .int .i64 v) hp3.out (by simp only; omega))
    have hq4 := Lib.hid (h_set (p := ⟨ng, j, none⟩) (v := .int .i64 v) hq3.out (by simp only; omega))
    have hk1 := Lib.hid k1
    have hk2 := Lib.hid k2
    clear k1 k2
    go_upto_region 5 with fail
    generalize y3.setCell ⟨ng, j, none⟩ (.int .i64 v) = y4 at *
    obtain ⟨i1, ri0, rz0, rz1, rz2⟩ := info_parts info_rowR
    have ri0' := Lib.hid ri0; clear ri0
    have rz0' := Lib.hid rz0; clear rz0
    have rz1' := Lib.hid rz1; clear rz1
    have rz2' := Lib.hid rz2; clear rz2
    obtain ⟨p0, p1, p2, pf0, pf1, pf2, pl⟩ := obj3 hp4.out
    clear hp1' hq1' hb1' hp2 hq2 hb2' hp3 hq3 hb3' c0 f0 hk2
    have hL0 := Lib.hid (hst.out _ (hb4.out.alloc hb4.out.size (.cells #[] 22)))
    have hq9 : w.heap.size + 1 < y4.heap.size := (Array.getElem?_eq_some_iff.1 hq4.out).1
    generalize hpc : R.ce.length = pc at *
    have hpc' := Lib.hid hpc
    clear hpc
    go_upto_region 6 with (first
      | (at_builtin; (refine wpList_append_own _ rfl _ _ 26 rfl y4.heap.size 22 i1 _ 1 24 Try.underlying26 ri0'.out rz0'.out rz1'.out rz2'.out rfl (by decide) (.slice (some ⟨y4.heap.size, 0, none⟩) 0 0) 0 [] rfl (World.ownsRow_made y4 #[] 0 (Nat.le_refl _) (Nat.zero_le _) (by simp)) ⟨g, off, none⟩ (pc + 1) sc xs rfl (by rw [hxl'.out, Nat.mul_one]) hL0.out hXO.out (by unfold maxLen; omega) (by omega) (by simp) ?_; intro v6 y6 hown6 hg6 _; have B6 := ((Below.refl y4.heap.size y4).alloc (Nat.le_refl _) _).grown hg6 (by simp) (fun k hk => by simp [Value.ownBlock] at hk; omega); simp only [Nat.zero_add, List.nil_append] at hown6; obtain ⟨a6, n6, c6, rfl⟩ := own_shape hown6; have hown6' := Lib.hid hown6; have hlo6 := Lib.hid hown6.lt; have hsz6 := B6.size; have B6' := Lib.hid B6; have p0 := carry B6 p0; have p1 := carry B6 p1; clear hown6 hg6 B6))
      | (at_builtin; refine wpList_append_own _ rfl _ _ 26 rfl y4.heap.size 22 i1 _ 1 24 Try.underlying26 ri0'.out rz0'.out rz1'.out rz2'.out rfl (by decide) (.slice a6 n6 c6) (pc + 1) xs rfl (World.ownsRow.alloc hown6'.out _) ⟨y6.heap.size, 0, none⟩ 1 1 [.slice (some ⟨ng, 0, none⟩) n ncap] rfl rfl (cell_one_new _ _ _) (by intro u hu; simp only [List.mem_singleton] at hu; rw [hu]; rfl) (by unfold maxLen; omega) (by omega) (by simp; omega) ?_; intro v7 y7 hown7 hg7 _; have B7 := (B6'.out.alloc hsz6 _).grown hg7 (by simp; omega) (fun k hk => (hlo6.out k hk).1); obtain ⟨a7, n7, c7, rfl⟩ := own_shape hown7; have hown7' := Lib.hid hown7; have B7' := Lib.hid B7; have hp7 := Lib.hid (h_over B7 hp4.out); obtain ⟨e0, e1, e2, ef0, ef1, ef2, el⟩ := obj3 (h_over B7 hp4.out); clear hown7 hg7 B7))
    have hb8 := Lib.hid ((below_step hb4.out B7'.out).setCell (p := ⟨w.heap.size, 0, none⟩) (Nat.le_refl _) (.slice a7 n7 c7))
    have hp8 := Lib.hid (show (y7.setCell ⟨w.heap.size, 0, none⟩ (.slice a7 n7 c7)).heap[w.heap.size]? = some (.cells #[.slice a7 n7 c7, .slice ca pc cc, .int .i64 (R.base : Nat)] 28) from heap_setCell hp7.out 0 _)
    have hq8 := Lib.hid (h_set (p := ⟨w.heap.size, 0, none⟩) (v := .slice a7 n7 c7) (h_over B7'.out hq4.out) (by simp only; omega))
    have hown8 := Lib.hid (ownsRow_setCell_below hown7'.out (a := ⟨w.heap.size, 0, none⟩) pl (.slice a7 n7 c7))
    have hk8 := Lib.hid (ownsRow_setCell_below (own_carry hk1.out B7'.out) (a := ⟨w.heap.size, 0, none⟩) (by simp only; omega) (.slice a7 n7 c7))
    have hsz8 : y4.heap.size ≤ (y7.setCell ⟨w.heap.size, 0, none⟩ (.slice a7 n7 c7)).heap.size := by have := B7'.out.size; simpa [World.setCell] using this
    generalize y7.setCell ⟨w.heap.size, 0, none⟩ (.slice a7 n7 c7) = y8 at *
    clear e0 e1 e2 ef0 ef1 ef2 el p0 p1 p2 pf0 pf1 pf2 pl hown6' hlo6 hsz6 B6' hown7' B7' hp7 hp4 hq4 hk1 hL0 ri0' rz0' rz1' rz2'
    obtain ⟨p0, p1, p2, pf0, pf1, pf2, pl⟩ := obj3 hp8.out
    obtain ⟨i0, hi0, hz0, hz1, hz2⟩ := info_parts info_int
    have hi0' := Lib.hid hi0; clear hi0
    have hz0' := Lib.hid hz0; clear hz0
    have hz1' := Lib.hid hz1; clear hz1
    have hz2' := Lib.hid hz2; clear hz2
    have hil := Lib.hid (show (ints (natI R.ce)).length = pc from by rw [ints_length, natI_length, hpc'.out])
    go_upto_region 7 with (first
      | (go_at_call 40; with_reducible refine (kc.out _ hb8.out).mono ?_; rintro e y9 ⟨⟨vo, rfl, hr⟩, hb9⟩; rw [natI_length, hpc'.out] at hr; obtain ⟨a9, n9, c9, rfl⟩ := own_shape hr; have hr9 := Lib.hid hr; have hlo9 := Lib.hid hr.lt; have hsz9 := hb9.size; have B9 := Lib.hid hb9; have p0 := carry hb9 p0; have p1 := carry hb9 p1; clear hb9 hr)
      | (at_builtin; (refine wpList_append_own _ rfl _ _ 22 rfl y8.heap.size 3 i0 _ 1 8 Try.underlying22 hi0'.out hz0'.out hz1'.out hz2'.out rfl (by decide) (.slice a9 n9 c9) pc (ints (natI R.ce)) rfl (World.ownsRow.alloc hr9.out _) ⟨y9.heap.size, 0, none⟩ 1 1 [.int .i64 (j : Nat)] rfl rfl (cell_one_new _ _ _) (ints_oneCell .i64 [(j : Int)]) (by unfold maxLen; omega) (by omega) (by simp; omega) ?_; intro v10 y10 hown10 hg10 _; have B10 := (B9.out.alloc hsz9 _).grown hg10 (by simp; omega) (fun k hk => (hlo9.out k hk).1); obtain ⟨a10, n10, c10, rfl⟩ := own_shape hown10; have hown10' := Lib.hid hown10; have B10' := Lib.hid B10; have hp10 := Lib.hid (h_over B10 hp8.out); obtain ⟨e0, e1, e2, ef0, ef1, ef2, el⟩ := obj3 (h_over B10 hp8.out); clear hown10 hg10 B10)))
    have hb11 := Lib.hid ((below_step hb8.out B10'.out).setCell (p := ⟨w.heap.size, 1, none⟩) (Nat.le_refl _) (.slice a10 n10 c10))
    have hp11 := Lib.hid (show (y10.setCell ⟨w.heap.size, 1, none⟩ (.slice a10 n10 c10)).heap[w.heap.size]? = some (.cells #[.slice a7 n7 c7, .slice a10 n10 c10, .int .i64 (R.base : Nat)] 28) from heap_setCell hp10.out 1 _)
    have hq11 := Lib.hid (h_set (p := ⟨w.heap.size, 1, none⟩) (v := .slice a10 n10 c10) (h_over B10'.out hq8.out) (by simp only; omega))
    have hown11 := Lib.hid (ownsRow_setCell_below (own_carry hown8.out B10'.out) (a := ⟨w.heap.size, 1, none⟩) (by simp only; omega) (.slice a10 n10 c10))
    have hk11 := Lib.hid (ownsRow_setCell_below (own_carry hk8.out B10'.out) (a := ⟨w.heap.size, 1, none⟩) (by simp only; omega) (.slice a10 n10 c10))
    have hc11 := Lib.hid (ownsRow_setCell_below hown10'.out (a := ⟨w.heap.size, 1, none⟩) (by simp only; omega) (.slice a10 n10 c10))
    generalize y10.setCell ⟨w.heap.size, 1, none⟩ (.slice a10 n10 c10) = y11 at *
    clear e0 e1 e2 ef0 ef1 ef2 el p0 p1 p2 pf0 pf1 pf2 pl hr9 hlo9 hsz9 B9 hown10' B10' hp10 hp8 hq8 hown8 hk8 hi0' hz0' hz1' hz2'
    obtain ⟨p0, p1, p2, pf0, pf1, pf2, pl⟩ := obj3 hp11.out
    obtain ⟨q0, q1, q2, qf0, qf1, qf2, ql⟩ := obj3 hq11.out
    go_wp2_with fail
    have hB := Lib.hid (((hb11.out.setCell (p := ⟨w.heap.size + 1, 0, none⟩) (Nat.le_succ _) (.slice a7 n7 c7)).setCell (p := ⟨w.heap.size + 1, 1, none⟩) (Nat.le_succ _) (.slice a10 n10 c10)).setCell (p := ⟨w.heap.size + 1, 2, none⟩) (Nat.le_succ _) (.int .i64 (R.base : Nat)))
    have hs := (store3 hq11.out (.slice a7 n7 c7) (.slice a10 n10 c10) (.int .i64 (R.base : Nat))).1
    have o1 := (ownsRow_setCell_below (ownsRow_setCell_below (ownsRow_setCell_below hown11.out (a := ⟨w.heap.size + 1, 0, none⟩) (by simp only; omega) (.slice a7 n7 c7)) (a := ⟨w.heap.size + 1, 1, none⟩) (by simp only; omega) (.slice a10 n10 c10)) (a := ⟨w.heap.size + 1, 2, none⟩) (by simp only; omega) (.int .i64 (R.base : Nat)))
    have o2 := (ownsRow_setCell_below (ownsRow_setCell_below (ownsRow_setCell_below hk11.out (a := ⟨w.heap.size + 1, 0, none⟩) (by simp only; omega) (.slice a7 n7 c7)) (a := ⟨w.heap.size + 1, 1, none⟩) (by simp only; omega) (.slice a10 n10 c10)) (a := ⟨w.heap.size + 1, 2, none⟩) (by simp only; omega) (.int .i64 (R.base : Nat)))
    have o3 := (ownsRow_setCell_below (ownsRow_setCell_below (ownsRow_setCell_below hc11.out (a := ⟨w.heap.size + 1, 0, none⟩) (by simp only; omega) (.slice a7 n7 c7)) (a := ⟨w.heap.size + 1, 1, none⟩) (by simp only; omega) (.slice a10 n10 c10)) (a := ⟨w.heap.size + 1, 2, none⟩) (by simp only; omega) (.int .i64 (R.base : Nat)))
    generalize World.setCell (World.setCell (World.setCell _ ⟨w.heap.size + 1, 0, none⟩ _) ⟨w.heap.size + 1, 1, none⟩ _) ⟨w.heap.size + 1, 2, none⟩ _ = Wz at *
    obtain ⟨e0, e1, e2, _⟩ := obj3 hs
    have hRz := hR.out.carry hB.out
    have hsl : R.st.length = pc + 1 := by rw [← hRz.len, hxl'.out]
    rw [Cm.ints_set] at o2
    rw [← natI_snoc] at o3
    refine bodyPost_ret (v := .agg #[.slice a7 n7 c7, .slice a10 n10 c10, .int .i64 (R.base : Nat)]) (by simp [results, Try.results19, go_sem, e0, e1, e2]) rfl ⟨.slice a7 n7 c7, .slice a10 n10 c10, xs ++ [.slice (some ⟨ng, 0, none⟩) n ncap], ⟨R.st ++ [S.cs.set j v], R.ce ++ [j], R.base⟩, rfl, ?_, hsay.out, ?_, hB.out⟩
    rotate_left
    · rintro gg (h1 | h1 | ⟨u, h1, h2⟩)
      · have := o1.lt gg h1
        right; omega
      · have := o3.lt gg h1
        right; omega
      · rcases List.mem_append.1 h1 with h1 | h1
        · exact .inl (.inr (.inr ⟨u, h1, h2⟩))
        · simp only [List.mem_singleton] at h1
          rw [h1] at h2
          have := o2.lt gg h2
          right; omega
    refine ⟨VL.owned o1, by simp only [List.length_append, List.length_singleton]; rw [hRz.len], ?_, ?_, IL.owned o3, noz_owned o3⟩
    · intro i x l hx hl
      rcases Nat.lt_or_ge i (pc + 1) with h2 | h2
      · rw [List.getElem?_append_left (by rw [hxl'.out]; exact h2)] at hx
        rw [List.getElem?_append_left (by rw [hsl]; exact h2)] at hl
        exact hRz.el i x l hx hl
      · rw [List.getElem?_append_right (by rw [hxl'.out]; exact h2), hxl'.out] at hx
        rw [List.getElem?_append_right (by rw [hsl]; exact h2), hsl] at hl
        have h3 := (List.getElem?_eq_some_iff.1 hx).1
        simp only [List.length_cons, List.length_nil] at h3
        rw [show i - (pc + 1) = 0 by omega] at hx hl
        cases hx
        cases hl
        exact IL.owned o2
    · intro i x hx
      rcases Nat.lt_or_ge i (pc + 1) with h2 | h2
      · rw [List.getElem?_append_left (by rw [hxl'.out]; exact h2)] at hx
        exact hRz.nx i x hx
      · rw [List.getElem?_append_right (by rw [hxl'.out]; exact h2), hxl'.out] at hx
        have h3 := (List.getElem?_eq_some_iff.1 hx).1
        simp only [List.length_cons, List.length_nil] at h3
        rw [show i - (pc + 1) = 0 by omega] at hx
        cases hx
        exact noz_owned o2
end
end Go.Proofs.Ytlpacihkmfgegaa
