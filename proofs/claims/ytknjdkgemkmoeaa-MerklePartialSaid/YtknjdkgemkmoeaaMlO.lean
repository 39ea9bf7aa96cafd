/- Package merkle: a partial tree learns a leaf. -/
import Derived.Test.YtknjdkgemkmoeaaMlN
import Derived.Test.YtknjdkgemkmoeaaMlK
namespace Go.Proofs.Ytknjdkgemkmoeaa
open Go.ChangeShapes Go.WideShapes Go.ChangeAt Go.RowKit Go.Shelf
set_option linter.unusedSimpArgs false
set_option linter.unusedVariables false
attribute [local go_sem] Oper.semAt_some

/-- The hashes behind k rounds of learning. -/
def lrn (D : DataW Unit) (i : Nat) (l : List W64) : Nat → DataW Unit
  | 0 => D
  | k + 1 => (lrn D i l k).put (kP k (sib (i / 2 ^ k))) (.lit (.int .u64 ((l.getD k 0).toNat : Int)))

theorem Pa.kept {w w' : World} {b b1 b2 h n : Nat} {D1 D2 : DataW Unit} {row : Option Nat} (p : Pa w b b1 b2 h D1 D2 n) (hg : w.grownBy w' row) (hr : ∀ r, row = some r → r ≠ b ∧ r ≠ b1 ∧ r ≠ b2) : Pa w' b b1 b2 h D1 D2 n :=
  p.keep fun r hx => hg.block r (by have := p.lt; rcases hx with rfl | rfl | rfl <;> omega) fun e => by
    have := hr r e.symm
    rcases hx with rfl | rfl | rfl
    · exact this.1 rfl
    · exact this.2.1 rfl
    · exact this.2.2 rfl
theorem Pa.steady {T : Nat → Prop} {b b1 b2 h : Nat} {D1 : DataW Unit} {D2 : Nat → DataW Unit} {n : Nat → Nat} (ht : ∀ r, T r → r ≠ b ∧ r ≠ b1 ∧ r ≠ b2) : Steady T (fun k W => Pa W b b1 b2 h D1 (D2 k) (n k)) :=
  fun k A B row hs hg hr => hs.kept hg fun r e => ht r (hr r e)
theorem Pa.not_cell {w : World} {b b1 b2 h n : Nat} {D1 D2 : DataW Unit} (p : Pa w b b1 b2 h D1 D2 n) {a : Addr} {v : Value} (hc : w.cell? a = some v) : a.block ≠ b1 ∧ a.block ≠ b2 := by
  obtain ⟨es, cl, e1, _⟩ := p.m1
  obtain ⟨es', cl', e2, _⟩ := p.m2
  refine ⟨fun e => ?_, fun e => ?_⟩
  · rw [World.cell?, e, e1] at hc; cases hc
  · rw [World.cell?, e, e2] at hc; cases hc
theorem wf_nat {k : Nat} (h : k < 1000000) : (Lit.int .i64 (k : Nat)).wf = true := by
  simp [Lit.wf, IntKind.min, IntKind.max, IntKind.bits, IntKind.signed] <;> omega
theorem wf_word (x : W64) : (Lit.int .u64 (x.toNat : Int)).wf = true := by
  have := x.isLt
  simp [Lit.wf, IntKind.min, IntKind.max, IntKind.bits, IntKind.signed] <;> omega

set_option maxRecDepth 100000 in
set_option maxHeartbeats 8000000 in
theorem learn_any (b b1 b2 H n : Nat) (D1 D2 : DataW Unit) (i : Nat) (v : Int) (pv : Value) (l : List W64) (w : World) (p : Pa w b b1 b2 H D1 D2 n) (h : VL w pv (u64s l)) (hl : l.length = H) (hi : i < 100000) (hH : H ≤ 60) (hv : (Lit.int .i64 v).wf = true) (hn : n ≤ 1000000) :
    Calls Try.prog 63 #[.pointer (some ⟨b, 0, none⟩), .agg #[.int .i64 (i : Nat), .int .i64 v, pv]] w fun e w' => (∃ u, e = .returned u) ∧
      Pa w' b b1 b2 H (D1.put (.int .i64 (i : Nat)) (.lit (.int .i64 v))) (lrn D2 i l H) (n + 1 + H) ∧ Mv (fun r => r = b1 ∨ r = b2) w w' := by
  obtain ⟨a, cap, rfl, h1, h2, h3⟩ := WL.shape h
  rw [hl] at h1 h3 ⊢
  unfold maxLen at h2
  obtain ⟨V, hV⟩ : ∃ V, V = (w.alloc (.cells #[.pointer (some ⟨b, 0, none⟩)] 32)).alloc (.cells #[.int .i64 (i : Nat), .int .i64 v, .slice a H cap] 30) := ⟨_, rfl⟩
  have hBV : Below w.heap.size w V := by rw [hV]; exact below_step (alloc_below _ _) (alloc_below _ _)
  have hzV : V.heap.size = w.heap.size + 2 := by rw [hV]; simp
  have p0 : V.cell? ⟨w.heap.size, 0, none⟩ = some (.pointer (some ⟨b, 0, none⟩)) := by rw [hV]; exact carry (alloc_below _ _) (by simp [go_sem])
  have hL : LfB V (w.heap.size + 1) (i : Nat) v (.slice a H cap) := by
    have := LfB.new (w.alloc (.cells #[.pointer (some ⟨b, 0, none⟩)] 32)) (i : Nat) v (.slice a H cap)
    rw [← hV, World.size_alloc] at this
    exact this
  have hP := Lib.hid (p.carry hBV)
  have hcell := Lib.hid (show 0 < H → ∃ g off, a = some ⟨g, off, none⟩ ∧ g < w.heap.size ∧ ¬ (g = b1 ∨ g = b2) ∧ ∀ (k : Nat) (x : W64), l[k]? = some x → V.cell? ⟨g, off + k, none⟩ = some (.int .u64 (x.toNat : Int)) from fun hp => by
    obtain ⟨g, off, e, hg, hc⟩ := h3 hp
    refine ⟨g, off, e, hg, ?_, fun k x hk => carry hBV (hc k x hk)⟩
    obtain ⟨x, hx⟩ : ∃ x, l[0]? = some x := ⟨_, List.getElem?_eq_getElem (by omega)⟩
    have := p.not_cell (hc 0 x hx)
    rintro (e | e)
    · exact this.1 e
    · exact this.2 e)
  have c1 := hP.out.c1
  have l0 := hL.c0
  have l1 := hL.c1
  have l2 := hL.c2
  have hlt := p.lt
  have hw0 : w.heap.size < V.heap.size := by omega
  have hl' := Lib.hid hl
  have hBV' := Lib.hid hBV
  clear p h h3 hl hBV
  have hap := Lib.hid (hP.out.apart)
  refine (callsIn_wide (n := 9)).1 (callsIn_of_wp_marks Try.func63 rfl trivial (wpIn_wide.2 ?_) rfl)
  simp only [Try.ntmps63, List.size_toArray, List.length_cons, List.length_nil, Nat.reduceAdd, Nat.reduceSub, Array.replicate_succ, Array.replicate_zero, List.push_toArray, List.append_toArray, List.nil_append, List.cons_append]
  go_wp2_with fail
  rw [← hV]
  clear hV
  have m0 := block_lt_of_cell p0
  have m1 := block_lt_of_cell c1
  have m2 := block_lt_of_cell l0
  simp only at m0 m1 m2
  refine wp_region_tail 8 (by kernel_rfl) (by kernel_rfl) ?_
  intro W hK
  obtain ⟨hc, hf, hz, hb⟩ := hK
  simp only [List.take_succ_cons, List.take_zero, List.drop_succ_cons, List.drop_zero]
  have g_1 := fun x => carry (hb x) c1
  repeat (go_big_quiet_step (fail))
  refine wpQuiet_nil ?_
  intro _ hw'
  obtain ⟨xq, hw''⟩ := hw'
  subst hw''
  have hbq := hb xq
  have hP1 := Lib.hid (hP.out.carry hbq)
  have hM1 := Lib.hid (Mv.below (O := fun r => r = b1 ∨ r = b2) hbq)
  clear hc hf hz hb hbq
  generalize over W xq = W1 at *
  have hm1 := Lib.hid hP1.out.m1
  have hkey := Lib.hid (Maps.keyOf_int_mk (P := Try.prog) Try.underlying3 (wf_nat (k := i) (by omega)))
  have hval := Lib.hid (plainElem_int (H := Unit) (P := Try.prog) Try.underlying3 hv)
  refine wpList_mapUpdate_own _ rfl _ _ _ 102 rfl 3 3 keyI Try.underlying102 _ b1 n D1 rfl hm1.out (by unfold maxLen; omega) _ _ (.int .i64 (i : Nat)) rfl rfl hkey.out (.lit (.int .i64 v)) [] hval.out ?_
  intro U hown hgrow
  simp only [Act.put]
  have hP2 := Lib.hid (hP1.out.put1 hgrow hown)
  have hM2 := Lib.hid (hM1.out.grown hgrow fun r e _ => .inl (by cases e; rfl))
  clear hown hgrow hm1 hkey hval hP1 hM1 W1
  have hnb1 : w.heap.size ≠ b1 ∧ w.heap.size ≠ b2 ∧ w.heap.size + 1 ≠ b1 ∧ w.heap.size + 1 ≠ b2 := ⟨by omega, by omega, by omega, by omega⟩
  have hn0 : ¬ (w.heap.size = b1 ∨ w.heap.size = b2) := by omega
  have hn1 : ¬ (w.heap.size + 1 = b1 ∨ w.heap.size + 1 = b2) := by omega
  have hV0 := Lib.hid p0
  have hVL := Lib.hid hL
  have u0 := hM2.out.cell p0 hn0
  have uL : LfB U (w.heap.size + 1) (i : Nat) v (.slice a H cap) := hM2.out.heap hL hn1
  have u1 := uL.c0
  have u2 := hP2.out.c0
  have hzU := hM2.out.size
  clear c1 l0 l1 l2 m0 m1 m2 p0 hL hP uL hnb1
  go_wp2_with fail
  have m0 := block_lt_of_cell u0
  have m1 := block_lt_of_cell u1
  have m2 := block_lt_of_cell u2
  simp only at m0 m1 m2
  refine wp_region_tail 6 (by kernel_rfl) (by kernel_rfl) ?_
  intro W hK
  obtain ⟨hc, hf, hz, hb⟩ := hK
  simp only [List.take_succ_cons, List.take_zero, List.drop_succ_cons, List.drop_zero]
  have g_1 := fun x => carry (hb x) u2
  repeat (go_big_quiet_step (fail))
  refine wpQuiet_nil ?_
  intro _ hw'
  obtain ⟨xq, hw''⟩ := hw'
  subst hw''
  have hbq := hb xq
  have hP3 := Lib.hid (hP2.out.carry hbq)
  have hM3 := Lib.hid (hM2.out.trans (Mv.below hbq))
  have hzq := hbq.size
  clear g_1 hc hf hz hb hbq hP2 hM2 u0 u1 u2 m0 m1 m2
  generalize over W xq = W3 at *
  go_wp2_with fail
  refine (path_any _ _ _).mono ?_
  rintro e X ⟨rfl, hX⟩
  have hbX : Below W3.heap.size W3 X := by rw [hX]; exact below_step (alloc_below _ _) (alloc_below _ _)
  have hzX : X.heap.size = W3.heap.size + 2 := by rw [hX]; simp
  have ci2 : X.cell? ⟨W3.heap.size, 0, none⟩ = some (.int .i64 (i : Nat)) := by rw [hX]; exact carry (alloc_below _ _) (by simp [go_sem])
  have ch2 : X.cell? ⟨W3.heap.size + 1, 0, none⟩ = some (.int .i64 (H : Nat)) := by rw [hX, show W3.heap.size + 1 = (W3.alloc (.cells #[.int .i64 (i : Nat)] 3)).heap.size from by simp]; simp [go_sem]
  have hP4 := Lib.hid (hP3.out.carry hbX)
  have hM4 := Lib.hid (hM3.out.trans (Mv.below hbX))
  clear hX hbX hP3 hM3
  have hjH := Lib.hid (show i < 1000000 from by omega)
  generalize W3.heap.size = xb at *
  go_wp2_with fail
  refine (wpIn_wide (n := 9)).1 ?_
  refine range_gives (w0 := X) (c := 0) (N := H) (S := fun r => r = xb) rfl (enters_of Try.func87 (by kernel_rfl) rfl)
    (path_gives i H xb (xb + 1) _ X ci2 ch2 rfl hjH.out (by omega)) (Below.refl _ _) (by rintro r rfl; omega) (fun _ => rfl)
    (fun k Z => Pa Z b b1 b2 H (D1.put (.int .i64 (i : Nat)) (.lit (.int .i64 v))) (lrn D2 i l k) (n + 1 + k) ∧ Mv (fun r => r = b1 ∨ r = b2) V Z) (fun _ _ => False) ?hI (fun _ _ _ _ h _ _ => h) ⟨hP4.out, hM4.out⟩ ?round ?done ?stop
  case hI =>
    exact Steady.and (Pa.steady (n := fun k => n + 1 + k) fun r h => by have h1 : X.heap.size ≤ r := h.1; omega) (steady_mv fun r h hl => by have h1 : X.heap.size ≤ r := h.1; omega)
  case round =>
    rintro l1 k Z hk hsz ⟨hZ, hMZ⟩
    have hjm := Lib.hid (Nat.lt_of_le_of_lt (Nat.div_le_self i (2 ^ k)) hjH.out)
    have kS := Lib.hid (fun W => sibling_any k (i / 2 ^ k) W hjm.out)
    obtain ⟨g, off, rfl, hg, hgn, hcl⟩ := hcell.out (by omega)
    have hk' : k < l.length := by rw [hl'.out]; exact hk
    have cx := hcl k (l.getD k 0) (by rw [List.getD_eq_getElem?_getD, List.getElem?_eq_getElem hk']; rfl)
    obtain ⟨E3, hE3⟩ : ∃ E3, lrn D2 i l (k + 1) = E3 := ⟨_, rfl⟩
    have hE3' := Lib.hid hE3
    have hlr := Lib.hid (show E3 = (lrn D2 i l k).put (kP k (sib (i / 2 ^ k))) (.lit (.int .u64 ((l.getD k 0).toNat : Int))) from hE3.symm)
    clear hE3
    have hsl : sib (i / 2 ^ k) < 1000000 := Nat.lt_of_lt_of_le (sib_lt (m := 100000) (Nat.lt_of_le_of_lt (Nat.div_le_self i (2 ^ k)) hi)) (by omega)
    have hkey := Lib.hid (keyOf_place k (sib (i / 2 ^ k)) (wf_nat (by omega)) (wf_nat hsl))
    have hval := Lib.hid (plainElem_int (H := Unit) (P := Try.prog) Try.underlying36 (wf_word (l.getD k 0)))
    simp only [plE]
    generalize l.getD k 0 = z at *
    generalize lrn D2 i l k = E2 at *
    generalize sib (i / 2 ^ k) = sj at *
    generalize i / 2 ^ k = jk at *
    gi_wp2
    refine ⟨KeepOn.below (alloc_below _ _), fun T hT => ?_⟩
    have hz : Z.heap.size + 1 ≤ T.heap.size := by have := hT.size; simpa using this
    have t0 : T.cell? ⟨Z.heap.size, 0, none⟩ = some (.int .i64 (k : Nat)) := hT.cell (by simp [go_sem]) (by simp only; omega)
    have t1 : T.cell? ⟨Z.heap.size, 1, none⟩ = some (.int .i64 (jk : Nat)) := hT.cell (by simp [go_sem]) (by simp only; omega)
    have hZT := Lib.hid (hT.steady (J := fun _ W => Pa W b b1 b2 H (D1.put (.int .i64 (i : Nat)) (.lit (.int .i64 v))) E2 (n + 1 + k)) (k := 0) (Pa.steady (D2 := fun _ => E2) (n := fun _ => n + 1 + k) fun r h => by have h1 : X.heap.size ≤ r := h.1; omega) (hZ.carry (alloc_below _ _)))
    have hMT := Lib.hid (hT.steady (J := fun _ W => Mv (fun r => r = b1 ∨ r = b2) V W) (k := 0) (steady_mv fun r h hl => by have h1 : X.heap.size ≤ r := h.1; omega) (hMZ.trans (Mv.below (alloc_below _ _))))
    clear hZ hMZ hT
    have t2 := hMT.out.cell hV0.out hn0
    have t3 := (show LfB T (w.heap.size + 1) (i : Nat) v (.slice (some ⟨g, off, none⟩) H cap) from hMT.out.heap hVL.out hn1).c2
    have t4 := hMT.out.cell cx hgn
    have t5 := hZT.out.c2
    clear hcl cx
    generalize Z.heap.size = pb at *
    gi_wp2_with fail
    have m0 := block_lt_of_cell t0
    have m2 := block_lt_of_cell t2
    have m3 := block_lt_of_cell t3
    have m4 := block_lt_of_cell t4
    have m5 := block_lt_of_cell t5
    simp only at m0 m2 m3 m4 m5
    refine round_tail 12 (by kernel_rfl) (by kernel_rfl) (by kernel_rfl) (fun _ _ h => h) ?_
    intro Z2 hZ2
    obtain ⟨hc, hf, hz2, hb2⟩ := hZ2
    have g_0 := fun x => carry (hb2 x) t0
    have g_1 := fun x => carry (hb2 x) t1
    have g_2 := fun x => carry (hb2 x) t2
    have g_3 := fun x => carry (hb2 x) t3
    have g_4 := fun x => carry (hb2 x) t4
    have g_5 := fun x => carry (hb2 x) t5
    simp only [List.take_succ_cons, List.take_zero, List.drop_succ_cons, List.drop_zero]
    repeat (go_big_quiet_step ((go_at_call 60; with_reducible exact met_made (kS.out _))))
    refine wpQuiet_nil ?_
    intro _ hw'
    obtain ⟨xq, hw''⟩ := hw'
    subst hw''
    have hbq := hb2 xq
    have hZ3 := Lib.hid (hZT.out.carry hbq)
    have hM3 := Lib.hid (hMT.out.trans (Mv.below hbq))
    have hk3 := KeepOn.below (S := fun r => r = xb ∨ (X.heap.size ≤ r ∧ r < X.heap.size + 2 + 0)) hbq
    clear g_0 g_1 g_2 g_3 g_4 g_5 hc hf hz2 hb2 t0 t1 t2 t3 t4 t5 hbq
    generalize over Z2 xq = w4 at *
    have hm2 := Lib.hid hZ3.out.m2
    refine wpList_mapUpdate_own _ rfl _ _ _ 103 rfl 99 36 keyP Try.underlying103 _ b2 (n + 1 + k) E2 rfl hm2.out (by unfold maxLen; omega) _ _ (kP k sj) rfl rfl hkey.out (.lit (.int .u64 (z.toNat : Int))) [] hval.out ?_
    intro w5 hown hgrow
    simp only [Act.put]
    have hZ5 := hZ3.out.put2 hgrow hown
    rw [← hlr.out, ← hE3'.out] at hZ5
    have hM5 := hM3.out.grown hgrow fun r e _ => .inr (by cases e; rfl)
    have hk5 := hk3.trans (KeepOn.grown hgrow fun r e => by cases e; omega)
    go_wp2
    exact ⟨hk5, hZ5, hM5⟩
  case done =>
    rintro D Z rfl ⟨hZ, hMZ⟩ hD
    go_wp2
    refine ⟨by simp, .inl ⟨_, _, rfl, run_takeDeferred hD, ?_⟩⟩
    refine ⟨_, results_none rfl _ _ _, ⟨_, rfl⟩, hZ.kept (grownBy_putObj' Z _ _) fun r e => by cases e; omega, ?_⟩
    exact ((Mv.below hBV'.out).trans hMZ).grown (grownBy_putObj' Z _ _) fun r e hr => by cases e; omega
  case stop => exact fun _ _ _ _ _ h _ => h.elim
end Go.Proofs.Ytknjdkgemkmoeaa
