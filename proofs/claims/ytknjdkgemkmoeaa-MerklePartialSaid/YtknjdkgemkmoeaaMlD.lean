/- Package merkle: Verify. -/
import Derived.Test.YtknjdkgemkmoeaaMlC
import Derived.Test.YtknjdkgemkmoeaaMkB
namespace Go.Proofs.Ytknjdkgemkmoeaa
open Go.ChangeShapes Go.WideShapes Go.ChangeAt Go.RowKit Go.Shelf
set_option linter.unusedSimpArgs false
set_option linter.unusedVariables false
attribute [local go_sem] Oper.semAt_some

theorem hsW_up (i : Nat) (v : Int) (l : List W64) : ∀ k, k ≤ l.length → hsW i v (fun k => l.getD k 0) k = up i (leafV i v) (l.take k)
  | 0, _ => by rw [List.take_zero]; rfl
  | k + 1, h => by
    have hk : l[k]? = some (l.getD k 0) := by rw [List.getD_eq_getElem?_getD, List.getElem?_eq_getElem (by omega)]; rfl
    show parW (i / 2 ^ k) (hsW i v (fun k => l.getD k 0) k) (l.getD k 0) = _
    rw [List.take_add_one, hk, Option.toList_some, up_snoc, List.length_take, Nat.min_eq_left (by omega), hsW_up i v l k (by omega)]
/-- What lies in 'last' behind k rounds. -/
def lastW (f : Nat → W64) : Nat → W64
  | 0 => 0
  | k + 1 => f k

theorem proven_any (t j lb g off m cap : Nat) (x : W64) (w : World) (c2 : w.cell? ⟨lb, 2, none⟩ = some (.slice (some ⟨g, off, none⟩) m cap)) (cx : w.cell? ⟨g, off + t, none⟩ = some (.int .u64 (x.toNat : Int))) (ht : t < m) :
    Calls Try.prog 88 #[.agg #[.int .i64 (t : Nat), .int .i64 (j : Nat)], .pointer (some ⟨lb, 0, none⟩)] w fun e w' => e = .returned (.int .u64 (x.toNat : Int)) ∧ Below w.heap.size w w' := by
  have n0 := block_lt_of_cell c2
  have n1 := block_lt_of_cell cx
  simp only at n0 n1
  go_enter Try.func88, Try.ntmps88
  go_wp2
  go_ret
  refine ⟨rfl, ?_⟩
  repeat (first | exact Below.refl _ _ | (refine Below.setCell ?_ (by first | (simp; done) | (simp; omega) | omega) _) | (refine Below.alloc ?_ (by first | exact Nat.le_refl _ | (simp; done) | (simp; omega) | omega) _) | refine Below.drew ?_ | (refine Below.trans ?_ ((hb _).mono (by first | (simp; done) | (simp; omega) | omega))) | (refine Below.trans ?_ (hb1.mono (by first | (simp; done) | (simp; omega) | omega))))

set_option maxHeartbeats 8000000 in
set_option maxRecDepth 100000 in
theorem verify_any (root : W64) (n : Nat) (i v : Int) (pv : Value) (l : List W64) (w : World) (h : VL w pv (u64s l)) (hn : n ≤ 65536) (hl : l.length ≤ 1000) :
    Calls Try.prog 62 #[.int .u64 (root.toNat : Int), .int .i64 (n : Nat), .agg #[.int .i64 i, .int .i64 v, pv]] w fun e w' => e = .returned (.bool (verW root n i v l)) ∧ Below w.heap.size w w' := by
  obtain ⟨a, cap, rfl, h1, h2, h3⟩ := WL.shape h
  clear h
  unfold maxLen at h2
  have hcr := Lib.hid h3
  clear h3
  obtain ⟨m, hm⟩ : ∃ m, m = l.length := ⟨_, rfl⟩
  rw [← hm] at h1 hcr hl ⊢
  have hm' := Lib.hid hm
  clear hm
  have hB0 := Lib.hid (alloc_below w (.cells #[.int .i64 i, .int .i64 v, .slice a m cap] 30))
  obtain ⟨c0, c1, c2⟩ := lf_cells w i v (.slice a m cap) 30
  have kH := Lib.hid (fun W => (height_any n W hn).mono (R' := fun e w' => e = .returned (.int .i64 ((ht n : Nat) : Int)) ∧ W = w') fun e w' h => ⟨h.1, h.2.symm⟩)
  have h16 := ht_small hn
  have hself := ht_self n
  have hv := Lib.hid (show verW root n i v l = (decide (0 ≤ i) && decide (i < n) && decide (l.length = ht n) && decide (up i.toNat (leafV i v) l = root)) from rfl)
  obtain ⟨H, hH⟩ : ∃ H, H = ht n := ⟨_, rfl⟩
  rw [← hH] at kH h16 hv hself
  replace hself := Lib.hid hself
  clear hH
  have key : i < 0 ∨ (0 ≤ i ∧ (n : Int) ≤ i) ∨ (0 ≤ i ∧ i < n ∧ m ≠ H) ∨ (0 ≤ i ∧ i < n ∧ m = H) := by omega
  rcases key with k0 | ⟨k0, k1⟩ | ⟨k0, k1, k2⟩ | ⟨k0, k1, k2⟩
  · have hy := Lib.hid (show verW root n i v l = false from by rw [hv.out, decide_eq_false (show ¬ 0 ≤ i by omega)]; rfl)
    rw [hy.out]
    clear hv hy
    go_enter Try.func62, Try.ntmps62
    go_wp2_with fail
    generalize w.alloc (.cells #[.int .i64 i, .int .i64 v, .slice a m cap] 30) = V at *
    refine wp_region_made (by kernel_rfl) (by kernel_rfl) ?_
    intro W hK
    have g_c0 := fun x => carry ((hK.below x)) c0
    have g_c1 := fun x => carry ((hK.below x)) c1
    have g_c2 := fun x => carry ((hK.below x)) c2
    repeat (go_big_quiet_step ((go_at_call 53; with_reducible exact met_same (kH.out _))))
    refine wpQuiet_nil ?_
    intro wq hw'
    have hbq := kept_in hK hw'
    clear g_c0 g_c1 g_c2
    clear hw' hK W
    replace c0 := carry (hbq) c0
    replace c1 := carry (hbq) c1
    replace c2 := carry (hbq) c2
    go_wp2
    go_ret
    exact ⟨rfl, below_step hB0.out hbq⟩
  · have hy := Lib.hid (show verW root n i v l = false from by rw [hv.out, decide_eq_false (show ¬ i < n by omega), Bool.and_false]; rfl)
    rw [hy.out]
    have k0' : decide (i < 0) = false := decide_eq_false (by omega)
    have k1' : decide ((n : Int) ≤ i) = true := decide_eq_true k1
    clear hv hy
    go_enter Try.func62, Try.ntmps62
    go_wp2_with fail
    generalize w.alloc (.cells #[.int .i64 i, .int .i64 v, .slice a m cap] 30) = V at *
    refine wp_region_made (by kernel_rfl) (by kernel_rfl) ?_
    intro W hK
    have g_c0 := fun x => carry ((hK.below x)) c0
    have g_c1 := fun x => carry ((hK.below x)) c1
    have g_c2 := fun x => carry ((hK.below x)) c2
    repeat (go_big_quiet_step ((go_at_call 53; with_reducible exact met_same (kH.out _))))
    refine wpQuiet_nil ?_
    intro wq hw'
    have hbq := kept_in hK hw'
    clear g_c0 g_c1 g_c2
    clear hw' hK W
    replace c0 := carry (hbq) c0
    replace c1 := carry (hbq) c1
    replace c2 := carry (hbq) c2
    go_wp2
    go_ret
    exact ⟨rfl, below_step hB0.out hbq⟩
  · have hy := Lib.hid (show verW root n i v l = false from by rw [hv.out, decide_eq_false (show ¬ l.length = H by rw [← hm'.out]; exact k2), Bool.and_false]; rfl)
    rw [hy.out]
    have k0' : decide (i < 0) = false := decide_eq_false (by omega)
    have k1' : decide ((n : Int) ≤ i) = false := decide_eq_false (by omega)
    have k2' : ((m : Int) == (H : Int)) = false := by simp only [beq_eq_false_iff_ne, ne_eq]; omega
    clear hv hy
    go_enter Try.func62, Try.ntmps62
    go_wp2_with fail
    generalize w.alloc (.cells #[.int .i64 i, .int .i64 v, .slice a m cap] 30) = V at *
    refine wp_region_made (by kernel_rfl) (by kernel_rfl) ?_
    intro W hK
    have g_c0 := fun x => carry ((hK.below x)) c0
    have g_c1 := fun x => carry ((hK.below x)) c1
    have g_c2 := fun x => carry ((hK.below x)) c2
    repeat (go_big_quiet_step ((go_at_call 53; with_reducible exact met_same (kH.out _))))
    refine wpQuiet_nil ?_
    intro wq hw'
    have hbq := kept_in hK hw'
    clear g_c0 g_c1 g_c2
    clear hw' hK W
    replace c0 := carry (hbq) c0
    replace c1 := carry (hbq) c1
    replace c2 := carry (hbq) c2
    go_wp2
    go_ret
    exact ⟨rfl, below_step hB0.out hbq⟩
  · have hy := Lib.hid (show verW root n i v l = decide (up i.toNat (leafV i v) l = root) from by rw [hv.out, decide_eq_true k0, decide_eq_true k1, decide_eq_true (show l.length = H by rw [← hm'.out]; exact k2)]; simp)
    rw [hy.out]
    obtain ⟨j, rfl⟩ : ∃ j : Nat, i = (j : Int) := ⟨i.toNat, by omega⟩
    rw [Int.toNat_natCast] at hy ⊢
    subst k2
    have k0' : decide ((j : Int) < 0) = false := decide_eq_false (by omega)
    have k1' : decide ((n : Int) ≤ (j : Int)) = false := decide_eq_false (by omega)
    have k3' : decide (n ≤ j) = false := decide_eq_false (by omega)
    have k4' : ¬ n ≤ j := by omega
    have k2' : ((m : Int) == (m : Int)) = true := bq_self _
    have hj : j < 65536 := by omega
    have hjm : j < 2 ^ m := Nat.lt_of_lt_of_le (by omega) hself.out
    replace hjm := Lib.hid hjm
    have hup := Lib.hid (hsW_up j v l m (by rw [← hm'.out]; exact Nat.le_refl _))
    have htk := Lib.hid (show l.take m = l from by rw [hm'.out, List.take_length])
    rw [htk.out] at hup
    clear hv k0 k1
    refine (callsIn_wide (n := 9)).1 (callsIn_of_wp_marks Try.func62 rfl trivial (wpIn_wide.2 ?_) rfl)
    simp only [Try.ntmps62, List.size_toArray, List.length_cons, List.length_nil, Nat.reduceAdd, Nat.reduceSub, Array.replicate_succ, Array.replicate_zero, List.push_toArray, List.append_toArray, List.nil_append, List.cons_append]
    go_wp2_with fail
    generalize w.alloc (.cells #[.int .i64 (j : Int), .int .i64 v, .slice a m cap] 30) = V at *
    refine wp_region_made (by kernel_rfl) (by kernel_rfl) ?_
    intro W hK
    have g_c0 := fun x => carry ((hK.below x)) c0
    have g_c1 := fun x => carry ((hK.below x)) c1
    have g_c2 := fun x => carry ((hK.below x)) c2
    repeat (go_big_quiet_step ((go_at_call 53; with_reducible exact met_same (kH.out _))))
    refine wpQuiet_nil ?_
    intro wq hw'
    have hbq := kept_in hK hw'
    clear g_c0 g_c1 g_c2
    clear hw' hK W
    replace c0 := carry (hbq) c0
    replace c1 := carry (hbq) c1
    replace c2 := carry (hbq) c2
    have hB1 := Lib.hid (below_step hB0.out hbq)
    clear hbq hB0
    go_upto_region 5 with fail
    obtain ⟨U, hU⟩ : ∃ U, U = wq.alloc (.cells #[.int .u64 0] 36) := ⟨_, rfl⟩
    have hbU : Below wq.heap.size wq U := by rw [hU]; exact alloc_below _ _
    have hvU : Boxed U wq.heap.size 36 (.int .u64 0) := by rw [hU]; exact Boxed.new _ _ _
    have hzU : wq.heap.size < U.heap.size := by rw [hU]; simp
    rw [← hU]
    clear hU
    have hnw : w.heap.size < wq.heap.size := by have := block_lt_of_cell c0; simpa using this
    replace c0 := carry (hbU) c0
    replace c1 := carry (hbU) c1
    replace c2 := carry (hbU) c2
    have hB2 := Lib.hid (below_step hB1.out hbU)
    generalize wq.heap.size = lb at *
    clear hbU hB1
    have n0 := block_lt_of_cell c0
    simp only at n0
    refine wp_region_tail 7 (by kernel_rfl) (by kernel_rfl) ?_
    intro W hK
    obtain ⟨hc, hf, hz, hb⟩ := hK
    simp only [List.take_succ_cons, List.take_zero, List.drop_succ_cons, List.drop_zero]
    repeat (go_big_quiet_step ((go_at_call 53; with_reducible exact met_same (kH.out _))))
    refine wpQuiet_nil ?_
    intro _ hw'
    obtain ⟨xq, hw''⟩ := hw'
    subst hw''
    have hbq := hb xq
    replace c0 := carry (hbq) c0
    replace c1 := carry (hbq) c1
    replace c2 := carry (hbq) c2
    have hvq : Boxed (over W xq) lb 36 (.int .u64 0) := (hbq.block _ hzU).trans hvU
    have hB3 := Lib.hid (below_step hB2.out hbq)
    have hzq := hbq.size
    clear hc hf hz hb hbq hB2 hvU
    generalize over W xq = X at *
    go_wp2_with fail
    refine (rise_any _ _ _ _ _ _ _).mono ?_
    rintro e Y ⟨rfl, hY⟩
    obtain ⟨hbY, hzY, d0, d1, d2, d3⟩ := rise_boxes hY
    have hB4 := below_step hB3.out hbY
    have hvY : Boxed Y lb 36 (.int .u64 0) := (hbY.block _ hvq.lt).trans hvq
    have hzl := hvq.lt
    replace c2 := carry hbY c2
    clear hY hbY hvq hB3 c0 c1 kH
    generalize X.heap.size = xb at *
    go_wp2_with fail
    refine (wpIn_wide (n := 9)).1 ?_
    refine range_givesQ (w0 := Y) (N := m + 1) (S := fun r => xb ≤ r ∧ r < xb + 4) rfl (enters_of Try.func89 (by kernel_rfl) rfl)
      (rise_gives j v m (fun k => l.getD k 0) 88 #[] #[.pointer (some ⟨w.heap.size, 0, none⟩)] (enters_of Try.func88 (by kernel_rfl) rfl) xb (xb + 1) (xb + 2) (xb + 3) _ Y d0 d1 d2 d3 (by omega) (by rintro r h; omega) hjm.out h16)
      (Below.refl _ _) (by rintro r h; omega) (fun _ => rfl)
      (fun k Z => Boxed Z lb 36 (.int .u64 ((lastW (hsW j v fun k => l.getD k 0) k).toNat : Int)) ∧ Below w.heap.size w Z ∧ Z.cell? ⟨w.heap.size, 2, none⟩ = some (.slice a m cap)) (fun _ _ => False) ?hI (fun _ _ _ _ h _ _ => h) ⟨hvY, hB4, c2⟩ ?hQ ?round ?done ?stop
    case hI =>
      refine Steady.and ?_ (Steady.and (steady_below (Nat.le_refl _) fun r h => by have := hB4.size; have h1 : Y.heap.size ≤ r := h; omega) (steady_cell (by simp only; omega)))
      exact fun k A B row hs hg hr => hs.kept hg fun e => by have h1 : Y.heap.size ≤ lb := hr _ e.symm; omega
    case hQ =>
      rintro k Z hk ⟨hv1, hB1, c2'⟩ hkm
      obtain ⟨g, off, rfl, hg, hcc⟩ := hcr.out (by omega)
      have hx : l[k]? = some (l.getD k 0) := by rw [List.getD_eq_getElem?_getD, List.getElem?_eq_getElem (by rw [← hm'.out]; exact hkm)]; rfl
      exact proven_any k _ w.heap.size g off m cap _ Z c2' (carry hB1 (hcc k _ hx)) hkm
    case round =>
      rintro l1 k Z hk hsz ⟨hv1, hB1, c2'⟩
      simp only [riE]
      gi_wp2
      refine ⟨KeepOn.refl _ _, fun T hT => ?_⟩
      have hv2 : Boxed T lb 36 _ := hT.heap hv1 (by omega)
      have hB2 : Below w.heap.size w T := by
        obtain ⟨r, hr1, hg⟩ := hT
        exact hB1.grown hg hB1.size fun r' e => by cases e; have := hB4.size; have h1 : Y.heap.size ≤ r := hr1.1; omega
      have c2t := hT.cell c2' (by simp only; omega)
      have cv := hv2.cell
      have fv := hv2.frozen
      clear hv1 hB1 c2' hT
      gi_wp2
      refine ⟨KeepOn.setCell _ (by simp only; omega), hv2.set _, hB2.setCell (by simp only; omega) _, ?_⟩
      exact (KeepOn.setCell (S := fun r => r = w.heap.size) _ (by simp only; omega)).cell c2t rfl
    case done =>
      rintro D Z rfl ⟨hv1, hB1, c2'⟩ hD
      have hv2 : Boxed Z lb 36 (.int .u64 ((up j (leafV j v) l).toNat : Int)) := by rw [← hup.out]; exact hv1
      have hdec := Lib.hid (show decide (up j (leafV j v) l = root) = (((up j (leafV j v) l).toNat : Int) == (root.toNat : Int)) from by rw [bq_toNat])
      generalize ((up j (leafV j v) l).toNat : Int) = n0 at *
      have cv := hv2.cell
      go_wp2
      refine ⟨by simp, .inl ⟨_, _, rfl, run_takeDeferred hD, ?_⟩⟩
      exact ⟨_, results_tmp rfl _ _ _, by rw [hdec.out]; rfl, hB1.grown (grownBy_putObj' _ _ _) hB1.size fun r e => by cases e; have := hB4.size; omega⟩
    case stop => exact fun _ _ _ _ _ h _ => h.elim
end Go.Proofs.Ytknjdkgemkmoeaa
