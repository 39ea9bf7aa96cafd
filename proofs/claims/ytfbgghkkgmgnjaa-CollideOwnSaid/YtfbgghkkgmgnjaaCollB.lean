/- Package collide: the nearest vertex; the way toward a corner; the depth along an axis. -/
import Derived.Test.YtfbgghkkgmgnjaaColl
namespace Go.Proofs.Ytfbgghkkgmgnjaa
open Go.ChangeShapes Go.WideShapes Go.ChangeAt Go.RowKit Go.Shelf
open Fxm
set_option linter.unusedSimpArgs false
set_option linter.unusedVariables false

/-- Of the numbers up to k the first at which f is least. -/
def bst (f : Nat → Int) : Nat → Nat
  | 0 => 0
  | k + 1 => if f (k + 1) < f (bst f k) then k + 1 else bst f k
theorem bst_le (f : Nat → Int) : ∀ k, bst f k ≤ k
  | 0 => Nat.le_refl _
  | k + 1 => by unfold bst; split <;> have := bst_le f k <;> omega
theorem bst_yes {f : Nat → Int} {k : Nat} (h : f (k + 1) < f (bst f k)) : bst f (k + 1) = k + 1 := by rw [bst, if_pos h]
theorem bst_no {f : Nat → Int} {k : Nat} (h : ¬ f (k + 1) < f (bst f k)) : bst f (k + 1) = bst f k := by rw [bst, if_neg h]
theorem bst_min (f : Nat → Int) : ∀ k i, i ≤ k → f (bst f k) ≤ f i
  | 0, i, h => by obtain rfl : i = 0 := by omega
                  exact Int.le_refl _
  | k + 1, i, h => by
    by_cases e : i = k + 1
    · subst e
      by_cases hl : f (k + 1) < f (bst f k)
      · rw [bst_yes hl]; exact Int.le_refl _
      · rw [bst_no hl]; omega
    · have := bst_min f k i (by omega)
      by_cases hl : f (k + 1) < f (bst f k)
      · rw [bst_yes hl]; omega
      · rw [bst_no hl]; exact this
theorem bst_congr {f g : Nat → Int} : ∀ {k : Nat}, (∀ i, i ≤ k → f i = g i) → bst f k = bst g k
  | 0, _ => rfl
  | k + 1, h => by
    have ih := bst_congr (k := k) fun i hi => h i (by omega)
    have := bst_le g k
    simp only [bst]
    rw [ih, h (k + 1) (Nat.le_refl _), h (bst g k) (by omega)]

/-- Which vertex, seen from c, is nearest. -/
def nearI (vs : List (Int × Int)) (q c : Int × Int) : Nat := bst (fun i => sqd (q.1 + (at' vs i).1 - c.1, q.2 + (at' vs i).2 - c.2)) (vs.length - 1)

set_option maxHeartbeats 4000000 in
set_option maxRecDepth 100000 in
theorem nearest_any (f : Int × Int → Int) (bf g cap : Nat) (vs : List (Int × Int)) (w : World) (hR : Row w g cap vs) (hl : 3 ≤ vs.length) (hl2 : vs.length ≤ 1000)
    (K : ∀ i, i < vs.length → ∀ W, Below w.heap.size w W → Calls Try.prog 91 #[.agg #[.int .i64 (at' vs i).1, .int .i64 (at' vs i).2], .pointer (some ⟨bf, 0, none⟩)] W fun e w' => e = .returned (.int .i64 (f (at' vs i))) ∧ Below W.heap.size W w') :
    Calls Try.prog 90 #[.slice (some ⟨g, 0, none⟩) vs.length cap, .func (.func 91) #[] #[.pointer (some ⟨bf, 0, none⟩)]] w fun e w' =>
      e = .returned (.agg #[.int .i64 (at' vs (bst (fun i => f (at' vs i)) (vs.length - 1))).1, .int .i64 (at' vs (bst (fun i => f (at' vs i)) (vs.length - 1))).2]) ∧ Below w.heap.size w w' := by
  have hcap := hR.le
  have hmax := hR.max
  unfold maxLen at hmax
  have hR' := Lib.hid hR
  have hK' := Lib.hid K
  have hlb : (vs.length : Int) ≤ 1000 := by omega
  have hl1 : (1 : Int) ≤ (vs.length : Int) := by omega
  clear hR K
  obtain ⟨F, hF⟩ : ∃ F : Nat → Int, F = fun i => f (at' vs i) := ⟨_, rfl⟩
  have hFa : ∀ i, f (at' vs i) = F i := fun i => by rw [hF]
  rw [← hF]
  have hF' := Lib.hid hFa
  clear hF hFa
  go_enter Try.func90, Try.ntmps90
  go_upto_region 1 with fail
  have hB := alloc_below w (.cells #[.int .i64 0, .int .i64 0] 28)
  have hr := World.alloc_heap_new w (.cells #[.int .i64 0, .int .i64 0] 28)
  have r0 := heap_cell hr 0
  have r1 := heap_cell hr 1
  have hRw := Lib.hid (hR'.out.carry hB)
  obtain ⟨vx, vy⟩ := hRw.out.at (i := 0) (by omega)
  simp only [Nat.zero_mul, Nat.zero_add] at vx vy
  generalize w.alloc (.cells #[.int .i64 0, .int .i64 0] 28) = V at *
  simp only [List.getElem?_toArray, List.getElem?_cons_zero, List.getElem?_cons_succ] at r0 r1
  have k0 := Lib.hid (hK'.out 0 (by omega))
  rw [hF'.out 0] at k0
  obtain ⟨z0, hz0⟩ : ∃ z, z = (at' vs 0).1 := ⟨_, rfl⟩
  obtain ⟨z1, hz1⟩ : ∃ z, z = (at' vs 0).2 := ⟨_, rfl⟩
  obtain ⟨zf, hzf⟩ : ∃ z, z = F 0 := ⟨_, rfl⟩
  rw [← hz0, ← hz1, ← hzf] at k0
  rw [← hz0] at vx
  rw [← hz1] at vy
  have hz := Lib.hid (And.intro hz0 (And.intro hz1 hzf))
  clear hz0 hz1 hzf
  refine wp_region_alloc_last 8 (some 5) (.cells #[.int .i64 0, .int .i64 0] 28) (by kernel_rfl) (by kernel_rfl) ⟨_, rfl, rfl, fun _ => rfl, fun _ _ => by kernel_rfl⟩ ?_
  apply Exists.intro
  refine ⟨fun W hK E hE => ?_, ?_⟩
  · skip
    have g_vx := fun x => carry ((hK.below x)) vx
    have g_vy := fun x => carry ((hK.below x)) vy
    have g_r0 := fun x => carry ((hK.below x)) r0
    have g_r1 := fun x => carry ((hK.below x)) r1
    simp only [List.take_succ_cons, List.take_zero]
    repeat (go_big_quiet_step ((go_at_call 91; with_reducible exact met_made (k0.out _ (below_step hB (hK.below _))))))
    refine wpQuiet_nil ?_
    exact hE
  intro B wq hBB hbq hheap
  simp only [List.drop_succ_cons, List.drop_zero, Act.put, List.setIfInBounds_toArray, List.set_cons_zero, List.set_cons_succ]
  have hbB : Below V.heap.size V ((wq.setCell ⟨B, 0, none⟩ (.int .i64 z0)).setCell ⟨B, 1, none⟩ (.int .i64 z1)) := (hbq.setCell (p := ⟨B, 0, none⟩) hBB _).setCell (p := ⟨B, 1, none⟩) hBB _
  have hh := heap_setCell (heap_setCell hheap 0 (.int .i64 z0)) 1 (.int .i64 z1)
  simp only [List.setIfInBounds_toArray, List.set_cons_zero, List.set_cons_succ] at hh
  have hcB := heap_cell hheap
  have hfB := heap_frozen hheap
  have hne : w.heap.size ≠ B := by have := block_lt_of_cell r0; have := (Array.getElem?_eq_some_iff.1 hr).1; omega
  go_upto_region 2 with fail
  generalize (wq.setCell ⟨B, 0, none⟩ (.int .i64 z0)).setCell ⟨B, 1, none⟩ (.int .i64 z1) = U at *
  have hBU := below_step hB hbB
  have hrU := (hbB.block w.heap.size (Array.getElem?_eq_some_iff.1 hr).1).trans hr
  have hlB : w.heap.size < U.heap.size := (Array.getElem?_eq_some_iff.1 hrU).1
  have hRU := Lib.hid (hRw.out.carry hbB)
  have hwB : w.heap.size ≤ B := by have := hB.size; omega
  clear vx vy r0 r1 hRw k0 hcB hfB hheap hbB hbq hr hB hBB
  go_wp2_with fail
  go_loopw [6, 21] (fun l i wr => ∃ k : Nat, k + 1 ≤ vs.length ∧ i = .int .i64 k ∧ l = .int .i64 (F (bst F k)) ∧ wr.heap[B]? = some (.cells #[.int .i64 (at' vs (bst F k)).1, .int .i64 (at' vs (bst F k)).2] 28) ∧
    wr.heap[w.heap.size]? = some (.cells #[.int .i64 0, .int .i64 0] 28) ∧ Below w.heap.size w wr) (fun _ i _ => vs.length - (intOf i).toNat)
  case atStart => exact ⟨0, by omega, rfl, by rw [hz.out.2.2]; rfl, by simp only [bst]; rw [← hz.out.1, ← hz.out.2.1]; exact hh, hrU, hBU⟩
  case round =>
    obtain ⟨k, hkl, rfl, rfl, hhr, hres, hbl⟩ := hrel
    clear hh hrU hBU hRU hz
    have c0 := heap_cell hhr 0
    have c1 := heap_cell hhr 1
    have f0 := heap_frozen hhr 0
    have f1 := heap_frozen hhr 1
    have r0 := heap_cell hres 0
    have r1 := heap_cell hres 1
    have g0 := heap_frozen hres 0
    have g1 := heap_frozen hres 1
    simp only [List.getElem?_toArray, List.getElem?_cons_zero, List.getElem?_cons_succ] at c0 c1 r0 r1
    by_cases hlt : k + 1 < vs.length
    · have hvv := (hR'.out.carry hbl).at hlt
      rw [show (k + 1) * 2 = 2 + k * 2 by omega] at hvv
      obtain ⟨vx, vy⟩ := hvv
      have k1 := Lib.hid (hK'.out (k + 1) hlt)
      rw [hF'.out (k + 1)] at k1
      have hres' := Lib.hid hres
      have hhr' := Lib.hid hhr
      clear hres hhr
      obtain ⟨u0, hu0⟩ : ∃ u, u = (at' vs (k + 1)).1 := ⟨_, rfl⟩
      obtain ⟨u1, hu1⟩ : ∃ u, u = (at' vs (k + 1)).2 := ⟨_, rfl⟩
      obtain ⟨b0, hb0⟩ : ∃ u, u = (at' vs (bst F k)).1 := ⟨_, rfl⟩
      obtain ⟨b1, hb1⟩ : ∃ u, u = (at' vs (bst F k)).2 := ⟨_, rfl⟩
      obtain ⟨fk, hfk⟩ : ∃ u, u = F (k + 1) := ⟨_, rfl⟩
      obtain ⟨fb, hfb⟩ : ∃ u, u = F (bst F k) := ⟨_, rfl⟩
      rw [← hu0, ← hu1, ← hfk] at k1
      rw [← hu0] at vx
      rw [← hu1] at vy
      rw [← hb0] at c0
      rw [← hb1] at c1
      rw [← hb0, ← hb1] at hhr'
      have hN := Lib.hid (And.intro (And.intro hu0 hu1) (And.intro (And.intro hb0 hb1) (And.intro hfk hfb)))
      rw [← hfb]
      clear hu0 hu1 hb0 hb1 hfk hfb
      have hk1 : k < vs.length - 1 := by omega
      go_wp2_with fail
      go_at_call 91
      refine (k1.out _ (below_step hbl (alloc_below _ _))).mono ?_
      rintro e w4 ⟨rfl, hb4⟩
      have e0 : w4.cell? ⟨wr.heap.size, 0, none⟩ = some (.int .i64 u0) := carry hb4 (by simp)
      have e1 : w4.cell? ⟨wr.heap.size, 1, none⟩ = some (.int .i64 u1) := carry hb4 (by simp)
      have hb5 := below_step (alloc_below wr (.cells #[.int .i64 u0, .int .i64 u1] 28)) hb4
      have lb := (Array.getElem?_eq_some_iff.1 hhr'.out).1
      have hh4 := Lib.hid ((hb5.block B lb).trans hhr'.out)
      have hs4 := Lib.hid ((hb5.block w.heap.size (Array.getElem?_eq_some_iff.1 hres'.out).1).trans hres'.out)
      have q0 := heap_cell hh4.out 0
      have q1 := heap_cell hh4.out 1
      have y0 := heap_frozen hh4.out 0
      have y1 := heap_frozen hh4.out 1
      simp only [List.getElem?_toArray, List.getElem?_cons_zero, List.getElem?_cons_succ] at q0 q1
      have hbw := below_step hbl hb5
      clear hb4 hb5 c0 c1 f0 f1 r0 r1 g0 g1 vx vy hhr' hres' hbl
      by_cases hd : fk < fb
      · have hd1 : decide (fk < fb) = true := decide_eq_true hd
        have hd' := Lib.hid hd
        clear hd
        go_wp2
        go_roundw
        case rel =>
          have hy : bst F (k + 1) = k + 1 := bst_yes (by rw [← hN.out.2.2.1, ← hN.out.2.2.2]; exact hd'.out)
          refine ⟨k + 1, by omega, by go_num, by rw [hy, ← hN.out.2.2.1], ?_, ?_, (hbw.setCell (p := ⟨B, 0, none⟩) hwB _).setCell (p := ⟨B, 1, none⟩) hwB _⟩
          · rw [hy, ← hN.out.1.1, ← hN.out.1.2]
            have h2 := heap_setCell (heap_setCell hh4.out 0 (.int .i64 u0)) 1 (.int .i64 u1)
            simpa only [List.setIfInBounds_toArray, List.set_cons_zero, List.set_cons_succ] using h2
          · rw [Below.heap_setCell _ _ _ _ hne, Below.heap_setCell _ _ _ _ hne]; exact hs4.out
        case measure => simp [intOf]; omega
      · have hd1 : decide (fk < fb) = false := decide_eq_false hd
        have hd' := Lib.hid hd
        clear hd
        go_wp2
        go_roundw
        case rel =>
          have hy : bst F (k + 1) = bst F k := bst_no (by have := hd'.out; rw [← hN.out.2.2.1, ← hN.out.2.2.2]; omega)
          exact ⟨k + 1, by omega, by go_num, by rw [hy, ← hN.out.2.2.2], by rw [hy, ← hN.out.2.1.1, ← hN.out.2.1.2]; exact hh4.out, hs4.out, hbw⟩
        case measure => simp [intOf]; omega
    · obtain rfl : k = vs.length - 1 := by omega
      have hnl : ¬ (vs.length - 1 < vs.length - 1) := Nat.lt_irrefl _
      obtain ⟨b0, hb0⟩ : ∃ u, u = (at' vs (bst F (vs.length - 1))).1 := ⟨_, rfl⟩
      obtain ⟨b1, hb1⟩ : ∃ u, u = (at' vs (bst F (vs.length - 1))).2 := ⟨_, rfl⟩
      rw [← hb0] at c0
      rw [← hb1] at c1
      have hN := Lib.hid (And.intro hb0 hb1)
      clear hlt hres hhr hb0 hb1
      go_wp2
      refine bodyPost_ret (v := .agg #[.int .i64 b0, .int .i64 b1]) (by simp [results, Try.results90, go_sem, r0, r1]) rfl ⟨by rw [hN.out.1, hN.out.2], ?_⟩
      exact (hbl.setCell (by first | (simp; done) | (simp; omega) | omega) _).setCell (by first | (simp; done) | (simp; omega) | omega) _
end Go.Proofs.Ytfbgghkkgmgnjaa
