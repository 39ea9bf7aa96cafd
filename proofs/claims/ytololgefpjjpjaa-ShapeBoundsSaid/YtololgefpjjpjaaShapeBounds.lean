/-
  Proved: arenanetlaw03.ShapeBounds returns true for all five ints and leaves its arguments as they were. No further condition.
-/
import Derived.Test.YtololgefpjjpjaaRows
import Derived.WalkKit
import Derived.ProofKit
import Derived.OpenShut
import Derived.Test.YtololgefpjjpjaaLawKit
import Derived.Test.YtololgefpjjpjaaShapeL
import Derived.Test.YtololgefpjjpjaaMadeAlloc
import Derived.Deep.DeepCutAuto
namespace Go.Proofs.Ytololgefpjjpjaa.shapeBounds
open Go.ChangeShapes Go.WideShapes Go.ChangeAt Go.RowKit
set_option linter.unusedVariables false
set_option linter.unusedSimpArgs false

open Fxm
/-- Has one of the first c vertices the coordinate x? -/
noncomputable def hit (f : Int × Int → Int) (vs : List (Int × Int)) (x : Int) (c : Nat) : Bool := pB (∃ i, i < c ∧ f (at' vs i) = x)
theorem hit_zero (f : Int × Int → Int) (vs : List (Int × Int)) (x : Int) : hit f vs x 0 = false := pB_false (by rintro ⟨i, h, _⟩; omega)
theorem hit_succ (f : Int × Int → Int) (vs : List (Int × Int)) (x : Int) (c : Nat) : hit f vs x (c + 1) = (hit f vs x c || decide (f (at' vs c) = x)) := by
  unfold hit
  by_cases h : f (at' vs c) = x
  · rw [pB_true ⟨c, by omega, h⟩, decide_eq_true h, Bool.or_true]
  · rw [decide_eq_false h, Bool.or_false]
    by_cases k : ∃ i, i < c ∧ f (at' vs i) = x
    · obtain ⟨i, hi, he⟩ := k
      rw [pB_true ⟨i, by omega, he⟩, pB_true ⟨i, hi, he⟩]
    · rw [pB_false k, pB_false]
      rintro ⟨i, hi, he⟩
      rcases Nat.lt_or_ge i c with hl | hl
      · exact k ⟨i, hl, he⟩
      · obtain rfl : i = c := by omega
        exact h he
theorem hit_cases (f : Int × Int → Int) (vs : List (Int × Int)) (x : Int) (c : Nat) {X : Int} (h : f (at' vs c) = X) :
    (hit f vs x c = true ∧ hit f vs x (c + 1) = true) ∨ (hit f vs x c = false ∧ (X == x) = true ∧ hit f vs x (c + 1) = true) ∨ (hit f vs x c = false ∧ (X == x) = false ∧ hit f vs x (c + 1) = false) := by
  rw [hit_succ, h]
  cases hit f vs x c with
  | true => exact Or.inl ⟨rfl, rfl⟩
  | false =>
    by_cases e : X = x
    · exact Or.inr (Or.inl ⟨rfl, by simpa using e, by simpa using e⟩)
    · exact Or.inr (Or.inr ⟨rfl, by simpa using e, by simpa using e⟩)
theorem circ_hit {r : Int} (hr : 0 ≤ r) : (Sp.c r).ins (-r, 0) = true ∧ (Sp.c r).ins (r, 0) = true ∧ (Sp.c r).ins (0, -r) = true ∧ (Sp.c r).ins (0, r) = true := by
  refine ⟨decide_eq_true ?_, decide_eq_true ?_, decide_eq_true ?_, decide_eq_true ?_⟩ <;> simp [Int.neg_mul_neg]
theorem own : ownKnob Try.prog.godebug = none := by kernel_rfl

set_option maxRecDepth 100000 in
set_option maxHeartbeats 8000000 in
theorem walk (a0 : Int) (w0 : (Lit.int .i64 a0).wf = true) (a1 : Int) (w1 : (Lit.int .i64 a1).wf = true) (a2 : Int) (w2 : (Lit.int .i64 a2).wf = true) (a3 : Int) (w3 : (Lit.int .i64 a3).wf = true) (a4 : Int) (w4 : (Lit.int .i64 a4).wf = true) (w : World) :
    Calls Try.prog 5 #[.int .i64 a0, .int .i64 a1, .int .i64 a2, .int .i64 a3, .int .i64 a4] w fun e w' => e = .returned (.bool true) ∧ Below w.heap.size w w' := by
  go_enter Try.func5, Try.ntmps5
  go_wp2_with fail
  refine (shapes_any _ _ w0).mono ?_
  rintro e u1 ⟨s, rfl, hs, hb1⟩
  have hB := hb1
  clear hb1
  go_wp2_with fail
  with_reducible refine (of_any _ _ _ (wrap64_wf _) (wrap64_wf _)).mono ?_
  rintro e u2 ⟨⟨q0, q1, hq0, hq1, rfl⟩, hb2⟩
  have s0 := carry hb2 (a := ⟨u1.heap.size, 0, none⟩) (v := .int .i64 s.r) (by simp)
  have s1 := carry hb2 (a := ⟨u1.heap.size, 1, none⟩) (v := .slice s.a s.n s.cap) (by simp)
  replace hB := below_step (below_step hB (alloc_below _ _)) hb2
  replace hs := (hs.carry (alloc_below _ _)).carry hb2
  clear hb2
  have vq0 : (u2.alloc (.cells #[.int .i64 (q0), .int .i64 (q1)] 34)).cell? ⟨u2.heap.size, 0, none⟩ = some (.int .i64 (q0)) := World.cell?_alloc_new (w := u2) #[.int .i64 (q0), .int .i64 (q1)] 34 0
  have vq1 : (u2.alloc (.cells #[.int .i64 (q0), .int .i64 (q1)] 34)).cell? ⟨u2.heap.size, 1, none⟩ = some (.int .i64 (q1)) := World.cell?_alloc_new (w := u2) #[.int .i64 (q0), .int .i64 (q1)] 34 1
  replace s0 := carry (alloc_below u2 (.cells #[.int .i64 (q0), .int .i64 (q1)] 34)) s0
  replace s1 := carry (alloc_below u2 (.cells #[.int .i64 (q0), .int .i64 (q1)] 34)) s1
  replace hB := below_step hB (alloc_below u2 (.cells #[.int .i64 (q0), .int .i64 (q1)] 34))
  replace hs := hs.carry (alloc_below u2 (.cells #[.int .i64 (q0), .int .i64 (q1)] 34))
  go_wp2_with fail
  generalize u2.alloc (.cells #[.int .i64 (q0), .int .i64 (q1)] 34) = u3 at *
  have hn0 := hs.nx_bd a3
  have hn1 := hs.ny_bd a4
  have k2 := fun w => add_any q0 q1 (s.nx a3) (s.ny a4) w hq0.bd hq1.bd (near_bd hn0) (near_bd hn1)
  have k1 := fun w (h : Sh w s) => h.near a3 a4 w3 w4
  have hp0 := hq0.near hn0
  have hp1 := hq1.near hn1
  generalize s.nx a3 = m0 at *
  generalize s.ny a4 = m1 at *
  have hk := Lib.hid (And.intro k1 k2)
  clear k1 k2
  have hsh := Lib.hid hs
  refine wp_region_alloc_last 6 (some 13) (.cells #[.int .i64 0, .int .i64 0] 34) (by kernel_rfl) (by kernel_rfl) ⟨_, rfl, rfl, fun _ => rfl, fun _ _ => by kernel_rfl⟩ ?_
  apply Exists.intro
  refine ⟨fun W hK E hE => ?_, ?_⟩
  · skip
    have g_s0 := fun x => carry ((hK.below x)) s0
    have g_s1 := fun x => carry ((hK.below x)) s1
    have g_vq0 := fun x => carry ((hK.below x)) vq0
    have g_vq1 := fun x => carry ((hK.below x)) vq1
    simp only [List.take_succ_cons, List.take_zero]
    repeat (go_big_quiet_step ((first | (go_at_call 18; with_reducible exact met_made (hk.out.1 _ (hsh.out.carry (hK.below _)))) | (go_at_call 26; with_reducible exact met_made (hk.out.2 _)))))
    refine wpQuiet_nil ?_
    exact hE
  intro B wq hBB hbq hheap
  simp only [List.drop_succ_cons, List.drop_zero, Act.put, List.setIfInBounds_toArray, List.set_cons_zero, List.set_cons_succ]
  have hstep := (hbq.setCell (p := ⟨B, 0, none⟩) hBB (.int .i64 (q0 + m0))).setCell (p := ⟨B, 1, none⟩) hBB (.int .i64 (q1 + m1))
  replace s0 := carry (hstep) s0
  replace s1 := carry (hstep) s1
  replace vq0 := carry (hstep) vq0
  replace vq1 := carry (hstep) vq1
  have hh := heap_setCell (heap_setCell hheap 0 (.int .i64 (q0 + m0))) 1 (.int .i64 (q1 + m1))
  have vn0 := heap_cell hh 0
  have vn1 := heap_cell hh 1
  simp at vn0 vn1
  have hcB := heap_cell hheap
  have hfB := heap_frozen hheap
  clear hh hheap
  replace hB := below_step hB hstep
  replace hs := hs.carry hstep
  go_wp2_with fail
  generalize (wq.setCell ⟨B, 0, none⟩ (.int .i64 (q0 + m0))).setCell ⟨B, 1, none⟩ (.int .i64 (q1 + m1)) = u7 at *
  obtain ⟨Bp0, hBp0⟩ : ∃ x, x = B := ⟨_, rfl⟩
  rw [← hBp0] at vn0 vn1
  rw [← hBp0]
  clear hcB hfB hstep hbq hBB hsh hk hBp0 wq
  have kb := hs.bounds q0 q1 hq0.bp hq1.bp
  refine kb.mono ?_
  clear kb
  rintro e u8 ⟨rfl, hb8⟩
  replace s0 := carry (hb8) s0
  replace s1 := carry (hb8) s1
  replace vq0 := carry (hb8) vq0
  replace vq1 := carry (hb8) vq1
  replace vn0 := carry (hb8) vn0
  replace vn1 := carry (hb8) vn1
  replace hB := below_step hB hb8
  replace hs := hs.carry hb8
  clear hb8
  obtain ⟨g1, g2⟩ := hs.bd
  have hP0 := hp0
  have hP1 := hp1
  have k1 := fun w (h : Sh w s) => h.contains q0 q1 (q0 + m0) (q1 + m1) hq0.bd hq1.bd hP0 hP1
  rw [pair_eq (show q0 + m0 - q0 = m0 by omega) (show q1 + m1 - q1 = m1 by omega)] at k1
  have hins := fun h => hs.ins_in (m0 := m0) (m1 := m1) h
  have bnd := Lib.hid hs.bd
  generalize hc : s.ins (m0, m1) = c at *
  have hcase : c = false ∨ (c = true ∧ (q0 + s.xa ≤ q0 + m0 ∧ q0 + m0 ≤ q0 + s.xb) ∧ (q1 + s.ya ≤ q1 + m1 ∧ q1 + m1 ≤ q1 + s.yb)) := by
    cases c with
    | false => exact Or.inl rfl
    | true => have := hins rfl; exact Or.inr ⟨rfl, by omega, by omega⟩
  have hk := Lib.hid k1
  clear k1 hins hc
  obtain ⟨xa, hxa⟩ : ∃ x, x = q0 + s.xa := ⟨_, rfl⟩
  obtain ⟨ya, hya⟩ : ∃ x, x = q1 + s.ya := ⟨_, rfl⟩
  obtain ⟨xb, hxb⟩ : ∃ x, x = q0 + s.xb := ⟨_, rfl⟩
  obtain ⟨yb, hyb⟩ : ∃ x, x = q1 + s.yb := ⟨_, rfl⟩
  rw [← hxa, ← hxb, ← hya, ← hyb] at hcase
  rw [← hxa, ← hxb, ← hya, ← hyb]
  have hx := Lib.hid (And.intro hxa (And.intro hya (And.intro hxb hyb)))
  clear hxa hya hxb hyb g1 g2
  generalize q0 + m0 = P0 at *
  generalize q1 + m1 = P1 at *
  have vb0 : (u8.alloc (.cells #[.int .i64 (xa), .int .i64 (ya), .int .i64 (xb), .int .i64 (yb)] 41)).cell? ⟨u8.heap.size, 0, none⟩ = some (.int .i64 (xa)) := World.cell?_alloc_new (w := u8) #[.int .i64 (xa), .int .i64 (ya), .int .i64 (xb), .int .i64 (yb)] 41 0
  have vb1 : (u8.alloc (.cells #[.int .i64 (xa), .int .i64 (ya), .int .i64 (xb), .int .i64 (yb)] 41)).cell? ⟨u8.heap.size, 1, none⟩ = some (.int .i64 (ya)) := World.cell?_alloc_new (w := u8) #[.int .i64 (xa), .int .i64 (ya), .int .i64 (xb), .int .i64 (yb)] 41 1
  have vb2 : (u8.alloc (.cells #[.int .i64 (xa), .int .i64 (ya), .int .i64 (xb), .int .i64 (yb)] 41)).cell? ⟨u8.heap.size, 2, none⟩ = some (.int .i64 (xb)) := World.cell?_alloc_new (w := u8) #[.int .i64 (xa), .int .i64 (ya), .int .i64 (xb), .int .i64 (yb)] 41 2
  have vb3 : (u8.alloc (.cells #[.int .i64 (xa), .int .i64 (ya), .int .i64 (xb), .int .i64 (yb)] 41)).cell? ⟨u8.heap.size, 3, none⟩ = some (.int .i64 (yb)) := World.cell?_alloc_new (w := u8) #[.int .i64 (xa), .int .i64 (ya), .int .i64 (xb), .int .i64 (yb)] 41 3
  replace s0 := carry (alloc_below u8 (.cells #[.int .i64 (xa), .int .i64 (ya), .int .i64 (xb), .int .i64 (yb)] 41)) s0
  replace s1 := carry (alloc_below u8 (.cells #[.int .i64 (xa), .int .i64 (ya), .int .i64 (xb), .int .i64 (yb)] 41)) s1
  replace vq0 := carry (alloc_below u8 (.cells #[.int .i64 (xa), .int .i64 (ya), .int .i64 (xb), .int .i64 (yb)] 41)) vq0
  replace vq1 := carry (alloc_below u8 (.cells #[.int .i64 (xa), .int .i64 (ya), .int .i64 (xb), .int .i64 (yb)] 41)) vq1
  replace vn0 := carry (alloc_below u8 (.cells #[.int .i64 (xa), .int .i64 (ya), .int .i64 (xb), .int .i64 (yb)] 41)) vn0
  replace vn1 := carry (alloc_below u8 (.cells #[.int .i64 (xa), .int .i64 (ya), .int .i64 (xb), .int .i64 (yb)] 41)) vn1
  replace hB := below_step hB (alloc_below u8 (.cells #[.int .i64 (xa), .int .i64 (ya), .int .i64 (xb), .int .i64 (yb)] 41))
  replace hs := hs.carry (alloc_below u8 (.cells #[.int .i64 (xa), .int .i64 (ya), .int .i64 (xb), .int .i64 (yb)] 41))
  go_upto_region 5 with fail
  generalize u8.alloc (.cells #[.int .i64 (xa), .int .i64 (ya), .int .i64 (xb), .int .i64 (yb)] 41) = u9 at *
  have huc := Lib.hid hcase
  go_cut [15] (fun v wx => (∃ b : Bool, v = .bool b ∧ (c = true → b = true)) ∧ wx = u9)
  case first =>
    rcases hcase with hcf | ⟨hct, ⟨h1, h2⟩, h3, h4⟩
    · go_wp2_with fail
      all_goals
        go_meet
        exact ⟨⟨_, rfl, fun h => by rw [hcf] at h; cases h⟩, rfl⟩
    · go_wp2_with fail
      go_meet
      exact ⟨⟨_, rfl, fun _ => rfl⟩, rfl⟩
  case rest =>
    obtain ⟨⟨b, rfl, hb⟩, rfl⟩ := hcut
    have hcb : (c = false) ∨ (c = true ∧ b = true) := by cases c with
      | false => exact Or.inl rfl
      | true => exact Or.inr ⟨rfl, hb rfl⟩
    clear hcase huc hb
    go_wp2_with fail
    refine (hk.out _ hs).mono ?_
    rintro e u10 ⟨rfl, hb10⟩
    replace s0 := carry (hb10) s0
    replace s1 := carry (hb10) s1
    replace vq0 := carry (hb10) vq0
    replace vq1 := carry (hb10) vq1
    replace vb0 := carry (hb10) vb0
    replace vb1 := carry (hb10) vb1
    replace vb2 := carry (hb10) vb2
    replace vb3 := carry (hb10) vb3
    replace hB := below_step hB hb10
    replace hs := hs.carry hb10
    clear hb10
    clear vn0 vn1 hk
    have bq0 := hq0.bd
    have bq1 := hq1.bd
    obtain ⟨⟨g1, g2, g3⟩, g4, g5, g6⟩ := bnd.out
    cases s with
    | c r =>
      replace s0 : u10.cell? ⟨u1.heap.size, 0, none⟩ = some (.int .i64 r) := s0
      replace s1 : u10.cell? ⟨u1.heap.size, 1, none⟩ = some (.slice none 0 0) := s1
      obtain ⟨e1, e2, e3, e4⟩ := hx.out
      have hr := hs
      obtain ⟨i1, i2, i3, i4⟩ := circ_hit (show 0 ≤ r by have := hr.1; omega)
      have hr1 := hr.1
      have hr2 := hr.2
      have kk : ∀ p0 p1 : Int, Bd p0 → Bd p1 → (Sp.c r).ins (p0 - q0, p1 - q1) = true → ∀ w', Calls Try.prog 24 #[.agg #[.int .i64 r, .slice none 0 0], .agg #[.int .i64 q0, .int .i64 q1], .agg #[.int .i64 p0, .int .i64 p1]] w' fun e w'' => e = .returned (.bool true) ∧ Below w'.heap.size w' w'' := fun p0 p1 hp hq hi w' => by
        have := Sh.contains (w := w') (s := .c r) hr q0 q1 p0 p1 bq0 bq1 hp hq
        rw [hi] at this
        exact this
      have e1' : xa = q0 - r := by rw [e1]; simp only [Sp.xa]; omega
      have e2' : ya = q1 - r := by rw [e2]; simp only [Sp.ya]; omega
      have e3' : xb = q0 + r := by rw [e3]; simp only [Sp.xb]
      have e4' : yb = q1 + r := by rw [e4]; simp only [Sp.yb]
      have kA := kk xa q1 (by unfold Be at hq0; unfold Bd; omega) bq1 (by rw [pair_eq (show xa - q0 = -r by omega) (Int.sub_self q1)]; exact i1)
      have kB := kk xb q1 (by unfold Be at hq0; unfold Bd; omega) bq1 (by rw [pair_eq (show xb - q0 = r by omega) (Int.sub_self q1)]; exact i2)
      have kC := kk q0 ya bq0 (by unfold Be at hq1; unfold Bd; omega) (by rw [pair_eq (Int.sub_self q0) (show ya - q1 = -r by omega)]; exact i3)
      have kD := kk q0 yb bq0 (by unfold Be at hq1; unfold Bd; omega) (by rw [pair_eq (Int.sub_self q0) (show yb - q1 = r by omega)]; exact i4)
      have hK4 := Lib.hid (And.intro kA (And.intro kB (And.intro kC kD)))
      clear kA kB kC kD kk e1 e2 e3 e4 e1' e2' e3' e4' i1 i2 i3 i4 hr
      rcases hcb with rfl | ⟨rfl, rfl⟩
      all_goals
        go_wp2_with fail
        refine (hK4.out.1 _).mono ?_
        rintro e u11 ⟨rfl, hb11⟩
        replace s0 := carry (hb11) s0
        replace s1 := carry (hb11) s1
        replace vq0 := carry (hb11) vq0
        replace vq1 := carry (hb11) vq1
        replace vb0 := carry (hb11) vb0
        replace vb1 := carry (hb11) vb1
        replace vb2 := carry (hb11) vb2
        replace vb3 := carry (hb11) vb3
        replace hB := below_step hB hb11
        go_wp2_with fail
        refine (hK4.out.2.1 _).mono ?_
        rintro e u12 ⟨rfl, hb12⟩
        replace s0 := carry (hb12) s0
        replace s1 := carry (hb12) s1
        replace vq0 := carry (hb12) vq0
        replace vq1 := carry (hb12) vq1
        replace vb0 := carry (hb12) vb0
        replace vb1 := carry (hb12) vb1
        replace vb2 := carry (hb12) vb2
        replace vb3 := carry (hb12) vb3
        replace hB := below_step hB hb12
        go_wp2_with fail
        refine (hK4.out.2.2.1 _).mono ?_
        rintro e u13 ⟨rfl, hb13⟩
        replace s0 := carry (hb13) s0
        replace s1 := carry (hb13) s1
        replace vq0 := carry (hb13) vq0
        replace vq1 := carry (hb13) vq1
        replace vb0 := carry (hb13) vb0
        replace vb1 := carry (hb13) vb1
        replace vb2 := carry (hb13) vb2
        replace vb3 := carry (hb13) vb3
        replace hB := below_step hB hb13
        go_wp2_with fail
        refine (hK4.out.2.2.2 _).mono ?_
        rintro e u14 ⟨rfl, hb14⟩
        replace hB := below_step hB hb14
        go_wp2_with fail
        refine (lives3_any _).mono ?_
        rintro e u15 ⟨rfl, hb15⟩
        go_wp2
        go_ret
        exact ⟨rfl, below_step hB hb15⟩
    | p g cap vs =>
      replace s0 : u10.cell? ⟨u1.heap.size, 0, none⟩ = some (.int .i64 0) := s0
      replace s1 : u10.cell? ⟨u1.heap.size, 1, none⟩ = some (.slice (some ⟨g, 0, none⟩) vs.length cap) := s1
      have hG := Lib.hid hs.2
      have hRh := Lib.hid hs.1
      have hcap := hs.1.le
      have hmax := hs.1.max
      unfold maxLen at hmax
      have hl3 := hs.2.lo
      have hl6 := hs.2.hi
      have hlb : (vs.length : Int) ≤ 6 := by omega
      have hla : 3 ≤ (vs.length : Int) := by omega
      have hl0 : ((vs.length : Int) == 0) = false := by simp only [beq_eq_false_iff_ne, ne_eq]; omega
      have hfin : hit (fun p => q0 + p.1) vs xa vs.length = true ∧ hit (fun p => q0 + p.1) vs xb vs.length = true ∧ hit (fun p => q1 + p.2) vs ya vs.length = true ∧ hit (fun p => q1 + p.2) vs yb vs.length = true := by
        obtain ⟨e1, e2, e3, e4⟩ := hx.out
        obtain ⟨i1, j1, k1⟩ := lo_ex (fun p => p.1) (vs := vs) vs.length (by omega) (Nat.le_refl _)
        obtain ⟨i2, j2, k2⟩ := hi_ex (fun p => p.1) (vs := vs) vs.length (by omega) (Nat.le_refl _)
        obtain ⟨i3, j3, k3⟩ := lo_ex (fun p => p.2) (vs := vs) vs.length (by omega) (Nat.le_refl _)
        obtain ⟨i4, j4, k4⟩ := hi_ex (fun p => p.2) (vs := vs) vs.length (by omega) (Nat.le_refl _)
        simp only [Sp.xa, Sp.ya, Sp.xb, Sp.yb] at e1 e2 e3 e4
        exact ⟨pB_true ⟨i1, j1, by simp only; omega⟩, pB_true ⟨i2, j2, by simp only; omega⟩, pB_true ⟨i3, j3, by simp only; omega⟩, pB_true ⟨i4, j4, by simp only; omega⟩⟩
      have hfin' := Lib.hid hfin
      clear hfin hs
      rcases hcb with rfl | ⟨rfl, rfl⟩
      all_goals
        go_wp2_with fail
        go_loopw [17] (fun i wr => ∃ k : Nat, k ≤ vs.length ∧ i = .int .i64 k ∧ wr.heap[u10.heap.size]? = some (.cells #[.bool (hit (fun p => q0 + p.1) vs xa k), .bool (hit (fun p => q0 + p.1) vs xb k), .bool (hit (fun p => q1 + p.2) vs ya k), .bool (hit (fun p => q1 + p.2) vs yb k)] 46) ∧ Below u10.heap.size u10 wr) (fun i _ => vs.length - (intOf i).toNat)
        case atStart => exact ⟨0, Nat.zero_le _, rfl, by rw [hit_zero, hit_zero, hit_zero, hit_zero]; exact World.alloc_heap_new u10 _, alloc_below _ _⟩
        case round =>
          obtain ⟨k, hkl, rfl, hT, hbl⟩ := hrel
          have S0 := carry hbl s0
          have S1 := carry hbl s1
          by_cases hlt : k < vs.length
          · have Q0 := carry hbl vq0
            have Q1 := carry hbl vq1
            obtain ⟨vx, vy⟩ := (hRh.out.carry hbl).at hlt
            obtain ⟨t0, t1⟩ := hG.out.small k hlt
            have k1 := fun w => add_any q0 q1 (at' vs k).1 (at' vs k).2 w bq0 bq1 (small_bd t0) (small_bd t1)
            have hC0 := hit_cases (fun p => q0 + p.1) vs xa k rfl
            have hC1 := hit_cases (fun p => q0 + p.1) vs xb k rfl
            have hC2 := hit_cases (fun p => q1 + p.2) vs ya k rfl
            have hC3 := hit_cases (fun p => q1 + p.2) vs yb k rfl
            generalize (at' vs k).1 = v0 at *
            generalize (at' vs k).2 = v1 at *
            generalize q0 + v0 = X at *
            generalize q1 + v1 = Y at *
            obtain ⟨N0, hN0⟩ : ∃ N, N = hit (fun p => q0 + p.1) vs xa (k + 1) := ⟨_, rfl⟩
            obtain ⟨N1, hN1⟩ : ∃ N, N = hit (fun p => q0 + p.1) vs xb (k + 1) := ⟨_, rfl⟩
            obtain ⟨N2, hN2⟩ : ∃ N, N = hit (fun p => q1 + p.2) vs ya (k + 1) := ⟨_, rfl⟩
            obtain ⟨N3, hN3⟩ : ∃ N, N = hit (fun p => q1 + p.2) vs yb (k + 1) := ⟨_, rfl⟩
            rw [← hN0] at hC0
            rw [← hN1] at hC1
            rw [← hN2] at hC2
            rw [← hN3] at hC3
            have hNN := Lib.hid (And.intro hN0 (And.intro hN1 (And.intro hN2 hN3)))
            clear hN0 hN1 hN2 hN3
            generalize hit (fun p => q0 + p.1) vs xa k = h0 at *
            generalize hit (fun p => q0 + p.1) vs xb k = h1 at *
            generalize hit (fun p => q1 + p.2) vs ya k = h2 at *
            generalize hit (fun p => q1 + p.2) vs yb k = h3 at *
            have hCC := Lib.hid (And.intro hC0 (And.intro hC1 (And.intro hC2 hC3)))
            clear hC0 hC1 hC2 hC3
            have hAdd := Lib.hid k1
            clear k1
            have hklt : (k : Int) < (vs.length : Int) := by omega
            have hTh := Lib.hid hT
            have hTlt : u10.heap.size < wr.heap.size := (Array.getElem?_eq_some_iff.1 hT).1
            clear hT
            go_wp2_with fail
            refine wp_region_alloc_last 7 (some 18) (.cells #[.int .i64 0, .int .i64 0] 34) (by kernel_rfl) (by kernel_rfl) ⟨_, rfl, rfl, fun _ => rfl, fun _ _ => by kernel_rfl⟩ ?_
            apply Exists.intro
            refine ⟨fun W hK E hE => ?_, ?_⟩
            · skip
              have g_S0 := fun x => carry ((hK.below x)) S0
              have g_S1 := fun x => carry ((hK.below x)) S1
              have g_Q0 := fun x => carry ((hK.below x)) Q0
              have g_Q1 := fun x => carry ((hK.below x)) Q1
              have g_vx := fun x => carry ((hK.below x)) vx
              have g_vy := fun x => carry ((hK.below x)) vy
              simp only [List.take_succ_cons, List.take_zero]
              repeat (go_big_quiet_step ((go_at_call 26; with_reducible exact met_made (hAdd.out _))))
              refine wpQuiet_nil ?_
              exact hE
            intro B wq hBB hbq hheap
            simp only [List.drop_succ_cons, List.drop_zero, Act.put, List.setIfInBounds_toArray, List.set_cons_zero, List.set_cons_succ]
            have hstep := (hbq.setCell (p := ⟨B, 0, none⟩) hBB (.int .i64 (X))).setCell (p := ⟨B, 1, none⟩) hBB (.int .i64 (Y))
            replace S0 := carry (hstep) S0
            replace S1 := carry (hstep) S1
            have hh := heap_setCell (heap_setCell hheap 0 (.int .i64 (X))) 1 (.int .i64 (Y))
            have vn0 := heap_cell hh 0
            have vn1 := heap_cell hh 1
            simp at vn0 vn1
            have hcB := heap_cell hheap
            have hfB := heap_frozen hheap
            clear hh hheap
            have hT := (hstep.block u10.heap.size hTlt).trans hTh.out
            replace hbl := below_step hbl hstep
            have hne : u10.heap.size ≠ B := by omega
            have x0 := vn0
            have x1 := vn1
            go_upto_region 15 with fail
            generalize (wq.setCell ⟨B, 0, none⟩ (.int .i64 X)).setCell ⟨B, 1, none⟩ (.int .i64 Y) = u12 at *
            clear hstep hcB hfB hbq hBB S0 S1 vn0 vn1
            go_cut [] (fun wx => wx.heap[u10.heap.size]? = some (.cells #[.bool N0, .bool h1, .bool h2, .bool h3] 46) ∧ wx.cell? ⟨B, 0, none⟩ = some (.int .i64 X) ∧ wx.cell? ⟨B, 1, none⟩ = some (.int .i64 Y) ∧ Below u10.heap.size u10 wx)
            case first =>
              have c0 := heap_cell hT 0
              have c1 := heap_cell hT 1
              have c2 := heap_cell hT 2
              have c3 := heap_cell hT 3
              simp only [List.getElem?_toArray, List.getElem?_cons_zero, List.getElem?_cons_succ] at c0 c1 c2 c3
              have fT := heap_frozen hT 0
              have b0 := carry hbl vb0
              have b1 := carry hbl vb1
              have b2 := carry hbl vb2
              have b3 := carry hbl vb3
              have hT' := Lib.hid hT
              clear hT
              have hCK := hCC.out.1
              rcases hCK with ⟨hh, hN⟩ | ⟨hh, hV, hN⟩ | ⟨hh, hV, hN⟩
              all_goals
                rw [hh] at c0
                have hst := Lib.hid (heap_setCell hT'.out 0 (.bool N0))
                rw [hN] at hst
                have hh' := Lib.hid hh
                have hN' := Lib.hid hN
                clear hh hN
                go_wp2_with fail
                go_meet
                refine ⟨?_, ?_, ?_, hbl.setCell (p := ⟨u10.heap.size, 0, none⟩) (Nat.le_refl _) _⟩
                · have := hst.out
                  simp only [List.setIfInBounds_toArray, List.set_cons_zero, List.set_cons_succ] at this
                  rw [hN'.out]
                  exact this
                · exact (World.cell?_setCell_far _ _ _ _ hne).trans x0
                · exact (World.cell?_setCell_far _ _ _ _ hne).trans x1
            clear hT x0 x1 hbl
            obtain ⟨hT, x0, x1, hbl⟩ := hcut
            go_upto_region 16 with fail
            go_cut [] (fun wx => wx.heap[u10.heap.size]? = some (.cells #[.bool N0, .bool N1, .bool h2, .bool h3] 46) ∧ wx.cell? ⟨B, 0, none⟩ = some (.int .i64 X) ∧ wx.cell? ⟨B, 1, none⟩ = some (.int .i64 Y) ∧ Below u10.heap.size u10 wx)
            case first =>
              have c0 := heap_cell hT 0
              have c1 := heap_cell hT 1
              have c2 := heap_cell hT 2
              have c3 := heap_cell hT 3
              simp only [List.getElem?_toArray, List.getElem?_cons_zero, List.getElem?_cons_succ] at c0 c1 c2 c3
              have fT := heap_frozen hT 1
              have b0 := carry hbl vb0
              have b1 := carry hbl vb1
              have b2 := carry hbl vb2
              have b3 := carry hbl vb3
              have hT' := Lib.hid hT
              clear hT
              have hCK := hCC.out.2.1
              rcases hCK with ⟨hh, hN⟩ | ⟨hh, hV, hN⟩ | ⟨hh, hV, hN⟩
              all_goals
                rw [hh] at c1
                have hst := Lib.hid (heap_setCell hT'.out 1 (.bool N1))
                rw [hN] at hst
                have hh' := Lib.hid hh
                have hN' := Lib.hid hN
                clear hh hN
                go_wp2_with fail
                go_meet
                refine ⟨?_, ?_, ?_, hbl.setCell (p := ⟨u10.heap.size, 1, none⟩) (Nat.le_refl _) _⟩
                · have := hst.out
                  simp only [List.setIfInBounds_toArray, List.set_cons_zero, List.set_cons_succ] at this
                  rw [hN'.out]
                  exact this
                · exact (World.cell?_setCell_far _ _ _ _ hne).trans x0
                · exact (World.cell?_setCell_far _ _ _ _ hne).trans x1
            clear hT x0 x1 hbl
            obtain ⟨hT, x0, x1, hbl⟩ := hcut
            go_upto_region 17 with fail
            go_cut [] (fun wx => wx.heap[u10.heap.size]? = some (.cells #[.bool N0, .bool N1, .bool N2, .bool h3] 46) ∧ wx.cell? ⟨B, 0, none⟩ = some (.int .i64 X) ∧ wx.cell? ⟨B, 1, none⟩ = some (.int .i64 Y) ∧ Below u10.heap.size u10 wx)
            case first =>
              have c0 := heap_cell hT 0
              have c1 := heap_cell hT 1
              have c2 := heap_cell hT 2
              have c3 := heap_cell hT 3
              simp only [List.getElem?_toArray, List.getElem?_cons_zero, List.getElem?_cons_succ] at c0 c1 c2 c3
              have fT := heap_frozen hT 2
              have b0 := carry hbl vb0
              have b1 := carry hbl vb1
              have b2 := carry hbl vb2
              have b3 := carry hbl vb3
              have hT' := Lib.hid hT
              clear hT
              have hCK := hCC.out.2.2.1
              rcases hCK with ⟨hh, hN⟩ | ⟨hh, hV, hN⟩ | ⟨hh, hV, hN⟩
              all_goals
                rw [hh] at c2
                have hst := Lib.hid (heap_setCell hT'.out 2 (.bool N2))
                rw [hN] at hst
                have hh' := Lib.hid hh
                have hN' := Lib.hid hN
                clear hh hN
                go_wp2_with fail
                go_meet
                refine ⟨?_, ?_, ?_, hbl.setCell (p := ⟨u10.heap.size, 2, none⟩) (Nat.le_refl _) _⟩
                · have := hst.out
                  simp only [List.setIfInBounds_toArray, List.set_cons_zero, List.set_cons_succ] at this
                  rw [hN'.out]
                  exact this
                · exact (World.cell?_setCell_far _ _ _ _ hne).trans x0
                · exact (World.cell?_setCell_far _ _ _ _ hne).trans x1
            clear hT x0 x1 hbl
            obtain ⟨hT, x0, x1, hbl⟩ := hcut
            go_upto_region 18 with fail
            have c0 := heap_cell hT 0
            have c1 := heap_cell hT 1
            have c2 := heap_cell hT 2
            have c3 := heap_cell hT 3
            simp only [List.getElem?_toArray, List.getElem?_cons_zero, List.getElem?_cons_succ] at c0 c1 c2 c3
            have fT := heap_frozen hT 3
            have b0 := carry hbl vb0
            have b1 := carry hbl vb1
            have b2 := carry hbl vb2
            have b3 := carry hbl vb3
            have hT' := Lib.hid hT
            clear hT
            have hCK := hCC.out.2.2.2
            rcases hCK with ⟨hh, hN⟩ | ⟨hh, hV, hN⟩ | ⟨hh, hV, hN⟩
            all_goals
              rw [hh] at c3
              have hst := Lib.hid (heap_setCell hT'.out 3 (.bool N3))
              rw [hN] at hst
              have hh' := Lib.hid hh
              have hN' := Lib.hid hN
              clear hh hN
              go_wp2
              go_roundw
              case rel =>
                refine ⟨k + 1, by omega, by go_num, ?_, hbl.setCell (p := ⟨u10.heap.size, 3, none⟩) (Nat.le_refl _) _⟩
                have := hst.out
                simp only [List.setIfInBounds_toArray, List.set_cons_zero, List.set_cons_succ] at this
                rw [← hNN.out.1, ← hNN.out.2.1, ← hNN.out.2.2.1, ← hNN.out.2.2.2, hN'.out]
                exact this
              case measure => simp [intOf]; omega
          · obtain rfl : k = vs.length := by omega
            rw [hfin'.out.1, hfin'.out.2.1, hfin'.out.2.2.1, hfin'.out.2.2.2] at hT
            have c0 := heap_cell hT 0
            have c1 := heap_cell hT 1
            have c2 := heap_cell hT 2
            have c3 := heap_cell hT 3
            simp only [List.getElem?_toArray, List.getElem?_cons_zero, List.getElem?_cons_succ] at c0 c1 c2 c3
            clear hT
            have heq : ∀ w, Sem.run Try.prog (Op.equalIn 10000 46 (.agg #[.bool true, .bool true, .bool true, .bool true]) (.agg #[.bool true, .bool true, .bool true, .bool true])) w = .ok true w := fun _ => by kernel_rfl
            go_wp2_with fail
            refine (lives3_any _).mono ?_
            rintro e u15 ⟨rfl, hb15⟩
            go_wp2
            go_ret
            exact ⟨rfl, below_step (below_step hB hbl) hb15⟩

set_option maxRecDepth 100000 in
theorem lifted (os : Os) (started : os.Started) (H : Type) (enc : TypeId × Value → H) :
    ReturnsInHanded {} Try.checked os 5 .any (Rows.shapeBoundsSpec.pre6 enc Try.prog Try.f5 Rows.shapeBoundsRow.domain false) (Rows.shapeBoundsSpec.post enc Try.prog Try.f5 false true false false) := by
  refine returnsInHanded_of_change (C := Try.checked) own started (by kernel_rfl) Try.func5
    (ChangeSpec.witness6 (enc := enc) (C := Try.checked) false ⟨#[], #[.int .i64 0, .int .i64 0, .int .i64 0, .int .i64 0, .int .i64 0], []⟩ 8 (by kernel_rfl) (by kernel_rfl) (by kernel_rfl) (by kernel_rfl)) ?_
  intro W base args ds gs before hval0 hW hcnd _
  have hval : ∀ (j : Nat) t v, Try.f5.params[j]? = some t → args[j]? = some v → Value.okWide Try.prog W .any base t v := hval0
  have hW' := hW
  obtain ⟨p, q, hA0, hV, rfl, hfz, hnd⟩ := hW
  have hA : DataW.TrodAll enc Try.prog W 0 (fun _ => true) true Try.f5.params.toList args.toList ds p := hA0
  rw [Try.params5] at hA hval
  obtain ⟨v0, vs0, d0, ds0, p0, q0, hargs, rfl, rfl, h0, r0⟩ := trodAll_cons hA
  obtain ⟨v1, vs1, d1, ds1, p1, q1, rfl, rfl, rfl, h1, r1⟩ := trodAll_cons r0
  obtain ⟨v2, vs2, d2, ds2, p2, q2, rfl, rfl, rfl, h2, r2⟩ := trodAll_cons r1
  obtain ⟨v3, vs3, d3, ds3, p3, q3, rfl, rfl, rfl, h3, r3⟩ := trodAll_cons r2
  obtain ⟨v4, vs4, d4, ds4, p4, q4, rfl, rfl, rfl, h4, r4⟩ := trodAll_cons r3
  obtain ⟨rfl, rfl, rfl⟩ := trodAll_nil r4
  obtain rfl : args = #[v0, v1, v2, v3, v4] := by cases args; simp_all
  obtain ⟨rfl, rfl⟩ := trodVars_none hV
  obtain ⟨a0, rfl, rfl, rfl, w0⟩ := open_int Try.underlying3 (hval 0 3 v0 rfl rfl) h0
  obtain ⟨a1, rfl, rfl, rfl, w1⟩ := open_int Try.underlying3 (hval 1 3 v1 rfl rfl) h1
  obtain ⟨a2, rfl, rfl, rfl, w2⟩ := open_int Try.underlying3 (hval 2 3 v2 rfl rfl) h2
  obtain ⟨a3, rfl, rfl, rfl, w3⟩ := open_int Try.underlying3 (hval 3 3 v3 rfl rfl) h3
  obtain ⟨a4, rfl, rfl, rfl, w4⟩ := open_int Try.underlying3 (hval 4 3 v4 rfl rfl) h4
  clear hA0 hval0
  simp only [List.append_nil] at hW'
  refine (walk a0 w0 a1 w1 a2 w2 a3 w3 a4 w4 W).mono fun e W' ⟨he, hb⟩ => ?_
  subst he
  exact ⟨_, rfl, kept_post (pa := []) hW' (fun _ _ _ => (trodAll_cons_mk (shut_bool Try.underlying4 _) trodAll_mk0)) (fun sp _ => (trodAll_cons_mk (shut_int Try.underlying3 w0) (trodAll_cons_mk (shut_int Try.underlying3 w1) (trodAll_cons_mk (shut_int Try.underlying3 w2) (trodAll_cons_mk (shut_int Try.underlying3 w3) (trodAll_cons_mk (shut_int Try.underlying3 w4) trodAll_mk0)))))) (fun _ => rfl) hb (ok_one (by kernel_rfl) rfl (okWide_bool_mk Try.underlying4 _))⟩

theorem over : Rows.shapeBoundsRow.holds Try.pinned (OpenSpec.ofChange Rows.shapeBoundsSpec) :=
  OpenClaim.holds_of_wide 5 Try.f5 rfl rfl rfl rfl rfl rfl rfl ⟨rfl, rfl, rfl, rfl, rfl⟩ rfl rfl rfl rfl rfl (by kernel_rfl) Try.func5 (by kernel_rfl)
    (of_decide_eq_true (by kernel_rfl)) (by unfold Func.isWrapper; first | (rw [if_pos (by decide +kernel)]; kernel_rfl) | (rw [if_neg (by decide +kernel)]; exact ⟨rfl, rfl⟩))
    (fun os started H enc _ => lifted os started H enc)

theorem proved : Rows.ShapeBoundsSaid :=
  over
#print axioms proved
end Go.Proofs.Ytololgefpjjpjaa.shapeBounds
