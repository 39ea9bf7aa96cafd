/- Package collide: the small functions. -/
import Derived.Test.YtfbgghkkgmgnjaaShapeL
import Derived.Test.YtfbgghkkgmgnjaaBroad
import Derived.Test.YtfbgghkkgmgnjaaIter
import Derived.Deep.DeepCutAuto
import Derived.Deep.CutBlock
namespace Go.Proofs.Ytfbgghkkgmgnjaa
open Go.ChangeShapes Go.WideShapes Go.ChangeAt Go.RowKit Go.Shelf
open Fxm
set_option linter.unusedSimpArgs false
set_option linter.unusedVariables false

theorem colCircle_any (r : Int) (a : Option Addr) (n cap : Nat) (w : World) : Calls Try.prog 83 #[.agg #[.int .i64 r, .slice a n cap]] w fun e w' => e = .returned (.bool (decide (n = 0))) ∧ Below w.heap.size w w' := by
  by_cases h : n = 0
  · subst h
    rw [decide_eq_true rfl]
    go_enter Try.func83, Try.ntmps83
    go_wp2
    go_ret
    refine ⟨rfl, ?_⟩
    repeat (first | exact Below.refl _ _ | (refine Below.setCell ?_ (by first | (simp; done) | (simp; omega) | omega) _) | (refine Below.alloc ?_ (by first | exact Nat.le_refl _ | (simp; done) | (simp; omega) | omega) _) | refine Below.drew ?_ | (refine Below.trans ?_ ((hb _).mono (by first | (simp; done) | (simp; omega) | omega))) | (refine Below.trans ?_ (hb1.mono (by first | (simp; done) | (simp; omega) | omega))))
  · rw [decide_eq_false h]
    have h1 : ((n : Int) == 0) = false := by simp only [beq_eq_false_iff_ne, ne_eq]; omega
    go_enter Try.func83, Try.ntmps83
    go_wp2
    go_ret
    refine ⟨rfl, ?_⟩
    repeat (first | exact Below.refl _ _ | (refine Below.setCell ?_ (by first | (simp; done) | (simp; omega) | omega) _) | (refine Below.alloc ?_ (by first | exact Nat.le_refl _ | (simp; done) | (simp; omega) | omega) _) | refine Below.drew ?_ | (refine Below.trans ?_ ((hb _).mono (by first | (simp; done) | (simp; omega) | omega))) | (refine Below.trans ?_ (hb1.mono (by first | (simp; done) | (simp; omega) | omega))))

/-- The direction's unit vector; the axis in it. -/
def nrm (d : Int × Int) : Int × Int := (flr (d.1 * 1024) (isq (d.1 * d.1 + d.2 * d.2)), flr (d.2 * 1024) (isq (d.1 * d.1 + d.2 * d.2)))
def axV (d : Int × Int) : Int × Int := if (nrm d).1 = 0 ∧ (nrm d).2 = 0 then (1024, 0) else nrm d

theorem unit_any (x y : Int) (w : World) (hx : Bd x) (hy : Bd y) : Calls Try.prog 72 #[.agg #[.int .i64 x, .int .i64 y]] w fun e w' =>
    e = .returned (.agg #[.int .i64 (axV (x, y)).1, .int .i64 (axV (x, y)).2]) ∧ Below w.heap.size w w' := by
  have K := fun w => normalize_any x y w hx hy
  have hA : axV (x, y) = if (nrm (x, y)).1 = 0 ∧ (nrm (x, y)).2 = 0 then (1024, 0) else nrm (x, y) := rfl
  have h1 : (nrm (x, y)).1 = flr (x * 1024) (isq (x * x + y * y)) := rfl
  have h2 : (nrm (x, y)).2 = flr (y * 1024) (isq (x * x + y * y)) := rfl
  rw [← h1, ← h2] at K
  generalize nrm (x, y) = uv at *
  obtain ⟨u, v⟩ := uv
  simp only at hA K
  clear h1 h2
  generalize axV (x, y) = A at *
  have hk := Lib.hid K
  clear K
  have hC : ∃ b0 b1 : Bool, decide (u = 0) = b0 ∧ decide (v = 0) = b1 ∧ ((b0 = true ∧ b1 = true ∧ A = (1024, 0)) ∨ (b0 = true ∧ b1 = false ∧ A = (u, v)) ∨ (b0 = false ∧ A = (u, v))) := by
    refine ⟨_, _, rfl, rfl, ?_⟩
    rw [hA]
    by_cases h0 : u = 0 <;> by_cases h1 : v = 0 <;> simp [h0, h1]
  clear hA
  obtain ⟨b0, b1, hb0, hb1', hC⟩ := hC
  rcases hC with ⟨rfl, rfl, rfl⟩ | ⟨rfl, rfl, rfl⟩ | ⟨rfl, rfl⟩
  all_goals
    go_enter Try.func72, Try.ntmps72
    go_wp2_with fail
    refine (hk.out _).mono ?_
    rintro e w1 ⟨rfl, hb1⟩
    have r0 : w1.cell? ⟨w.heap.size + 1, 0, none⟩ = some (.int .i64 0) := carry hb1 (by simp [go_sem])
    have r1 : w1.cell? ⟨w.heap.size + 1, 1, none⟩ = some (.int .i64 0) := carry hb1 (by simp [go_sem])
    have f0 : w1.frozen? ⟨w.heap.size + 1, 0, none⟩ = false := (hb1.frozen (by simp)).trans (by simp [go_sem])
    have f1 : w1.frozen? ⟨w.heap.size + 1, 1, none⟩ = false := (hb1.frozen (by simp)).trans (by simp [go_sem])
    have hB := below_step (below_step (alloc_below w (.cells #[.int .i64 x, .int .i64 y] 28)) (alloc_below _ (.cells #[.int .i64 0, .int .i64 0] 28))) hb1
    clear hb1
    go_upto_region 2 with fail
    obtain ⟨V, hV⟩ : ∃ V, V = w1.alloc (.cells #[.int .i64 u, .int .i64 v] 28) := ⟨_, rfl⟩
    have hb := alloc_below w1 (.cells #[.int .i64 u, .int .i64 v] 28)
    have a0 := World.cell?_alloc_new (w := w1) #[.int .i64 u, .int .i64 v] 28 0
    have a1 := World.cell?_alloc_new (w := w1) #[.int .i64 u, .int .i64 v] 28 1
    rw [← hV] at hb a0 a1 ⊢
    clear hV
    have n1 := block_lt_of_cell r0
    simp only at n1
    have g0 := (hb.frozen (p := ⟨w.heap.size + 1, 0, none⟩) n1).trans f0
    have g1 := (hb.frozen (p := ⟨w.heap.size + 1, 1, none⟩) n1).trans f1
    replace r0 := carry hb r0
    replace r1 := carry hb r1
    replace hB := below_step hB hb
    clear f0 f1
    go_wp2
    all_goals first
      | (exfalso; clear r0 r1 g0 g1 a0 a1 hk hb hB; simp_all; done)
      | (refine bodyPost_ret (v := .agg #[.int .i64 1024, .int .i64 0]) (by simp [results, Try.results72, go_sem, r0, r1]; done) rfl ⟨rfl, ?_⟩; exact (hB.setCell (by first | (simp; done) | (simp; omega) | omega) _).setCell (by first | (simp; done) | (simp; omega) | omega) _)
      | (refine bodyPost_ret (v := .agg #[.int .i64 u, .int .i64 v]) (by simp [results, Try.results72, go_sem, r0, r1] <;> omega) rfl ⟨rfl, ?_⟩; exact (hB.setCell (by first | (simp; done) | (simp; omega) | omega) _).setCell (by first | (simp; done) | (simp; omega) | omega) _)

/-- The way from a point c to the vertex v of a polygon at q. -/
theorem way_any (v0 v1 q0 q1 c0 c1 : Int) (bq bc : Nat) (w : World) (hq0 : w.cell? ⟨bq, 0, none⟩ = some (.int .i64 q0)) (hq1 : w.cell? ⟨bq, 1, none⟩ = some (.int .i64 q1)) (hc0 : w.cell? ⟨bc, 0, none⟩ = some (.int .i64 c0)) (hc1 : w.cell? ⟨bc, 1, none⟩ = some (.int .i64 c1))
    (eq0 : Be q0) (eq1 : Be q1) (ec0 : Be c0) (ec1 : Be c1) (ev0 : -32768 ≤ v0 ∧ v0 ≤ 32768) (ev1 : -32768 ≤ v1 ∧ v1 ≤ 32768) :
    Calls Try.prog 89 #[.agg #[.int .i64 v0, .int .i64 v1], .pointer (some ⟨bq, 0, none⟩), .pointer (some ⟨bc, 0, none⟩)] w fun e w' =>
      e = .returned (.agg #[.int .i64 (q0 + v0 - c0), .int .i64 (q1 + v1 - c1)]) ∧ Below w.heap.size w w' := by
  have k1 := fun w => add_any q0 q1 v0 v1 w eq0.bd eq1.bd (by unfold Bd; omega) (by unfold Bd; omega)
  have k2 := fun w => sub_any (q0 + v0) (q1 + v1) c0 c1 w (by unfold Be at *; unfold Bd; omega) (by unfold Be at *; unfold Bd; omega) ec0.bd ec1.bd
  generalize q0 + v0 = s0 at *
  generalize q1 + v1 = s1 at *
  generalize s0 - c0 = z0 at *
  generalize s1 - c1 = z1 at *
  have hk := Lib.hid (And.intro k1 k2)
  clear k1 k2
  have lq := block_lt_of_cell hq0
  have lc := block_lt_of_cell hc0
  simp only at lq lc
  go_enter Try.func89, Try.ntmps89
  have hB := below_step (alloc_below w (.cells #[.int .i64 v0, .int .i64 v1] 28)) (alloc_below _ (.cells #[.int .i64 0, .int .i64 0] 28))
  go_upto_region 1 with fail
  have v0c : ((w.alloc (.cells #[.int .i64 v0, .int .i64 v1] 28)).alloc (.cells #[.int .i64 0, .int .i64 0] 28)).cell? ⟨w.heap.size, 0, none⟩ = some (.int .i64 v0) := by simp
  have v1c : ((w.alloc (.cells #[.int .i64 v0, .int .i64 v1] 28)).alloc (.cells #[.int .i64 0, .int .i64 0] 28)).cell? ⟨w.heap.size, 1, none⟩ = some (.int .i64 v1) := by simp
  have r0 : ((w.alloc (.cells #[.int .i64 v0, .int .i64 v1] 28)).alloc (.cells #[.int .i64 0, .int .i64 0] 28)).cell? ⟨w.heap.size + 1, 0, none⟩ = some (.int .i64 0) := by simp
  have r1 : ((w.alloc (.cells #[.int .i64 v0, .int .i64 v1] 28)).alloc (.cells #[.int .i64 0, .int .i64 0] 28)).cell? ⟨w.heap.size + 1, 1, none⟩ = some (.int .i64 0) := by simp
  have f0 : ((w.alloc (.cells #[.int .i64 v0, .int .i64 v1] 28)).alloc (.cells #[.int .i64 0, .int .i64 0] 28)).frozen? ⟨w.heap.size + 1, 0, none⟩ = false := by simp [go_sem]
  have f1 : ((w.alloc (.cells #[.int .i64 v0, .int .i64 v1] 28)).alloc (.cells #[.int .i64 0, .int .i64 0] 28)).frozen? ⟨w.heap.size + 1, 1, none⟩ = false := by simp [go_sem]
  replace hq0 := carry (hB) hq0
  replace hq1 := carry (hB) hq1
  replace hc0 := carry (hB) hc0
  replace hc1 := carry (hB) hc1
  generalize (w.alloc (.cells #[.int .i64 v0, .int .i64 v1] 28)).alloc (.cells #[.int .i64 0, .int .i64 0] 28) = V at *
  have nV := block_lt_of_cell r0
  simp only at nV
  refine wp_region_tail 5 (by kernel_rfl) (by kernel_rfl) ?_
  intro W hK
  have g_hq0 := fun x => carry ((hK.below x)) hq0
  have g_hq1 := fun x => carry ((hK.below x)) hq1
  have g_hc0 := fun x => carry ((hK.below x)) hc0
  have g_hc1 := fun x => carry ((hK.below x)) hc1
  have g_v0c := fun x => carry ((hK.below x)) v0c
  have g_v1c := fun x => carry ((hK.below x)) v1c
  have g_r0 := fun x => carry ((hK.below x)) r0
  have g_r1 := fun x => carry ((hK.below x)) r1
  simp only [List.take_succ_cons, List.take_zero, List.drop_succ_cons, List.drop_zero]
  repeat (go_big_quiet_step ((first | (go_at_call 25; with_reducible exact met_made (hk.out.1 _)) | (go_at_call 48; with_reducible exact met_made (hk.out.2 _)))))
  refine wpQuiet_nil ?_
  intro wq hw'
  have hbq := kept_in hK hw'
  clear g_hq0 g_hq1 g_hc0 g_hc1 g_v0c g_v1c g_r0 g_r1
  clear hw' hK W
  replace hq0 := carry (hbq) hq0
  replace hq1 := carry (hbq) hq1
  replace hc0 := carry (hbq) hc0
  replace hc1 := carry (hbq) hc1
  replace v0c := carry (hbq) v0c
  replace v1c := carry (hbq) v1c
  replace r0 := carry (hbq) r0
  replace r1 := carry (hbq) r1
  have nr := block_lt_of_cell r0
  simp only at nr
  have g0 := (hbq.frozen (p := ⟨w.heap.size + 1, 0, none⟩) nV).trans f0
  have g1 := (hbq.frozen (p := ⟨w.heap.size + 1, 1, none⟩) nV).trans f1
  go_wp2
  refine bodyPost_ret (v := .agg #[.int .i64 z0, .int .i64 z1]) (by simp [results, Try.results89, go_sem, r0, r1]) rfl ⟨rfl, ?_⟩
  exact ((below_step hB hbq).setCell (by first | (simp; done) | (simp; omega) | omega) _).setCell (by first | (simp; done) | (simp; omega) | omega) _

def sqd (d : Int × Int) : Int := d.1 * d.1 + d.2 * d.2
theorem dist_any (v0 v1 q0 q1 c0 c1 : Int) (bf bq bc : Nat) (w : World) (hf : w.cell? ⟨bf, 0, none⟩ = some (.func (.func 89) #[] #[.pointer (some ⟨bq, 0, none⟩), .pointer (some ⟨bc, 0, none⟩)]))
    (hq0 : w.cell? ⟨bq, 0, none⟩ = some (.int .i64 q0)) (hq1 : w.cell? ⟨bq, 1, none⟩ = some (.int .i64 q1)) (hc0 : w.cell? ⟨bc, 0, none⟩ = some (.int .i64 c0)) (hc1 : w.cell? ⟨bc, 1, none⟩ = some (.int .i64 c1))
    (eq0 : Be q0) (eq1 : Be q1) (ec0 : Be c0) (ec1 : Be c1) (ev0 : -32768 ≤ v0 ∧ v0 ≤ 32768) (ev1 : -32768 ≤ v1 ∧ v1 ≤ 32768) :
    Calls Try.prog 91 #[.agg #[.int .i64 v0, .int .i64 v1], .pointer (some ⟨bf, 0, none⟩)] w fun e w' =>
      e = .returned (.int .i64 (sqd (q0 + v0 - c0, q1 + v1 - c1))) ∧ Below w.heap.size w w' := by
  have b0 := prod27 (a := q0 + v0 - c0) (b := q0 + v0 - c0) (by unfold Be at *; omega) (by unfold Be at *; omega) (by unfold Be at *; omega) (by unfold Be at *; omega)
  have b1 := prod27 (a := q1 + v1 - c1) (b := q1 + v1 - c1) (by unfold Be at *; omega) (by unfold Be at *; omega) (by unfold Be at *; omega) (by unfold Be at *; omega)
  have k := fun w a b c d => way_any v0 v1 q0 q1 c0 c1 bq bc w a b c d eq0 eq1 ec0 ec1 ev0 ev1
  unfold sqd
  simp only
  generalize q0 + v0 - c0 = z0 at *
  generalize q1 + v1 - c1 = z1 at *
  have hk := Lib.hid k
  clear k
  have lf := block_lt_of_cell hf
  have lq := block_lt_of_cell hq0
  have lc := block_lt_of_cell hc0
  simp only at lf lq lc
  go_enter Try.func91, Try.ntmps91
  have hB0 := alloc_below w (.cells #[.int .i64 v0, .int .i64 v1] 28)
  have hq0' := carry hB0 hq0
  have hq1' := carry hB0 hq1
  have hc0' := carry hB0 hc0
  have hc1' := carry hB0 hc1
  go_wp2_with fail
  go_at_call 89
  refine (hk.out _ hq0' hq1' hc0' hc1').mono ?_
  rintro e w1 ⟨rfl, hb1⟩
  clear hq0' hq1' hc0' hc1'
  have hB1 := below_step hB0 hb1
  go_wp2
  go_ret
  refine ⟨rfl, ?_⟩
  exact below_step hB1 (alloc_below _ _)
end Go.Proofs.Ytfbgghkkgmgnjaa
