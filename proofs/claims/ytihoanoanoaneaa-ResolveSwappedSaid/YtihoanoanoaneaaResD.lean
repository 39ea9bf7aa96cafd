/- Package resolve: Resolve. -/
import Derived.Test.YtihoanoanoaneaaResC
import Derived.RegionCalls
import Derived.RegionTactic
import Derived.Deep.RegionHeld3
namespace Go.Proofs.Ytihoanoanoaneaa
open Go.ChangeShapes Go.WideShapes Go.ChangeAt Go.RowKit
open Fxm
set_option linter.unusedSimpArgs false
set_option linter.unusedVariables false

/-- The world behind the parameters' boxes and the results' variables. -/
def doorW (w : World) (a b : Mo) (n0 n1 d : Int) : World :=
  ((((w.alloc (motO 26 a)).alloc (motO 26 b)).alloc (conO 29 n0 n1 d)).alloc (motO 26 ⟨0, 0, 0, 0, 0⟩)).alloc (motO 26 ⟨0, 0, 0, 0, 0⟩)
structure Door (V : World) (h : Nat) (a b : Mo) (n0 n1 d : Int) (x y : Mo) : Prop where
  a : V.heap[h]? = some (motO 26 a)
  b : V.heap[h + 1]? = some (motO 26 b)
  c : V.heap[h + 1 + 1]? = some (conO 29 n0 n1 d)
  x : V.heap[h + 1 + 1 + 1]? = some (motO 26 x)
  y : V.heap[h + 1 + 1 + 1 + 1]? = some (motO 26 y)
theorem door_at (w : World) (a b : Mo) (n0 n1 d : Int) : Door (doorW w a b n0 n1 d) w.heap.size a b n0 n1 d ⟨0, 0, 0, 0, 0⟩ ⟨0, 0, 0, 0, 0⟩ := by
  have s1 := World.size_alloc w (motO 26 a)
  refine ⟨old_at _ (old_at _ (old_at _ (old_at _ (new_at _ _)))), ?_, ?_, ?_, ?_⟩
  · have := new_at (w.alloc (motO 26 a)) (motO 26 b)
    rw [World.size_alloc] at this
    exact old_at _ (old_at _ (old_at _ this))
  · have := new_at ((w.alloc (motO 26 a)).alloc (motO 26 b)) (conO 29 n0 n1 d)
    rw [World.size_alloc, World.size_alloc] at this
    exact old_at _ (old_at _ this)
  · have := new_at (((w.alloc (motO 26 a)).alloc (motO 26 b)).alloc (conO 29 n0 n1 d)) (motO 26 ⟨0, 0, 0, 0, 0⟩)
    rw [World.size_alloc, World.size_alloc, World.size_alloc] at this
    exact old_at _ this
  · have := new_at ((((w.alloc (motO 26 a)).alloc (motO 26 b)).alloc (conO 29 n0 n1 d)).alloc (motO 26 ⟨0, 0, 0, 0, 0⟩)) (motO 26 ⟨0, 0, 0, 0, 0⟩)
    rw [World.size_alloc, World.size_alloc, World.size_alloc, World.size_alloc] at this
    exact this
theorem door_below (w : World) (a b : Mo) (n0 n1 d : Int) : Below w.heap.size w (doorW w a b n0 n1 d) :=
  below_step (below_step (below_step (below_step (alloc_below _ _) (alloc_below _ _)) (alloc_below _ _)) (alloc_below _ _)) (alloc_below _ _)
theorem Door.carry {V W : World} {h : Nat} {a b : Mo} {n0 n1 d : Int} {x y : Mo} (D : Door V h a b n0 n1 d x y) (hb : Below V.heap.size V W) : Door W h a b n0 n1 d x y :=
  ⟨hcarry hb D.a, hcarry hb D.b, hcarry hb D.c, hcarry hb D.x, hcarry hb D.y⟩
theorem Door.turn {V W : World} {S : Nat → Prop} {h : Nat} {a b : Mo} {n0 n1 d : Int} {x y : Mo} (D : Door V h a b n0 n1 d x y) (hb : Turn S V W) (hs : ∀ i, i ≤ h + 4 → ¬ S i) : Door W h a b n0 n1 d x y :=
  ⟨hb.at D.a (hs _ (by omega)), hb.at D.b (hs _ (by omega)), hb.at D.c (hs _ (by omega)), hb.at D.x (hs _ (by omega)), hb.at D.y (hs _ (by omega))⟩
theorem Door.lt {V : World} {h : Nat} {a b : Mo} {n0 n1 d : Int} {x y : Mo} (D : Door V h a b n0 n1 d x y) : h + 4 < V.heap.size := hlt D.y

/-- What a walk of Resolve asks of its numbers. -/
structure Fits (a b : Mo) (n0 n1 d e : Int) : Prop where
  vn : -65537 ≤ rvn a b n0 n1 ∧ rvn a b n0 n1 ≤ 65536
  num : -4611686018427387904 ≤ -rvn a b n0 n1 * (1024 + e) ∧ -rvn a b n0 n1 * (1024 + e) ≤ 4611686018427387904
  ja : -4611686018427387904 ≤ rj a b n0 n1 e * a.m ∧ rj a b n0 n1 e * a.m ≤ 4611686018427387904
  jb : -4611686018427387904 ≤ rj a b n0 n1 e * b.m ∧ rj a b n0 n1 e * b.m ≤ 4611686018427387904
  fa : Bd (rfv (rj a b n0 n1 e) a.m)
  fb : Bd (rfv (rj a b n0 n1 e) b.m)
  a0 : -131074 ≤ rsc n0 (rfv (rj a b n0 n1 e) a.m) ∧ rsc n0 (rfv (rj a b n0 n1 e) a.m) ≤ 131074
  a1 : -131074 ≤ rsc n1 (rfv (rj a b n0 n1 e) a.m) ∧ rsc n1 (rfv (rj a b n0 n1 e) a.m) ≤ 131074
  b0 : -131074 ≤ rsc n0 (rfv (rj a b n0 n1 e) b.m) ∧ rsc n0 (rfv (rj a b n0 n1 e) b.m) ≤ 131074
  b1 : -131074 ≤ rsc n1 (rfv (rj a b n0 n1 e) b.m) ∧ rsc n1 (rfv (rj a b n0 n1 e) b.m) ≤ 131074
  da : -4611686018427387904 ≤ d * a.m ∧ d * a.m ≤ 4611686018427387904
  db : -4611686018427387904 ≤ d * b.m ∧ d * b.m ≤ 4611686018427387904
  pa : Bd (rfp d a.m (a.m + b.m))
  pb : Bd (rfp d b.m (a.m + b.m))
  x0 : -1048576 ≤ rsc n0 (rfp d a.m (a.m + b.m)) ∧ rsc n0 (rfp d a.m (a.m + b.m)) ≤ 1048576
  x1 : -1048576 ≤ rsc n1 (rfp d a.m (a.m + b.m)) ∧ rsc n1 (rfp d a.m (a.m + b.m)) ≤ 1048576
  y0 : -1048576 ≤ rsc n0 (rfp d b.m (a.m + b.m)) ∧ rsc n0 (rfp d b.m (a.m + b.m)) ≤ 1048576
  y1 : -1048576 ≤ rsc n1 (rfp d b.m (a.m + b.m)) ∧ rsc n1 (rfp d b.m (a.m + b.m)) ≤ 1048576
theorem fits (a b : Mo) (n0 n1 d e : Int) (ha : a.Dom) (hb : b.Dom) (ht : ¬ a.m + b.m = 0) (hn0 : -1024 ≤ n0 ∧ n0 ≤ 1024) (hn1 : -1024 ≤ n1 ∧ n1 ≤ 1024) (hd : 0 ≤ d ∧ d ≤ 1048576) (he : 0 ≤ e ∧ e ≤ 1024) : Fits a b n0 n1 d e := by
  have ma := ha.m
  have mb := hb.m
  have r := rvn_bd (a := a) (b := b) (n0 := n0) (n1 := n1) (N := 1024) (V := 16384) (by omega) (by omega) hn0 hn1 ha.v0 ha.v1 hb.v0 hb.v1
  have vn : -65537 ≤ rvn a b n0 n1 ∧ rvn a b n0 n1 ≤ 65536 := by omega
  have num := prod31 (a := -rvn a b n0 n1) (b := 1024 + e) (by omega) (by omega) (by omega) (by omega)
  have num2 := prod_bd (a := -rvn a b n0 n1) (b := 1024 + e) (A := 65537) (B := 2048) (by omega) (by omega) (by omega) (by omega) (by omega) (by omega)
  obtain ⟨j0, jc, jt⟩ := rj_bd (a := a) (b := b) (n0 := n0) (n1 := n1) he.1 (by omega)
  have jt' : (a.m + b.m) * rj a b n0 n1 e ≤ 134219776 := by
    split at jt
    · omega
    · omega
  have j1 : rj a b n0 n1 e ≤ 134219776 := by
    have : 1 * rj a b n0 n1 e ≤ (a.m + b.m) * rj a b n0 n1 e := Int.mul_le_mul_of_nonneg_right (by omega) j0
    omega
  have fa := rfv_bd (a := a) (b := b) (n0 := n0) (n1 := n1) (e := e) (U := 65537) (m := a.m) he (by omega) (by omega) vn.1 (by omega) (by omega)
  have fb := rfv_bd (a := a) (b := b) (n0 := n0) (n1 := n1) (e := e) (U := 65537) (m := b.m) he (by omega) (by omega) vn.1 (by omega) (by omega)
  have pa := rfp_bd (d := d) (m := a.m) (t := a.m + b.m) hd.1 (by omega) (by omega) (by omega)
  have pb := rfp_bd (d := d) (m := b.m) (t := a.m + b.m) hd.1 (by omega) (by omega) (by omega)
  exact ⟨vn, num, prod31 (by omega) (by omega) (by omega) (by omega), prod31 (by omega) (by omega) (by omega) (by omega), ⟨by omega, by omega⟩, ⟨by omega, by omega⟩,
    rsc_bd hn0 ⟨fa.1, by omega⟩, rsc_bd hn1 ⟨fa.1, by omega⟩, rsc_bd hn0 ⟨fb.1, by omega⟩, rsc_bd hn1 ⟨fb.1, by omega⟩,
    prod31 (by omega) (by omega) (by omega) (by omega), prod31 (by omega) (by omega) (by omega) (by omega), ⟨by omega, by omega⟩, ⟨by omega, by omega⟩,
    rsc_bd hn0 ⟨pa.1, by omega⟩, rsc_bd hn1 ⟨pa.1, by omega⟩, rsc_bd hn0 ⟨pb.1, by omega⟩, rsc_bd hn1 ⟨pb.1, by omega⟩⟩

set_option maxHeartbeats 4000000 in
set_option maxRecDepth 100000 in
theorem resolve_none (a b : Mo) (n0 n1 d e : Int) (w : World) (ha : a.Dom) (hb : b.Dom) (ht : a.m + b.m = 0) :
    Calls Try.prog 12 #[.agg #[.int .i64 a.p0, .int .i64 a.p1, .int .i64 a.v0, .int .i64 a.v1, .int .i64 a.m], .agg #[.int .i64 b.p0, .int .i64 b.p1, .int .i64 b.v0, .int .i64 b.v1, .int .i64 b.m], .agg #[.int .i64 n0, .int .i64 n1, .int .i64 d], .int .i64 e] w fun E w' =>
      E = .returned (.tuple #[.agg #[.int .i64 a.p0, .int .i64 a.p1, .int .i64 a.v0, .int .i64 a.v1, .int .i64 a.m], .agg #[.int .i64 b.p0, .int .i64 b.p1, .int .i64 b.v0, .int .i64 b.v1, .int .i64 b.m]]) ∧ Below w.heap.size w w' := by
  have D := door_at w a b n0 n1 d
  have hB := door_below w a b n0 n1 d
  obtain ⟨V, hV⟩ : ∃ V, V = doorW w a b n0 n1 d := ⟨_, rfl⟩
  rw [← hV] at D hB
  have hV' := Lib.hid hV
  have D' := Lib.hid D
  have hB' := Lib.hid hB
  obtain ⟨a0, a1, a2, a3, a4⟩ := mo_cells D.a
  obtain ⟨b0, b1, b2, b3, b4⟩ := mo_cells D.b
  have hl := D.lt
  have ma := ha.m
  have mb := hb.m
  clear hV D hB ha hb
  go_enter Try.func12, Try.ntmps12
  go_upto_region 1 with fail
  rw [show ((((w.alloc (.cells #[.int .i64 a.p0, .int .i64 a.p1, .int .i64 a.v0, .int .i64 a.v1, .int .i64 a.m] 26)).alloc (.cells #[.int .i64 b.p0, .int .i64 b.p1, .int .i64 b.v0, .int .i64 b.v1, .int .i64 b.m] 26)).alloc (.cells #[.int .i64 n0, .int .i64 n1, .int .i64 d] 29)).alloc (.cells #[.int .i64 0, .int .i64 0, .int .i64 0, .int .i64 0, .int .i64 0] 26)).alloc (.cells #[.int .i64 0, .int .i64 0, .int .i64 0, .int .i64 0, .int .i64 0] 26) = V from hV'.out.symm]
  clear hV'
  go_upto_region 3 with fail
  have xf := mo_frozen D'.out.x
  have yf := mo_frozen D'.out.y
  obtain ⟨x0, x1, x2, x3, x4⟩ := mo_cells D'.out.x
  obtain ⟨y0, y1, y2, y3, y4⟩ := mo_cells D'.out.y
  go_region
  go_wp2
  refine bodyPost_ret (v := .tuple #[.agg #[.int .i64 a.p0, .int .i64 a.p1, .int .i64 a.v0, .int .i64 a.v1, .int .i64 a.m], .agg #[.int .i64 b.p0, .int .i64 b.p1, .int .i64 b.v0, .int .i64 b.v1, .int .i64 b.m]]) (by simp [results, Try.results12, go_sem, x0, x1, x2, x3, x4, y0, y1, y2, y3, y4, xf, yf, hl]) rfl ⟨rfl, ?_⟩
  repeat (first | with_reducible exact hB'.out | with_reducible (refine Below.drew ?_) | with_reducible (refine Below.setCell ?_ (by simp only; omega) _))

set_option maxHeartbeats 4000000 in
set_option maxRecDepth 100000 in
theorem resolve_some (a b : Mo) (n0 n1 d e : Int) (w : World) (ha : a.Dom) (hb : b.Dom) (ht : ¬ a.m + b.m = 0) (hn0 : -1024 ≤ n0 ∧ n0 ≤ 1024) (hn1 : -1024 ≤ n1 ∧ n1 ≤ 1024) (hd : 0 ≤ d ∧ d ≤ 1048576) (he : 0 ≤ e ∧ e ≤ 1024) (RA RB : Mo) (hRA : resA a b n0 n1 d e = RA) (hRB : resB a b n0 n1 d e = RB) :
    Calls Try.prog 12 #[.agg #[.int .i64 a.p0, .int .i64 a.p1, .int .i64 a.v0, .int .i64 a.v1, .int .i64 a.m], .agg #[.int .i64 b.p0, .int .i64 b.p1, .int .i64 b.v0, .int .i64 b.v1, .int .i64 b.m], .agg #[.int .i64 n0, .int .i64 n1, .int .i64 d], .int .i64 e] w fun E w' =>
      E = .returned (.tuple #[.agg #[.int .i64 RA.p0, .int .i64 RA.p1, .int .i64 RA.v0, .int .i64 RA.v1, .int .i64 RA.m], .agg #[.int .i64 RB.p0, .int .i64 RB.p1, .int .i64 RB.v0, .int .i64 RB.v1, .int .i64 RB.m]]) ∧ Below w.heap.size w w' := by
  rw [resA_at ht] at hRA
  rw [resB_at ht] at hRB
  have hR' := Lib.hid (And.intro hRA hRB)
  have hdom := Lib.hid (And.intro ha hb)
  have D := door_at w a b n0 n1 d
  have hB := door_below w a b n0 n1 d
  obtain ⟨V, hV⟩ : ∃ V, V = doorW w a b n0 n1 d := ⟨_, rfl⟩
  rw [← hV] at D hB
  have hV' := Lib.hid hV
  have D' := Lib.hid D
  have hB' := Lib.hid hB
  obtain ⟨a0, a1, a2, a3, a4⟩ := mo_cells D.a
  obtain ⟨b0, b1, b2, b3, b4⟩ := mo_cells D.b
  have hl := D.lt
  have ma := ha.m
  have mb := hb.m
  have ht' : (a.m + b.m == 0) = false := by simpa using ht
  have hnz := Lib.hid ht
  clear hV D hB ha hb hRA hRB ht
  go_enter Try.func12, Try.ntmps12
  go_upto_region 1 with fail
  rw [show ((((w.alloc (.cells #[.int .i64 a.p0, .int .i64 a.p1, .int .i64 a.v0, .int .i64 a.v1, .int .i64 a.m] 26)).alloc (.cells #[.int .i64 b.p0, .int .i64 b.p1, .int .i64 b.v0, .int .i64 b.v1, .int .i64 b.m] 26)).alloc (.cells #[.int .i64 n0, .int .i64 n1, .int .i64 d] 29)).alloc (.cells #[.int .i64 0, .int .i64 0, .int .i64 0, .int .i64 0, .int .i64 0] 26)).alloc (.cells #[.int .i64 0, .int .i64 0, .int .i64 0, .int .i64 0, .int .i64 0] 26) = V from hV'.out.symm]
  clear hV'
  go_upto_region 4 with fail
  clear ht'
  have l0 : w.heap.size < V.heap.size := by omega
  have l1 : w.heap.size + 1 < V.heap.size := by omega
  have l2 : w.heap.size + 1 + 1 < V.heap.size := by omega
  go_cut [11, 12] (fun p q W => ∃ A B, p = .pointer (some ⟨A, 0, none⟩) ∧ q = .pointer (some ⟨B, 0, none⟩) ∧ A ≠ B ∧ V.heap.size ≤ A ∧ V.heap.size ≤ B ∧ W.heap[A]? = some (motO 48 a) ∧ W.heap[B]? = some (motO 48 b) ∧ Below V.heap.size V W)
  case first =>
    go_region
    all_goals
      go_wp2_with fail
      go_meet
    · refine ⟨_, _, rfl, rfl, by omega, by omega, by omega, ?_, ?_, (below_step (alloc_below V (motO 48 a)) (alloc_below _ (motO 48 b))).drew⟩
      · exact old_at (motO 48 b) (new_at V (motO 48 a))
      · have := new_at (V.alloc (motO 48 a)) (motO 48 b)
        rw [World.size_alloc] at this
        exact this
    · refine ⟨_, _, rfl, rfl, by omega, by omega, by omega, ?_, ?_, (below_step (alloc_below V (motO 48 b)) (alloc_below _ (motO 48 a))).drew⟩
      · have := new_at (V.alloc (motO 48 b)) (motO 48 a)
        rw [World.size_alloc] at this
        exact this
      · exact old_at (motO 48 a) (new_at V (motO 48 b))
  obtain ⟨A, B, rfl, rfl, hne, hA1, hB1, hA, hBk, hb1⟩ := hcut
  obtain ⟨V2, hV2⟩ : ∃ V, V = wc := ⟨wc, rfl⟩
  subst hV2
  have hF := Lib.hid (fits a b n0 n1 d e hdom.out.1 hdom.out.2 (by intro h; exact hnz.out h) hn0 hn1 hd he)
  have D2 := Lib.hid (D'.out.carry hb1)
  have hA2 := Lib.hid hA
  have hB2 := Lib.hid hBk
  have hbb := Lib.hid hb1
  have hlt' := Lib.hid (And.intro hne (And.intro hA1 hB1))
  clear a0 a1 a2 a3 a4 b0 b1 b2 b3 b4 hne hA1 hB1 hA hBk hb1 l0 l1 l2 hl
  obtain ⟨-, -, a2, a3, -⟩ := mo_cells D2.out.a
  obtain ⟨-, -, b2, b3, -⟩ := mo_cells D2.out.b
  obtain ⟨c0, c1, -⟩ := con_cells D2.out.c
  have k1 := fun w => sub_any b.v0 b.v1 a.v0 a.v1 w (by have := hdom.out.2.v0; unfold Bd; omega) (by have := hdom.out.2.v1; unfold Bd; omega) (by have := hdom.out.1.v0; unfold Bd; omega) (by have := hdom.out.1.v1; unfold Bd; omega)
  have k2 := fun w => dot_any (b.v0 - a.v0) (b.v1 - a.v1) n0 n1 w (by have := hdom.out.2.v0; have := hdom.out.1.v0; unfold Bd; omega) (by have := hdom.out.2.v1; have := hdom.out.1.v1; unfold Bd; omega) (by unfold Bd; omega) (by unfold Bd; omega)
  have ev : flr ((b.v0 - a.v0) * n0 + (b.v1 - a.v1) * n1) 1024 = rvn a b n0 n1 := rfl
  rw [ev] at k2
  clear ev
  have hkk := Lib.hid (And.intro k1 k2)
  clear k1 k2
  go_upto_region 5 with fail
  refine wp_region_made (by kernel_rfl) (by kernel_rfl) ?_
  intro W hK
  have g_a2 := fun x => carry ((hK.below x)) a2
  have g_a3 := fun x => carry ((hK.below x)) a3
  have g_b2 := fun x => carry ((hK.below x)) b2
  have g_b3 := fun x => carry ((hK.below x)) b3
  have g_c0 := fun x => carry ((hK.below x)) c0
  have g_c1 := fun x => carry ((hK.below x)) c1
  repeat (go_big_quiet_step ((first | (go_at_call 16; with_reducible exact met_made (hkk.out.1 _)) | (go_at_call 15; with_reducible exact met_made (hkk.out.2 _)))))
  refine wpQuiet_nil ?_
  intro wq hw'
  have hbq := kept_in hK hw'
  clear g_a2 g_a3 g_b2 g_b3 g_c0 g_c1
  clear hw' hK W
  replace a2 := carry (hbq) a2
  replace a3 := carry (hbq) a3
  replace b2 := carry (hbq) b2
  replace b3 := carry (hbq) b3
  replace c0 := carry (hbq) c0
  replace c1 := carry (hbq) c1
  have D3 := Lib.hid (D2.out.carry hbq)
  have hA3 := Lib.hid (hcarry hbq hA2.out)
  have hB3 := Lib.hid (hcarry hbq hB2.out)
  have hb3 := Lib.hid (below_step hbb.out hbq)
  clear hbq hA2 hB2 hbb hkk a2 a3 b2 b3 c0 c1
  obtain ⟨J, hJ⟩ : ∃ J, J = rj a b n0 n1 e := ⟨_, rfl⟩
  have hJ' := Lib.hid hJ
  clear hJ
  go_upto_if 37 with fail
  go_cut [11, 12] (fun p q W => p = .pointer (some ⟨A, 0, none⟩) ∧ q = .pointer (some ⟨B, 0, none⟩) ∧ W.heap[A]? = some (motO 48 { a with v0 := a.v0 - rsc n0 (rfv J a.m), v1 := a.v1 - rsc n1 (rfv J a.m) }) ∧ W.heap[B]? = some (motO 48 { b with v0 := b.v0 + rsc n0 (rfv J b.m), v1 := b.v1 + rsc n1 (rfv J b.m) }) ∧ Below V.heap.size V W)
  case first =>
    by_cases hv : rvn a b n0 n1 < 0
    · have hvn := hF.out.vn
      have hj : flr (-rvn a b n0 n1 * (1024 + e)) (a.m + b.m) = J := by rw [hJ'.out]; unfold rj; rw [if_pos hv]
      have k1 := fun w => mulDiv_any (-rvn a b n0 n1) (1024 + e) (a.m + b.m) w hF.out.num.1 hF.out.num.2
      have k2 := fun w => mul_any J a.m w (by rw [hJ'.out]; exact hF.out.ja.1) (by rw [hJ'.out]; exact hF.out.ja.2)
      have k3 := fun w => mul_any J b.m w (by rw [hJ'.out]; exact hF.out.jb.1) (by rw [hJ'.out]; exact hF.out.jb.2)
      have k4 := fun w h1 h2 => pushV_any A B a b n0 n1 (rfv J a.m) (rfv J b.m) w h1 h2 hlt'.out.1 (by unfold Bd; omega) (by unfold Bd; omega) (by rw [hJ'.out]; exact hF.out.fa) (by rw [hJ'.out]; exact hF.out.fb)
        (by rw [hJ'.out]; have := hF.out.a0; unfold Bd; omega) (by rw [hJ'.out]; have := hF.out.a1; unfold Bd; omega) (by rw [hJ'.out]; have := hF.out.b0; unfold Bd; omega) (by rw [hJ'.out]; have := hF.out.b1; unfold Bd; omega)
        (by have := hdom.out.1.v0; unfold Bd; omega) (by have := hdom.out.1.v1; unfold Bd; omega) (by have := hdom.out.2.v0; unfold Bd; omega) (by have := hdom.out.2.v1; unfold Bd; omega)
      rw [hj] at k1
      rw [show flr (J * a.m) 1024 = rfv J a.m from rfl] at k2
      rw [show flr (J * b.m) 1024 = rfv J b.m from rfl] at k3
      have hk := Lib.hid (And.intro k1 (And.intro k2 (And.intro k3 k4)))
      clear k1 k2 k3 k4 hj
      go_wp2_with fail
      refine (hk.out.1 _).mono ?_
      rintro e' w' ⟨rfl, k, rfl⟩
      have hb4 := below_drewN wq k
      have D4 := Lib.hid (D3.out.carry hb4)
      have hA4 := Lib.hid (hcarry hb4 hA3.out)
      have hB4 := Lib.hid (hcarry hb4 hB3.out)
      have hbb := Lib.hid (below_step hb3.out hb4)
      obtain ⟨-, -, -, -, a4⟩ := mo_cells D4.out.a
      obtain ⟨-, -, -, -, b4⟩ := mo_cells D4.out.b
      obtain ⟨c0, c1, -⟩ := con_cells D4.out.c
      clear hb4
      go_upto_region 8 with fail
      generalize wq.drewN k = V4 at *
      have hmf : ∀ (fn : Fn) (first cap : Array Value) (w : World), (Instr.makeFunc fn first cap).run Try.prog w = .ok (.func fn first cap) w := fun _ _ _ _ => rfl
      generalize rfv J a.m = fa at *
      generalize rfv J b.m = fb at *
      refine wp_region_tail 12 (by kernel_rfl) (by kernel_rfl) ?_
      intro W hK
      have g_a4 := fun x => carry ((hK.below x)) a4
      have g_b4 := fun x => carry ((hK.below x)) b4
      have g_c0 := fun x => carry ((hK.below x)) c0
      have g_c1 := fun x => carry ((hK.below x)) c1
      simp only [List.take_succ_cons, List.take_zero, List.drop_succ_cons, List.drop_zero]
      repeat (go_big_quiet_step ((first | (go_at_call 28; with_reducible exact met_drawn (hk.out.2.1 _)) | (go_at_call 28; with_reducible exact met_drawn (hk.out.2.2.1 _)))))
      refine wpQuiet_nil ?_
      intro wq hw'
      have hbq := kept_in hK hw'
      clear g_a4 g_b4 g_c0 g_c1
      clear hw' hK W
      replace a4 := carry (hbq) a4
      replace b4 := carry (hbq) b4
      replace c0 := carry (hbq) c0
      replace c1 := carry (hbq) c1
      go_wp2_with fail
      refine (hk.out.2.2.2 _ (hcarry hbq hA4.out) (hcarry hbq hB4.out)).mono ?_
      rintro e' w5 ⟨rfl, hA5, hB5, hT⟩
      have hb5 := (below_step hbb.out hbq).trans (hT.below (B := V.heap.size) (fun i hi => by have := hlt'.out.2; omega) (below_step hbb.out hbq).size)
      have hend := Lib.hid (And.intro hA5 (And.intro hB5 hb5))
      clear hA5 hB5 hT hb5 hbq a4 b4 c0 c1 hmf
      go_wp2_with fail
      go_meet
      exact ⟨rfl, rfl, hend.out⟩
    · have hJ0 : J = 0 := by rw [hJ'.out]; unfold rj; rw [if_neg hv]
      have hJ0' := Lib.hid hJ0
      clear hJ0
      go_wp2_with fail
      go_meet
      have hJ0 := hJ0'.out
      rw [hJ0, zero_rfv, zero_rfv, rsc_zero, rsc_zero]
      simp only [Int.sub_zero, Int.add_zero]
      exact ⟨trivial, trivial, hA3.out, hB3.out, hb3.out⟩
  obtain ⟨rfl, rfl, hA, hBk, hb1⟩ := hcut
  obtain ⟨V5, hV5⟩ : ∃ V, V = wc := ⟨wc, rfl⟩
  subst hV5
  have D5 := Lib.hid (D'.out.carry hb1)
  have hA5 := Lib.hid hA
  have hB5 := Lib.hid hBk
  have hb5 := Lib.hid hb1
  clear hA hBk hb1 D2 D3 hA3 hB3 hb3
  obtain ⟨-, -, -, -, a4⟩ := mo_cells D5.out.a
  obtain ⟨-, -, -, -, b4⟩ := mo_cells D5.out.b
  obtain ⟨c0, c1, c2⟩ := con_cells D5.out.c
  have k1 := fun w => mulDiv_any d a.m (a.m + b.m) w hF.out.da.1 hF.out.da.2
  have k2 := fun w => mulDiv_any d b.m (a.m + b.m) w hF.out.db.1 hF.out.db.2
  have k3 := fun w h1 h2 => pushP_any A B { a with v0 := a.v0 - rsc n0 (rfv J a.m), v1 := a.v1 - rsc n1 (rfv J a.m) } { b with v0 := b.v0 + rsc n0 (rfv J b.m), v1 := b.v1 + rsc n1 (rfv J b.m) } n0 n1 (rfp d a.m (a.m + b.m)) (rfp d b.m (a.m + b.m)) w h1 h2 hlt'.out.1 (by unfold Bd; omega) (by unfold Bd; omega) hF.out.pa hF.out.pb
    (by have := hF.out.x0; unfold Bd; omega) (by have := hF.out.x1; unfold Bd; omega) (by have := hF.out.y0; unfold Bd; omega) (by have := hF.out.y1; unfold Bd; omega)
    (by have := hdom.out.1.p0; unfold Bd; simp only; omega) (by have := hdom.out.1.p1; unfold Bd; simp only; omega) (by have := hdom.out.2.p0; unfold Bd; simp only; omega) (by have := hdom.out.2.p1; unfold Bd; simp only; omega)
  rw [show flr (d * a.m) (a.m + b.m) = rfp d a.m (a.m + b.m) from rfl] at k1
  rw [show flr (d * b.m) (a.m + b.m) = rfp d b.m (a.m + b.m) from rfl] at k2
  have k4 := fun w h => clampB_any A { { a with v0 := a.v0 - rsc n0 (rfv J a.m), v1 := a.v1 - rsc n1 (rfv J a.m) } with p0 := a.p0 - rsc n0 (rfp d a.m (a.m + b.m)), p1 := a.p1 - rsc n1 (rfp d a.m (a.m + b.m)) } w h
  have k5 := fun w h => clampB_any B { { b with v0 := b.v0 + rsc n0 (rfv J b.m), v1 := b.v1 + rsc n1 (rfv J b.m) } with p0 := b.p0 + rsc n0 (rfp d b.m (a.m + b.m)), p1 := b.p1 + rsc n1 (rfp d b.m (a.m + b.m)) } w h
  simp only at k3 k4 k5
  have hRR := hR'.out
  rw [← hJ'.out] at hRR
  rw [hRR.1] at k4
  rw [hRR.2] at k5
  have hk := Lib.hid (And.intro k1 (And.intro k2 (And.intro k3 (And.intro k4 k5))))
  clear k1 k2 k3 k4 k5 hRR
  have hmf : ∀ (fn : Fn) (first cap : Array Value) (w : World), (Instr.makeFunc fn first cap).run Try.prog w = .ok (.func fn first cap) w := fun _ _ _ _ => rfl
  generalize rfp d a.m (a.m + b.m) = fa at *
  generalize rfp d b.m (a.m + b.m) = fb at *
  go_upto_region 9 with fail
  refine wp_region_tail 16 (by kernel_rfl) (by kernel_rfl) ?_
  intro W hK
  have g_a4 := fun x => carry ((hK.below x)) a4
  have g_b4 := fun x => carry ((hK.below x)) b4
  have g_c0 := fun x => carry ((hK.below x)) c0
  have g_c1 := fun x => carry ((hK.below x)) c1
  have g_c2 := fun x => carry ((hK.below x)) c2
  simp only [List.take_succ_cons, List.take_zero, List.drop_succ_cons, List.drop_zero]
  repeat (go_big_quiet_step ((first | (go_at_call 26; with_reducible exact met_drawn (hk.out.1 _)) | (go_at_call 26; with_reducible exact met_drawn (hk.out.2.1 _)))))
  refine wpQuiet_nil ?_
  intro wq hw'
  have hbq := kept_in hK hw'
  clear g_a4 g_b4 g_c0 g_c1 g_c2
  clear hw' hK W
  replace a4 := carry (hbq) a4
  replace b4 := carry (hbq) b4
  replace c0 := carry (hbq) c0
  replace c1 := carry (hbq) c1
  replace c2 := carry (hbq) c2
  go_wp2_with fail
  refine (hk.out.2.2.1 _ (hcarry hbq hA5.out) (hcarry hbq hB5.out)).mono ?_
  rintro e' w6 ⟨rfl, hA6, hB6, hT⟩
  have hb6 := (below_step hb5.out hbq).trans (hT.below (B := V.heap.size) (fun i hi => by have := hlt'.out.2; omega) (below_step hb5.out hbq).size)
  have h6 := Lib.hid (And.intro hA6 (And.intro hB6 hb6))
  clear hA6 hB6 hT hb6 hbq a4 b4 c0 c1 c2 hmf hA5 hB5 hb5 D5
  go_wp2_with fail
  refine (hk.out.2.2.2.1 _ h6.out.1).mono ?_
  rintro e' w7 ⟨rfl, hA7, hT⟩
  have hb7 := h6.out.2.2.trans (hT.below (B := V.heap.size) (fun i hi => by have := hlt'.out.2; omega) h6.out.2.2.size)
  have h7 := Lib.hid (And.intro hA7 (And.intro (hT.at h6.out.2.1 (fun h => hlt'.out.1 h.symm)) hb7))
  clear hA7 hT hb7 h6
  go_wp2_with fail
  refine (hk.out.2.2.2.2 _ h7.out.2.1).mono ?_
  rintro e' w8 ⟨rfl, hB8, hT⟩
  have hb8 := h7.out.2.2.trans (hT.below (B := V.heap.size) (fun i hi => by have := hlt'.out.2; omega) h7.out.2.2.size)
  have h8 := Lib.hid (And.intro (hT.at h7.out.1 hlt'.out.1) (And.intro hB8 hb8))
  clear hB8 hT hb8 h7 hk
  go_upto_region 12 with fail
  have D8 := Lib.hid (D'.out.carry h8.out.2.2)
  obtain ⟨p0, p1, p2, p3, p4⟩ := mo_cells h8.out.1
  obtain ⟨q0, q1, q2, q3, q4⟩ := mo_cells h8.out.2.1
  obtain ⟨x0, x1, x2, x3, x4⟩ := mo_cells D8.out.x
  obtain ⟨y0, y1, y2, y3, y4⟩ := mo_cells D8.out.y
  have xf := mo_frozen D8.out.x
  have yf := mo_frozen D8.out.y
  have hVl := D'.out.lt
  have nax : ¬ A = w.heap.size + 1 + 1 + 1 := by have := hlt'.out.2; omega
  have nay : ¬ A = w.heap.size + 1 + 1 + 1 + 1 := by have := hlt'.out.2; omega
  have nbx : ¬ B = w.heap.size + 1 + 1 + 1 := by have := hlt'.out.2; omega
  have nby : ¬ B = w.heap.size + 1 + 1 + 1 + 1 := by have := hlt'.out.2; omega
  have hEnd := Lib.hid (below_step hB'.out (show Below V.heap.size V w8 from h8.out.2.2))
  clear hVl
  go_region
  go_wp2
  refine bodyPost_ret (v := .tuple #[.agg #[.int .i64 RA.p0, .int .i64 RA.p1, .int .i64 RA.v0, .int .i64 RA.v1, .int .i64 RA.m], .agg #[.int .i64 RB.p0, .int .i64 RB.p1, .int .i64 RB.v0, .int .i64 RB.v1, .int .i64 RB.m]]) (by simp [results, Try.results12, go_sem, x0, x1, x2, x3, x4, y0, y1, y2, y3, y4, xf, yf]) rfl ⟨rfl, ?_⟩
  repeat (first | with_reducible exact hEnd.out | with_reducible (refine Below.drew ?_) | with_reducible (refine Below.setCell ?_ (by simp only; omega) _))

/-- Resolve, whatever the motions. -/
theorem resolve_any (a b : Mo) (n0 n1 d e : Int) (w : World) (ha : a.Dom) (hb : b.Dom) (hn0 : -1024 ≤ n0 ∧ n0 ≤ 1024) (hn1 : -1024 ≤ n1 ∧ n1 ≤ 1024) (hd : 0 ≤ d ∧ d ≤ 1048576) (he : 0 ≤ e ∧ e ≤ 1024) (RA RB : Mo) (hRA : resA a b n0 n1 d e = RA) (hRB : resB a b n0 n1 d e = RB) :
    Calls Try.prog 12 #[.agg #[.int .i64 a.p0, .int .i64 a.p1, .int .i64 a.v0, .int .i64 a.v1, .int .i64 a.m], .agg #[.int .i64 b.p0, .int .i64 b.p1, .int .i64 b.v0, .int .i64 b.v1, .int .i64 b.m], .agg #[.int .i64 n0, .int .i64 n1, .int .i64 d], .int .i64 e] w fun E w' =>
      E = .returned (.tuple #[.agg #[.int .i64 RA.p0, .int .i64 RA.p1, .int .i64 RA.v0, .int .i64 RA.v1, .int .i64 RA.m], .agg #[.int .i64 RB.p0, .int .i64 RB.p1, .int .i64 RB.v0, .int .i64 RB.v1, .int .i64 RB.m]]) ∧ Below w.heap.size w w' := by
  by_cases ht : a.m + b.m = 0
  · rw [resA_none ht] at hRA
    rw [resB_none ht] at hRB
    subst hRA hRB
    exact resolve_none a b n0 n1 d e w ha hb ht
  · exact resolve_some a b n0 n1 d e w ha hb ht hn0 hn1 hd he RA RB hRA hRB
end Go.Proofs.Ytihoanoanoaneaa
