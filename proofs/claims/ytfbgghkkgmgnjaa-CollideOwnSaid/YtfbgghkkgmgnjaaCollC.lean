/- Package collide: the way toward a corner; the depth along an axis. -/
import Derived.Test.YtfbgghkkgmgnjaaCollB
import Derived.Laws.EntriesVeiled
namespace Go.Proofs.Ytfbgghkkgmgnjaa
open Go.ChangeShapes Go.WideShapes Go.ChangeAt Go.RowKit Go.Shelf
open Fxm
set_option linter.unusedSimpArgs false
set_option linter.unusedVariables false

/-- The way from the point c to the nearest vertex of the polygon at q. -/
def corner (vs : List (Int × Int)) (q c : Int × Int) : Int × Int := (q.1 + (at' vs (nearI vs q c)).1 - c.1, q.2 + (at' vs (nearI vs q c)).2 - c.2)

set_option maxHeartbeats 4000000 in
set_option maxRecDepth 100000 in
theorem toward_any (c0 c1 q0 q1 : Int) (g cap : Nat) (vs : List (Int × Int)) (w : World) (hR : Row w g cap vs) (hG : Gen vs) (ec0 : Be c0) (ec1 : Be c1) (eq0 : Be q0) (eq1 : Be q1) :
    Calls Try.prog 84 #[.agg #[.int .i64 c0, .int .i64 c1], .slice (some ⟨g, 0, none⟩) vs.length cap, .agg #[.int .i64 q0, .int .i64 q1]] w fun e w' =>
      e = .returned (.agg #[.int .i64 (corner vs (q0, q1) (c0, c1)).1, .int .i64 (corner vs (q0, q1) (c0, c1)).2]) ∧ Below w.heap.size w w' := by
  have hlo := hG.lo
  have hhi := hG.hi
  have hS := hG.small
  have hj : nearI vs (q0, q1) (c0, c1) < vs.length := by unfold nearI; exact Nat.lt_of_le_of_lt (bst_le _ _) (by omega)
  have kn := fun (bf : Nat) (W : World) (hRW : Row W g cap vs) K => nearest_any (fun v => sqd (q0 + v.1 - c0, q1 + v.2 - c1)) bf g cap vs W hRW hlo (by omega) K
  obtain ⟨j0, j1⟩ := hS _ hj
  have kw := fun w bq bc a b c d => way_any (at' vs (nearI vs (q0, q1) (c0, c1))).1 (at' vs (nearI vs (q0, q1) (c0, c1))).2 q0 q1 c0 c1 bq bc w a b c d eq0 eq1 ec0 ec1 j0 j1
  have kd := fun i (hi : i < vs.length) w bf bq bc h a b c d => dist_any (at' vs i).1 (at' vs i).2 q0 q1 c0 c1 bf bq bc w h a b c d eq0 eq1 ec0 ec1 (hS i hi).1 (hS i hi).2
  have hjn : bst (fun i => (fun v : Int × Int => sqd (q0 + v.1 - c0, q1 + v.2 - c1)) (at' vs i)) (vs.length - 1) = nearI vs (q0, q1) (c0, c1) := rfl
  rw [hjn] at kn
  clear hjn
  have hc1 : (corner vs (q0, q1) (c0, c1)).1 = q0 + (at' vs (nearI vs (q0, q1) (c0, c1))).1 - c0 := rfl
  have hc2 : (corner vs (q0, q1) (c0, c1)).2 = q1 + (at' vs (nearI vs (q0, q1) (c0, c1))).2 - c1 := rfl
  rw [← hc1, ← hc2] at kw
  clear hc1 hc2
  generalize (corner vs (q0, q1) (c0, c1)).1 = r1 at *
  generalize (corner vs (q0, q1) (c0, c1)).2 = r2 at *
  generalize (at' vs (nearI vs (q0, q1) (c0, c1))).1 = v0 at *
  generalize (at' vs (nearI vs (q0, q1) (c0, c1))).2 = v1 at *
  have hR' := Lib.hid hR
  have hk := Lib.hid (And.intro kn (And.intro kw kd))
  clear hR kn kw kd hS j0 j1 hj
  go_enter Try.func84, Try.ntmps84
  go_upto_region 2 with fail
  have hB := below_step (below_step (below_step (alloc_below w (.cells #[.int .i64 c0, .int .i64 c1] 28)) (alloc_below _ (.cells #[.int .i64 q0, .int .i64 q1] 28))) (alloc_below _ (.cells #[.int .i64 0, .int .i64 0] 28))) (alloc_below _ (.cells #[.func (.func 89) #[] #[.pointer (some ⟨w.heap.size + 1, 0, none⟩), .pointer (some ⟨w.heap.size, 0, none⟩)]] 70))
  obtain ⟨V, hV⟩ : ∃ V, V = (((w.alloc (.cells #[.int .i64 c0, .int .i64 c1] 28)).alloc (.cells #[.int .i64 q0, .int .i64 q1] 28)).alloc (.cells #[.int .i64 0, .int .i64 0] 28)).alloc (.cells #[.func (.func 89) #[] #[.pointer (some ⟨w.heap.size + 1, 0, none⟩), .pointer (some ⟨w.heap.size, 0, none⟩)]] 70) := ⟨_, rfl⟩
  have a0 : V.cell? ⟨w.heap.size, 0, none⟩ = some (.int .i64 c0) := by rw [hV]; simp [go_sem]
  have a1 : V.cell? ⟨w.heap.size, 1, none⟩ = some (.int .i64 c1) := by rw [hV]; simp [go_sem]
  have b0 : V.cell? ⟨w.heap.size + 1, 0, none⟩ = some (.int .i64 q0) := by rw [hV]; simp [go_sem]
  have b1 : V.cell? ⟨w.heap.size + 1, 1, none⟩ = some (.int .i64 q1) := by rw [hV]; simp [go_sem]
  have r0 : V.cell? ⟨w.heap.size + 1 + 1, 0, none⟩ = some (.int .i64 0) := by rw [hV]; simp [go_sem]
  have s0 : V.cell? ⟨w.heap.size + 1 + 1, 1, none⟩ = some (.int .i64 0) := by rw [hV]; simp [go_sem]
  have f0 : V.frozen? ⟨w.heap.size + 1 + 1, 0, none⟩ = false := by rw [hV]; simp [go_sem]
  have f1 : V.frozen? ⟨w.heap.size + 1 + 1, 1, none⟩ = false := by rw [hV]; simp [go_sem]
  have p0 : V.cell? ⟨w.heap.size + 1 + 1 + 1, 0, none⟩ = some (.func (.func 89) #[] #[.pointer (some ⟨w.heap.size + 1, 0, none⟩), .pointer (some ⟨w.heap.size, 0, none⟩)]) := by rw [hV]; simp [go_sem]
  rw [← hV] at hB ⊢
  clear hV
  have hRV := Lib.hid (hR'.out.carry hB)
  have n0 := block_lt_of_cell r0
  simp only at n0
  refine wp_region_tail 5 (by kernel_rfl) (by kernel_rfl) ?_
  intro W hK
  have g_a0 := fun x => carry ((hK.below x)) a0
  have g_a1 := fun x => carry ((hK.below x)) a1
  have g_b0 := fun x => carry ((hK.below x)) b0
  have g_b1 := fun x => carry ((hK.below x)) b1
  have g_r0 := fun x => carry ((hK.below x)) r0
  have g_s0 := fun x => carry ((hK.below x)) s0
  have g_p0 := fun x => carry ((hK.below x)) p0
  simp only [List.take_succ_cons, List.take_zero, List.drop_succ_cons, List.drop_zero]
  repeat (go_big_quiet_step ((first | (go_at_call 90; with_reducible exact met_made (hk.out.1 _ _ (hRV.out.carry (hK.below _)) (fun i hi W2 hb2 => hk.out.2.2 i hi W2 _ _ _ (carry hb2 (g_p0 _)) (carry hb2 (g_b0 _)) (carry hb2 (g_b1 _)) (carry hb2 (g_a0 _)) (carry hb2 (g_a1 _))))) | (go_at_call 89; with_reducible exact met_made (hk.out.2.1 _ _ _ (g_b0 _) (g_b1 _) (g_a0 _) (g_a1 _))))))
  refine wpQuiet_nil ?_
  intro wq hw'
  have hbq := kept_in hK hw'
  clear g_a0 g_a1 g_b0 g_b1 g_r0 g_s0 g_p0
  clear hw' hK W
  replace a0 := carry (hbq) a0
  replace a1 := carry (hbq) a1
  replace b0 := carry (hbq) b0
  replace b1 := carry (hbq) b1
  replace r0 := carry (hbq) r0
  replace s0 := carry (hbq) s0
  replace p0 := carry (hbq) p0
  have h0 := (hbq.frozen (p := ⟨w.heap.size + 1 + 1, 0, none⟩) n0).trans f0
  have h1 := (hbq.frozen (p := ⟨w.heap.size + 1 + 1, 1, none⟩) n0).trans f1
  clear f0 f1 a0 a1 b0 b1 p0 hRV
  go_wp2
  refine bodyPost_ret (v := .agg #[.int .i64 r1, .int .i64 r2]) (by simp [results, Try.results84, go_sem, r0, s0]) rfl ⟨rfl, ?_⟩
  exact ((below_step hB hbq).setCell (by first | (simp; done) | (simp; omega) | omega) _).setCell (by first | (simp; done) | (simp; omega) | omega) _

/-- The depth along the axis a of s at p and t at q. -/
def depthV (s t : Sp) (p q a : Int × Int) : Int := min (s.ph p.1 p.2 a.1 a.2) (t.ph q.1 q.2 a.1 a.2) - max (s.pl p.1 p.2 a.1 a.2) (t.pl q.1 q.2 a.1 a.2)

set_option maxHeartbeats 4000000 in
theorem depth_any (s t : Sp) (p0 p1 q0 q1 a0 a1 : Int) (w : World) (hs : Sh w s) (ht : Sh w t) (hp0 : Be p0) (hp1 : Be p1) (hq0 : Be q0) (hq1 : Be q1) (ha0 : Bd a0) (ha1 : Bd a1) :
    Calls Try.prog 46 #[.agg #[.int .i64 a0, .int .i64 a1], .agg #[.int .i64 s.r, .slice s.a s.n s.cap], .agg #[.int .i64 p0, .int .i64 p1], .agg #[.int .i64 t.r, .slice t.a t.n t.cap], .agg #[.int .i64 q0, .int .i64 q1]] w fun e w' =>
      e = .returned (.int .i64 (depthV s t (p0, p1) (q0, q1) (a0, a1))) ∧ Below w.heap.size w w' := by
  have k1 := fun w (h : Sh w s) => h.project p0 p1 a0 a1 hp0.bp hp1.bp ha0 ha1
  have k2 := fun w (h : Sh w t) => h.project q0 q1 a0 a1 hq0.bp hq1.bp ha0 ha1
  have d1 := hs.proj_bd hp0.bp hp1.bp ha0 ha1
  have d2 := ht.proj_bd hq0.bp hq1.bp ha0 ha1
  unfold depthV
  simp only
  generalize s.pl p0 p1 a0 a1 = sl at *
  generalize s.ph p0 p1 a0 a1 = sh at *
  generalize t.pl q0 q1 a0 a1 = tl at *
  generalize t.ph q0 q1 a0 a1 = th at *
  have hk := Lib.hid (And.intro k1 k2)
  have hd := Lib.hid (And.intro d1 d2)
  have hs' := Lib.hid hs
  have ht' := Lib.hid ht
  have hmn := min_if sh th
  have hmx := max_if sl tl
  obtain ⟨mn, hmn'⟩ : ∃ m, m = min sh th := ⟨_, rfl⟩
  obtain ⟨mx, hmx'⟩ : ∃ m, m = max sl tl := ⟨_, rfl⟩
  rw [← hmn'] at hmn ⊢
  rw [← hmx'] at hmx ⊢
  have hb1 : -9223372036854775808 ≤ mn - mx := by omega
  have hb2 : mn - mx ≤ 9223372036854775807 := by omega
  clear k1 k2 d1 d2 hs ht hmn' hmx'
  generalize s.r = sr at *
  generalize s.a = sa at *
  generalize s.n = sn at *
  generalize s.cap = sc at *
  generalize t.r = tr at *
  generalize t.a = ta at *
  generalize t.n = tn at *
  generalize t.cap = tc at *
  go_enter Try.func46, Try.ntmps46
  go_upto_region 1 with fail
  have hB := below_step (below_step (below_step (below_step (alloc_below w (.cells #[.int .i64 a0, .int .i64 a1] 28)) (alloc_below _ (.cells #[.int .i64 sr, .slice sa sn sc] 25))) (alloc_below _ (.cells #[.int .i64 p0, .int .i64 p1] 28))) (alloc_below _ (.cells #[.int .i64 tr, .slice ta tn tc] 25))) (alloc_below _ (.cells #[.int .i64 q0, .int .i64 q1] 28))
  obtain ⟨V, hV⟩ : ∃ V, V = ((((w.alloc (.cells #[.int .i64 a0, .int .i64 a1] 28)).alloc (.cells #[.int .i64 sr, .slice sa sn sc] 25)).alloc (.cells #[.int .i64 p0, .int .i64 p1] 28)).alloc (.cells #[.int .i64 tr, .slice ta tn tc] 25)).alloc (.cells #[.int .i64 q0, .int .i64 q1] 28) := ⟨_, rfl⟩
  have c0 : V.cell? ⟨w.heap.size, 0, none⟩ = some (.int .i64 a0) := by rw [hV]; simp [go_sem]
  have c1 : V.cell? ⟨w.heap.size, 1, none⟩ = some (.int .i64 a1) := by rw [hV]; simp [go_sem]
  have c2 : V.cell? ⟨w.heap.size + 1, 0, none⟩ = some (.int .i64 sr) := by rw [hV]; simp [go_sem]
  have c3 : V.cell? ⟨w.heap.size + 1, 1, none⟩ = some (.slice sa sn sc) := by rw [hV]; simp [go_sem]
  have c4 : V.cell? ⟨w.heap.size + 1 + 1, 0, none⟩ = some (.int .i64 p0) := by rw [hV]; simp [go_sem]
  have c5 : V.cell? ⟨w.heap.size + 1 + 1, 1, none⟩ = some (.int .i64 p1) := by rw [hV]; simp [go_sem]
  have c6 : V.cell? ⟨w.heap.size + 1 + 1 + 1, 0, none⟩ = some (.int .i64 tr) := by rw [hV]; simp [go_sem]
  have c7 : V.cell? ⟨w.heap.size + 1 + 1 + 1, 1, none⟩ = some (.slice ta tn tc) := by rw [hV]; simp [go_sem]
  have c8 : V.cell? ⟨w.heap.size + 1 + 1 + 1 + 1, 0, none⟩ = some (.int .i64 q0) := by rw [hV]; simp [go_sem]
  have c9 : V.cell? ⟨w.heap.size + 1 + 1 + 1 + 1, 1, none⟩ = some (.int .i64 q1) := by rw [hV]; simp [go_sem]
  rw [← hV] at hB ⊢
  clear hV
  have n0 := block_lt_of_cell c9
  simp only at n0
  go_wp2_with fail
  refine (hk.out.1 _ (hs'.out.carry hB)).mono ?_
  rintro e w1 ⟨rfl, hb1⟩
  replace c0 := carry (hb1) c0
  replace c1 := carry (hb1) c1
  replace c2 := carry (hb1) c2
  replace c3 := carry (hb1) c3
  replace c4 := carry (hb1) c4
  replace c5 := carry (hb1) c5
  replace c6 := carry (hb1) c6
  replace c7 := carry (hb1) c7
  replace c8 := carry (hb1) c8
  replace c9 := carry (hb1) c9
  replace hB := below_step hB hb1
  clear hb1
  go_wp2_with fail
  refine (hk.out.2 _ (ht'.out.carry hB)).mono ?_
  rintro e w2 ⟨rfl, hb1⟩
  replace hB := below_step hB hb1
  clear hb1
  go_wp2
  go_ret
  exact ⟨rfl, hB⟩
end Go.Proofs.Ytfbgghkkgmgnjaa
