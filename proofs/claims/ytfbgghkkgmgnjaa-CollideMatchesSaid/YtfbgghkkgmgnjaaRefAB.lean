/- The reference of package collide: axis, the edges' axes, nearest. -/
import Derived.Test.YtfbgghkkgmgnjaaCollM
import Derived.Test.YtfbgghkkgmgnjaaIter
import Derived.OwnWalk
namespace Go.Proofs.Ytfbgghkkgmgnjaa
open Go.ChangeShapes Go.WideShapes Go.ChangeAt Go.RowKit Go.Shelf
open Fxm
set_option linter.unusedSimpArgs false
set_option linter.unusedVariables false

theorem rnews (w : World) (cs : List Value) (t : TypeId) (n : Nat) (hn : n = w.heap.size) : ∀ j u, cs[j]? = some u → (w.alloc (.cells cs.toArray t)).cell? ((⟨n, 0, none⟩ : Addr).add j) = some u := fun j u hu => by
  subst hn
  exact World.news_of_block (World.alloc_heap_new w (.cells cs.toArray t)) j u (by simpa using hu)
set_option maxHeartbeats 2000000 in
theorem refAxis_any (x y : Int) (w : World) (hx : Bd x) (hy : Bd y) : Calls Try.prog 42 #[.agg #[.int .i64 x, .int .i64 y]] w fun e w' =>
    e = .returned (.agg #[.int .i64 (axV (x, y)).1, .int .i64 (axV (x, y)).2]) ∧ Below w.heap.size w w' := by
  have K := fun w => refNormalize_any x y w hx hy
  have hA : axV (x, y) = if (nrm (x, y)).1 = 0 ∧ (nrm (x, y)).2 = 0 then (1024, 0) else nrm (x, y) := rfl
  have h1 : (nrm (x, y)).1 = flr (x * 1024) (isq (x * x + y * y)) := rfl
  have h2 : (nrm (x, y)).2 = flr (y * 1024) (isq (x * x + y * y)) := rfl
  rw [← h1, ← h2] at K
  generalize nrm (x, y) = uv at *
  obtain ⟨u, v⟩ := uv
  simp only at hA K
  clear h1 h2
  generalize axV (x, y) = A at *
  have hk := Lib.hid K
  clear K
  have hC : ∃ b0 b1 : Bool, (u == 0) = b0 ∧ (v == 0) = b1 ∧ ((b0 = true ∧ b1 = true ∧ A = (1024, 0)) ∨ (b0 = true ∧ b1 = false ∧ A = (u, v)) ∨ (b0 = false ∧ A = (u, v))) := by
    refine ⟨_, _, rfl, rfl, ?_⟩
    rw [hA]
    by_cases h0 : u = 0 <;> by_cases h1 : v = 0 <;> simp [h0, h1]
  clear hA
  obtain ⟨b0, b1, hb0, hb1', hC⟩ := hC
  rcases hC with ⟨rfl, rfl, rfl⟩ | ⟨rfl, rfl, rfl⟩ | ⟨rfl, rfl⟩
  all_goals
    go_enter Try.func42, Try.ntmps42
    go_wp2_with fail
    refine (hk.out _).mono ?_
    rintro e w1 ⟨rfl, hb1⟩
    have r0 : w1.cell? ⟨w.heap.size + 1, 0, none⟩ = some (.int .i64 0) := carry hb1 (by simp [go_sem])
    have r1 : w1.cell? ⟨w.heap.size + 1, 1, none⟩ = some (.int .i64 0) := carry hb1 (by simp [go_sem])
    have f0 : w1.frozen? ⟨w.heap.size + 1, 0, none⟩ = false := (hb1.frozen (by simp)).trans (by simp [go_sem])
    have f1 : w1.frozen? ⟨w.heap.size + 1, 1, none⟩ = false := (hb1.frozen (by simp)).trans (by simp [go_sem])
    have hB := below_step (below_step (alloc_below w (.cells #[.int .i64 x, .int .i64 y] 28)) (alloc_below _ (.cells #[.int .i64 0, .int .i64 0] 28))) hb1
    clear hb1
    go_upto_region 2 with fail
    obtain ⟨V, hV⟩ : ∃ V, V = w1.alloc (.cells #[.int .i64 u, .int .i64 v] 28) := ⟨_, rfl⟩
    have hb := alloc_below w1 (.cells #[.int .i64 u, .int .i64 v] 28)
    have a0 := World.cell?_alloc_new (w := w1) #[.int .i64 u, .int .i64 v] 28 0
    have a1 := World.cell?_alloc_new (w := w1) #[.int .i64 u, .int .i64 v] 28 1
    rw [← hV] at hb a0 a1 ⊢
    clear hV
    simp only [List.getElem?_toArray, List.getElem?_cons_zero, List.getElem?_cons_succ] at a0 a1
    have n1 := block_lt_of_cell r0
    simp only at n1
    have g0 := (hb.frozen (p := ⟨w.heap.size + 1, 0, none⟩) n1).trans f0
    have g1 := (hb.frozen (p := ⟨w.heap.size + 1, 1, none⟩) n1).trans f1
    replace r0 := carry hb r0
    replace r1 := carry hb r1
    replace hB := below_step hB hb
    clear f0 f1
    go_wp2
    all_goals first
      | (refine bodyPost_ret (v := .agg #[.int .i64 1024, .int .i64 0]) (by simp [results, Try.results42, go_sem, r0, r1]; done) rfl ⟨rfl, ?_⟩; exact (hB.setCell (by first | (simp; done) | (simp; omega) | omega) _).setCell (by first | (simp; done) | (simp; omega) | omega) _)
      | (refine bodyPost_ret (v := .agg #[.int .i64 u, .int .i64 v]) (by simp [results, Try.results42, go_sem, r0, r1] <;> omega) rfl ⟨rfl, ?_⟩; exact (hB.setCell (by first | (simp; done) | (simp; omega) | omega) _).setCell (by first | (simp; done) | (simp; omega) | omega) _)

/-- The axes of a shape's edges. -/
def edgA (vs : List (Int × Int)) (i : Nat) : Int × Int := axV (edgeD vs i)
theorem refEdgesC_any (r : Int) (w : World) : Calls Try.prog 41 #[.agg #[.int .i64 r, .slice none 0 0]] w fun e w' => e = .returned (.slice none 0 0) ∧ Below w.heap.size w w' := by
  go_enter Try.func41, Try.ntmps41
  go_wp2_with fail
  have hB := alloc_below w (.cells #[.int .i64 r, .slice none 0 0] 25)
  go_loopw [3, 4] (fun v i wr => v = .slice none 0 0 ∧ i = .int .i64 0 ∧ wr = w.alloc (.cells #[.int .i64 r, .slice none 0 0] 25)) (fun _ _ _ => 0)
  case atStart => exact ⟨rfl, rfl, rfl⟩
  case round =>
    obtain ⟨rfl, rfl, rfl⟩ := hrel
    go_wp2
    go_ret
    exact ⟨rfl, hB⟩
set_option maxHeartbeats 4000000 in
set_option maxRecDepth 100000 in
theorem refEdgesP_any (g cap : Nat) (vs : List (Int × Int)) (w : World) (hR : Row w g cap vs) (hG : Gen vs) :
    Calls Try.prog 41 #[.agg #[.int .i64 0, .slice (some ⟨g, 0, none⟩) vs.length cap]] w fun e w' => (∃ v, e = .returned v ∧ w'.ownsRow w.heap.size 28 2 v vs.length (flatV (lst (edgA vs) vs.length))) ∧ Below w.heap.size w w' := by
  obtain ⟨i0, hi0, hz0, hz1, hz2⟩ := info_parts vinfo
  have hi0' := Lib.hid hi0; clear hi0
  have hz0' := Lib.hid hz0; clear hz0
  have hz1' := Lib.hid hz1; clear hz1
  have hz2' := Lib.hid hz2; clear hz2
  have hcap := hR.le
  have hmax := hR.max
  have hl := hG.lo
  have hh := hG.hi
  unfold maxLen at hmax
  have hS' := Lib.hid hG.small
  have hlb : (vs.length : Int) ≤ 1000 := by omega
  have hB := alloc_below w (.cells #[.int .i64 0, .slice (some ⟨g, 0, none⟩) vs.length cap] 25)
  have c2 : (w.alloc (.cells #[.int .i64 0, .slice (some ⟨g, 0, none⟩) vs.length cap] 25)).cell? ⟨w.heap.size, 1, none⟩ = some (.slice (some ⟨g, 0, none⟩) vs.length cap) := by simp
  have hRV := Lib.hid (hR.carry hB)
  have hVz : w.heap.size ≤ (w.alloc (.cells #[.int .i64 0, .slice (some ⟨g, 0, none⟩) vs.length cap] 25)).heap.size := by simp
  clear hR hG
  go_enter Try.func41, Try.ntmps41
  go_upto_region 1 with fail
  generalize w.alloc (.cells #[.int .i64 0, .slice (some ⟨g, 0, none⟩) vs.length cap] 25) = V at *
  go_wp2_with fail
  go_loopw [3, 4] (fun v i wr => ∃ c : Nat, c ≤ vs.length ∧ i = .int .i64 c ∧ wr.ownsRow V.heap.size 28 2 v c (flatV (lst (edgA vs) c)) ∧ Below V.heap.size V wr) (fun _ i _ => vs.length - (intOf i).toNat)
  case atStart => exact ⟨0, Nat.zero_le _, rfl, World.ownsRow_nil _ _ _ _, Below.refl _ _⟩
  case round =>
    obtain ⟨c, hc, rfl, hown, hbl⟩ := hrel
    replace c2 := carry hbl c2
    by_cases hlt : c < vs.length
    · have hRr := hRV.out.carry hbl
      obtain ⟨m, hm⟩ : ∃ m, m = (c + 1) % vs.length := ⟨_, rfl⟩
      have hmlt : m < vs.length := by rw [hm]; exact Nat.mod_lt _ (by omega)
      have hmod : ((c : Int) + 1) % (vs.length : Int) = (m : Int) := by rw [hm]; push_cast; rfl
      obtain ⟨vx, vy⟩ := hRr.at hlt
      obtain ⟨ux, uy⟩ := hRr.at hmlt
      have sc := hS'.out c hlt
      have sm := hS'.out m hmlt
      have hE : edgA vs c = axV ((at' vs m).2 - (at' vs c).2, (at' vs c).1 - (at' vs m).1) := by
        unfold edgA edgeD; rw [← hm]
      obtain ⟨v0, hv0⟩ : ∃ x, x = (at' vs c).1 := ⟨_, rfl⟩
      obtain ⟨v1, hv1⟩ : ∃ x, x = (at' vs c).2 := ⟨_, rfl⟩
      obtain ⟨u0, hu0⟩ : ∃ x, x = (at' vs m).1 := ⟨_, rfl⟩
      obtain ⟨u1, hu1⟩ : ∃ x, x = (at' vs m).2 := ⟨_, rfl⟩
      rw [← hv0] at vx sc hE
      rw [← hv1] at vy sc hE
      rw [← hu0] at ux sm hE
      rw [← hu1] at uy sm hE
      have K := fun w => refAxis_any (u1 - v1) (v0 - u0) w (by unfold Bd; omega) (by unfold Bd; omega)
      rw [← hE] at K
      have x1 : -65536 ≤ u1 - v1 ∧ u1 - v1 ≤ 65536 := by omega
      have y1 : -65536 ≤ v0 - u0 ∧ v0 - u0 ≤ 65536 := by omega
      obtain ⟨z0, hz0⟩ : ∃ z, z = (edgA vs c).1 := ⟨_, rfl⟩
      obtain ⟨z1, hz1⟩ : ∃ z, z = (edgA vs c).2 := ⟨_, rfl⟩
      rw [← hz0, ← hz1] at K
      have hKl := Lib.hid K
      have hzz := Lib.hid (And.intro hz0 hz1)
      have hls := Lib.hid (lst_succ (edgA vs) c)
      have hwr : IntKind.i64.wrap ((c : Int) + 1) = (c : Int) + 1 := IntWalk.i64_in _ (by omega)
      have hclt : (c : Int) < (vs.length : Int) := by omega
      have hmlt' : (m : Int) < (vs.length : Int) := by omega
      have hm0 : (0 : Int) ≤ (m : Int) := by omega
      have hws := hbl.size
      clear hm K hE hRr sc sm hv0 hv1 hu0 hu1 hz0 hz1
      go_upto_region 6 with fail
      have s0 := World.cell?_alloc_new (w := wr) #[.int .i64 v0, .int .i64 v1] 28 0
      have s1 := World.cell?_alloc_new (w := wr) #[.int .i64 v0, .int .i64 v1] 28 1
      simp only [List.getElem?_toArray, List.getElem?_cons_zero, List.getElem?_cons_succ] at s0 s1
      have hb1 := alloc_below wr (.cells #[.int .i64 v0, .int .i64 v1] 28)
      generalize wr.alloc (.cells #[.int .i64 v0, .int .i64 v1] 28) = X1 at *
      replace c2 := carry (hb1) c2
      replace vx := carry (hb1) vx
      replace vy := carry (hb1) vy
      replace ux := carry (hb1) ux
      replace uy := carry (hb1) uy
      replace hown := own_other hown (grown_of_below hb1) (fun r e => by cases e)
      replace hbl := below_step hbl hb1
      clear hb1
      refine wp_region_alloc_last 10 (some 6) (.cells #[.int .i64 0, .int .i64 0] 28) (by kernel_rfl) (by kernel_rfl) ⟨_, rfl, rfl, fun _ => rfl, fun _ _ => by kernel_rfl⟩ ?_
      apply Exists.intro
      refine ⟨fun W hK E hE => ?_, ?_⟩
      · skip
        have g_c2 := fun x => carry ((hK.below x)) c2
        have g_ux := fun x => carry ((hK.below x)) ux
        have g_uy := fun x => carry ((hK.below x)) uy
        simp only [List.take_succ_cons, List.take_zero]
        repeat (go_big_quiet_step ((fail)))
        refine wpQuiet_nil ?_
        exact hE
      intro B wq hBB hbq hheap
      simp only [List.drop_succ_cons, List.drop_zero, Act.put, List.setIfInBounds_toArray, List.set_cons_zero, List.set_cons_succ]
      have hstep := (hbq.setCell (p := ⟨B, 0, none⟩) hBB (.int .i64 (u0))).setCell (p := ⟨B, 1, none⟩) hBB (.int .i64 (u1))
      replace c2 := carry (hstep) c2
      replace s0 := carry (hstep) s0
      replace s1 := carry (hstep) s1
      have hh := heap_setCell (heap_setCell hheap 0 (.int .i64 (u0))) 1 (.int .i64 (u1))
      have vn0 := heap_cell hh 0
      have vn1 := heap_cell hh 1
      simp at vn0 vn1
      have hcB := heap_cell hheap
      have hfB := heap_frozen hheap
      clear hh hheap
      go_upto_region 7 with fail
      generalize (wq.setCell ⟨B, 0, none⟩ (.int .i64 u0)).setCell ⟨B, 1, none⟩ (.int .i64 u1) = X2 at *
      replace hown := own_other hown (grown_of_below hstep) (fun r e => by cases e)
      replace hbl := below_step hbl hstep
      clear hcB hfB hstep hbq hBB hwr hmod hclt hmlt' hm0 vx vy ux uy
      go_wp2_with fail
      refine (hKl.out _).mono ?_
      rintro e X3 ⟨rfl, hb3⟩
      replace hown := own_other hown (grown_of_below hb3) (fun r e => by cases e)
      replace hbl := below_step hbl hb3
      have hwz := hbl.size
      clear hb3 s0 s1 vn0 vn1
      go_wp2_with (at_builtin; refine wpList_append_own _ rfl _ _ 23 rfl V.heap.size 28 i0 _ 2 16 Try.underlying23 hi0'.out hz0'.out hz1'.out hz2'.out rfl (by decide) _ _ _ rfl (World.ownsRow.alloc hown _) ⟨X3.heap.size, 0, none⟩ 1 1 [.int .i64 z0, .int .i64 z1] rfl rfl (rnews _ _ _ _ rfl) (by simp [Value.oneCell']) (by unfold maxLen; omega) (by omega) (by simp; omega) ?_; intro v' X4 hown2 hg2 _)
      have hB2 := (below_step hbl (alloc_below X3 _)).grown hg2 (by simp; omega) (fun j hj => (World.ownsRow.lt hown j hj).1)
      go_wp2_with fail
      go_roundw
      case rel => exact ⟨c + 1, by omega, by go_num, by rw [hls.out, flatV_append, flat_one, ← hzz.out.1, ← hzz.out.2]; exact hown2, hB2⟩
      case measure => simp [intOf]; omega
    · obtain rfl : c = vs.length := by omega
      go_wp2
      go_ret
      exact ⟨⟨_, rfl, own_mono hown hVz⟩, below_step hB hbl⟩


def vecO (x y : Int) : Obj := .cells #[.int .i64 x, .int .i64 y] 28
theorem vec_cells {W : World} {B : Nat} {x y : Int} (h : W.heap[B]? = some (vecO x y)) : W.cell? ⟨B, 0, none⟩ = some (.int .i64 x) ∧ W.cell? ⟨B, 1, none⟩ = some (.int .i64 y) := by
  have h0 := heap_cell h 0
  have h1 := heap_cell h 1
  simp only [List.getElem?_toArray, List.getElem?_cons_zero, List.getElem?_cons_succ] at h0 h1
  exact ⟨h0, h1⟩
theorem vec_store {W : World} {B : Nat} {x y : Int} (h : W.heap[B]? = some (vecO x y)) (a b : Int) : ((W.setCell ⟨B, 0, none⟩ (.int .i64 a)).setCell ⟨B, 1, none⟩ (.int .i64 b)).heap[B]? = some (vecO a b) := by
  have := heap_setCell (heap_setCell h 0 (.int .i64 a)) 1 (.int .i64 b)
  simpa [vecO] using this
theorem rset2 {W : World} {k : Nat} {o : Obj} (B : Nat) (x y : Value) (h : W.heap[k]? = some o) (hn : k ≠ B) : ((W.setCell ⟨B, 0, none⟩ x).setCell ⟨B, 1, none⟩ y).heap[k]? = some o :=
  (Below.heap_setCell _ _ _ _ hn).trans ((Below.heap_setCell _ _ _ _ hn).trans h)
theorem rcarry {W W' : World} (hb : Below W.heap.size W W') {k : Nat} {o : Obj} (h : W.heap[k]? = some o) : W'.heap[k]? = some o := (hb.block _ (Array.getElem?_eq_some_iff.1 h).1).trans h
theorem sqd_bd {d0 d1 : Int} (h0 : -134217728 ≤ d0 ∧ d0 ≤ 134217728) (h1 : -134217728 ≤ d1 ∧ d1 ≤ 134217728) : 0 ≤ d0 * d0 + d1 * d1 ∧ d0 * d0 + d1 * d1 ≤ 36028797018963968 ∧ d0 * d0 ≤ 18014398509481984 ∧ d1 * d1 ≤ 18014398509481984 ∧ 0 ≤ d0 * d0 ∧ 0 ≤ d1 * d1 := by
  have a0 := prod27 (a := d0) (b := d0) h0.1 h0.2 h0.1 h0.2
  have a1 := prod27 (a := d1) (b := d1) h1.1 h1.2 h1.1 h1.2
  have n0 := Vcm.mul_self_nonneg d0
  have n1 := Vcm.mul_self_nonneg d1
  omega
/-- What the search knows after k vertices: the least square, the point of it. -/
def Best (F : Nat → Int) (P : Nat → Int × Int) (k : Nat) (l x y : Int) : Prop := (k = 0 ∧ l = -1) ∨ ∃ j, k = j + 1 ∧ l = F (bst F j) ∧ x = (P (bst F j)).1 ∧ y = (P (bst F j)).2
theorem Best.new {F : Nat → Int} {P : Nat → Int × Int} {k : Nat} {l x y : Int} (h : Best F P k l x y) (hl : l < 0 ∨ F k < l) (h0 : ∀ i, 0 ≤ F i) : Best F P (k + 1) (F k) (P k).1 (P k).2 := by
  rcases h with ⟨rfl, rfl⟩ | ⟨j, rfl, h1, h2, h3⟩
  · exact .inr ⟨0, rfl, rfl, rfl, rfl⟩
  · have : F (j + 1) < F (bst F j) := by
      rcases hl with hl | hl
      · have := h0 (bst F j); omega
      · omega
    exact .inr ⟨j + 1, rfl, by rw [bst_yes this], by rw [bst_yes this], by rw [bst_yes this]⟩
theorem Best.same {F : Nat → Int} {P : Nat → Int × Int} {k : Nat} {l x y : Int} (h : Best F P k l x y) (h1 : ¬ l < 0) (h2 : ¬ F k < l) : Best F P (k + 1) l x y := by
  rcases h with ⟨rfl, rfl⟩ | ⟨j, rfl, e1, e2, e3⟩
  · omega
  · have : ¬ F (j + 1) < F (bst F j) := by omega
    exact .inr ⟨j + 1, rfl, by rw [bst_no this]; exact e1, by rw [bst_no this]; exact e2, by rw [bst_no this]; exact e3⟩
def nearF (vs : List (Int × Int)) (q c : Int × Int) (i : Nat) : Int := sqd (q.1 + (at' vs i).1 - c.1, q.2 + (at' vs i).2 - c.2)
def nearP (vs : List (Int × Int)) (q : Int × Int) (i : Nat) : Int × Int := (q.1 + (at' vs i).1, q.2 + (at' vs i).2)

set_option maxHeartbeats 8000000 in
set_option maxRecDepth 100000 in
theorem refNearest_any (g cap : Nat) (vs : List (Int × Int)) (q0 q1 c0 c1 : Int) (w : World) (hR : Row w g cap vs) (hG : Gen vs) (eq0 : Be q0) (eq1 : Be q1) (ec0 : Be c0) (ec1 : Be c1) :
    Calls Try.prog 44 #[.agg #[.int .i64 0, .slice (some ⟨g, 0, none⟩) vs.length cap], .agg #[.int .i64 q0, .int .i64 q1], .agg #[.int .i64 c0, .int .i64 c1]] w fun e w' =>
      e = .returned (.agg #[.int .i64 (nearP vs (q0, q1) (nearI vs (q0, q1) (c0, c1))).1, .int .i64 (nearP vs (q0, q1) (nearI vs (q0, q1) (c0, c1))).2]) ∧ Below w.heap.size w w' := by
  have hcap := hR.le
  have hmax := hR.max
  have hl := hG.lo
  have hh := hG.hi
  unfold maxLen at hmax
  have hS' := Lib.hid hG.small
  have hlb : (vs.length : Int) ≤ 1000 := by omega
  have hI : nearI vs (q0, q1) (c0, c1) = bst (nearF vs (q0, q1) (c0, c1)) (vs.length - 1) := rfl
  rw [hI]
  have hFn : ∀ i, 0 ≤ nearF vs (q0, q1) (c0, c1) i := fun i => by
    unfold nearF sqd
    have n0 := Vcm.mul_self_nonneg (q0 + (at' vs i).1 - c0)
    have n1 := Vcm.mul_self_nonneg (q1 + (at' vs i).2 - c1)
    simp only
    omega
  have hFv : ∀ i, nearF vs (q0, q1) (c0, c1) i = sqd (q0 + (at' vs i).1 - c0, q1 + (at' vs i).2 - c1) := fun i => rfl
  have hPv : ∀ i, nearP vs (q0, q1) i = (q0 + (at' vs i).1, q1 + (at' vs i).2) := fun i => rfl
  generalize nearF vs (q0, q1) (c0, c1) = F at *
  generalize nearP vs (q0, q1) = P at *
  have hFP := Lib.hid (And.intro hFn (And.intro hFv hPv))
  clear hFn hFv hPv hI
  have hV' : ∃ V, V = ((((w.alloc (.cells #[.int .i64 0, .slice (some ⟨g, 0, none⟩) vs.length cap] 25)).alloc (vecO q0 q1)).alloc (vecO c0 c1)).alloc (vecO 0 0)).alloc (vecO 0 0) := ⟨_, rfl⟩
  obtain ⟨V, hV⟩ := hV'
  have hB : Below w.heap.size w V := by rw [hV]; exact below_step (below_step (below_step (below_step (alloc_below _ _) (alloc_below _ _)) (alloc_below _ _)) (alloc_below _ _)) (alloc_below _ _)
  have n0 := World.alloc_heap_new w (.cells #[.int .i64 0, .slice (some ⟨g, 0, none⟩) vs.length cap] 25)
  have n1 := World.alloc_heap_new (w.alloc (.cells #[.int .i64 0, .slice (some ⟨g, 0, none⟩) vs.length cap] 25)) (vecO q0 q1)
  have n2 := World.alloc_heap_new ((w.alloc (.cells #[.int .i64 0, .slice (some ⟨g, 0, none⟩) vs.length cap] 25)).alloc (vecO q0 q1)) (vecO c0 c1)
  have n3 := World.alloc_heap_new (((w.alloc (.cells #[.int .i64 0, .slice (some ⟨g, 0, none⟩) vs.length cap] 25)).alloc (vecO q0 q1)).alloc (vecO c0 c1)) (vecO 0 0)
  have n4 := World.alloc_heap_new ((((w.alloc (.cells #[.int .i64 0, .slice (some ⟨g, 0, none⟩) vs.length cap] 25)).alloc (vecO q0 q1)).alloc (vecO c0 c1)).alloc (vecO 0 0)) (vecO 0 0)
  simp only [World.size_alloc] at n1 n2 n3 n4
  have o0 := rcarry (alloc_below ((((w.alloc (.cells #[.int .i64 0, .slice (some ⟨g, 0, none⟩) vs.length cap] 25)).alloc (vecO q0 q1)).alloc (vecO c0 c1)).alloc (vecO 0 0)) (vecO 0 0)) (rcarry (alloc_below (((w.alloc (.cells #[.int .i64 0, .slice (some ⟨g, 0, none⟩) vs.length cap] 25)).alloc (vecO q0 q1)).alloc (vecO c0 c1)) (vecO 0 0)) (rcarry (alloc_below ((w.alloc (.cells #[.int .i64 0, .slice (some ⟨g, 0, none⟩) vs.length cap] 25)).alloc (vecO q0 q1)) (vecO c0 c1)) (rcarry (alloc_below (w.alloc (.cells #[.int .i64 0, .slice (some ⟨g, 0, none⟩) vs.length cap] 25)) (vecO q0 q1)) n0)))
  have o1 := rcarry (alloc_below ((((w.alloc (.cells #[.int .i64 0, .slice (some ⟨g, 0, none⟩) vs.length cap] 25)).alloc (vecO q0 q1)).alloc (vecO c0 c1)).alloc (vecO 0 0)) (vecO 0 0)) (rcarry (alloc_below (((w.alloc (.cells #[.int .i64 0, .slice (some ⟨g, 0, none⟩) vs.length cap] 25)).alloc (vecO q0 q1)).alloc (vecO c0 c1)) (vecO 0 0)) (rcarry (alloc_below ((w.alloc (.cells #[.int .i64 0, .slice (some ⟨g, 0, none⟩) vs.length cap] 25)).alloc (vecO q0 q1)) (vecO c0 c1)) n1))
  have o2 := rcarry (alloc_below ((((w.alloc (.cells #[.int .i64 0, .slice (some ⟨g, 0, none⟩) vs.length cap] 25)).alloc (vecO q0 q1)).alloc (vecO c0 c1)).alloc (vecO 0 0)) (vecO 0 0)) (rcarry (alloc_below (((w.alloc (.cells #[.int .i64 0, .slice (some ⟨g, 0, none⟩) vs.length cap] 25)).alloc (vecO q0 q1)).alloc (vecO c0 c1)) (vecO 0 0)) n2)
  have o3 := rcarry (alloc_below ((((w.alloc (.cells #[.int .i64 0, .slice (some ⟨g, 0, none⟩) vs.length cap] 25)).alloc (vecO q0 q1)).alloc (vecO c0 c1)).alloc (vecO 0 0)) (vecO 0 0)) n3
  have o4 := n4
  rw [← hV] at o0 o1 o2 o3 o4
  clear n0 n1 n2 n3 n4
  have hVl := Lib.hid hV
  have hgw : g < w.heap.size := by have := block_lt_of_cell (hR.at (i := 0) (by omega)).1; exact this
  have hRV := Lib.hid (hR.carry hB)
  clear hV hR hG
  go_enter Try.func44, Try.ntmps44
  go_upto_region 2 with fail
  rw [show ((((w.alloc (.cells #[.int .i64 0, .slice (some ⟨g, 0, none⟩) vs.length cap] 25)).alloc (.cells #[.int .i64 q0, .int .i64 q1] 28)).alloc (.cells #[.int .i64 c0, .int .i64 c1] 28)).alloc (.cells #[.int .i64 0, .int .i64 0] 28)).alloc (.cells #[.int .i64 0, .int .i64 0] 28) = V from hVl.out.symm]
  clear hVl
  go_wp2_with fail
  go_loopw [8, 9] (fun l i wr => ∃ (k : Nat) (L x y : Int), k ≤ vs.length ∧ i = .int .i64 k ∧ l = .int .i64 L ∧ Best F P k L x y ∧ wr.heap[w.heap.size + 1 + 1 + 1 + 1]? = some (vecO x y) ∧ wr.heap[w.heap.size]? = some (.cells #[.int .i64 0, .slice (some ⟨g, 0, none⟩) vs.length cap] 25) ∧
    wr.heap[w.heap.size + 1]? = some (vecO q0 q1) ∧ wr.heap[w.heap.size + 1 + 1]? = some (vecO c0 c1) ∧ wr.heap[w.heap.size + 1 + 1 + 1]? = some (vecO 0 0) ∧ Below w.heap.size w wr ∧ Row wr g cap vs) (fun _ i _ => vs.length - (intOf i).toNat)
  case atStart => exact ⟨0, -1, 0, 0, Nat.zero_le _, rfl, rfl, .inl ⟨rfl, rfl⟩, o4, o0, o1, o2, o3, hB, hRV.out⟩
  case round =>
    clear o0 o1 o2 o3 o4 hB hRV
    obtain ⟨k, L, bx, bw, hk, rfl, rfl, hbest, o4, o0, o1, o2, o3, hB, hRr⟩ := hrel
    have s1 := heap_cell o0 1
    simp only [List.getElem?_toArray, List.getElem?_cons_zero, List.getElem?_cons_succ] at s1
    by_cases hlt : k < vs.length
    · obtain ⟨vx, vy⟩ := hRr.at hlt
      have sc := hS'.out k hlt
      have hF := hFP.out.2.1 k
      have hP := hFP.out.2.2 k
      obtain ⟨v0, hv0⟩ : ∃ z, z = (at' vs k).1 := ⟨_, rfl⟩
      obtain ⟨v1, hv1⟩ : ∃ z, z = (at' vs k).2 := ⟨_, rfl⟩
      rw [← hv0] at vx sc hF hP
      rw [← hv1] at vy sc hF hP
      have zb0 : -134217728 ≤ q0 + v0 - c0 ∧ q0 + v0 - c0 ≤ 134217728 := by unfold Be at *; omega
      have zb1 : -134217728 ≤ q1 + v1 - c1 ∧ q1 + v1 - c1 ≤ 134217728 := by unfold Be at *; omega
      have k1 := fun w => refAdd_any q0 q1 v0 v1 w eq0.bd eq1.bd (by unfold Bd; omega) (by unfold Bd; omega)
      have k2 := fun w => refSub_any (q0 + v0) (q1 + v1) c0 c1 w (by unfold Be at *; unfold Bd; omega) (by unfold Be at *; unfold Bd; omega) ec0.bd ec1.bd
      have hsq := sqd_bd zb0 zb1
      have hF2 : F k = (q0 + v0 - c0) * (q0 + v0 - c0) + (q1 + v1 - c1) * (q1 + v1 - c1) := hF
      generalize q0 + v0 = r0 at *
      generalize q1 + v1 = r1 at *
      generalize r0 - c0 = z0 at *
      generalize r1 - c1 = z1 at *
      have hkk := Lib.hid (And.intro k1 k2)
      have hFk := Lib.hid (And.intro hF2 hP)
      have hbest' := Lib.hid hbest
      have hclt : (k : Int) < (vs.length : Int) := by omega
      obtain ⟨p0, p1⟩ := vec_cells o1
      clear k1 k2 hF hF2 hP hv0 hv1 sc zb0 zb1 hbest
      have hkl := hB.size
      have hRr' := Lib.hid hRr
      clear hRr
      go_upto_region 6 with fail
      refine wp_region_alloc_last 7 (some 10) (.cells #[.int .i64 0, .int .i64 0] 28) (by kernel_rfl) (by kernel_rfl) ⟨_, rfl, rfl, fun _ => rfl, fun _ _ => by kernel_rfl⟩ ?_
      apply Exists.intro
      refine ⟨fun W hK E hE => ?_, ?_⟩
      · skip
        have g_s1 := fun x => carry ((hK.below x)) s1
        have g_p0 := fun x => carry ((hK.below x)) p0
        have g_p1 := fun x => carry ((hK.below x)) p1
        have g_vx := fun x => carry ((hK.below x)) vx
        have g_vy := fun x => carry ((hK.below x)) vy
        simp only [List.take_succ_cons, List.take_zero]
        repeat (go_big_quiet_step ((go_at_call 64; with_reducible exact met_made (hkk.out.1 _))))
        refine wpQuiet_nil ?_
        exact hE
      intro B wq hBB hbq hheap
      simp only [List.drop_succ_cons, List.drop_zero, Act.put, List.setIfInBounds_toArray, List.set_cons_zero, List.set_cons_succ]
      have hstep := (hbq.setCell (p := ⟨B, 0, none⟩) hBB (.int .i64 r0)).setCell (p := ⟨B, 1, none⟩) hBB (.int .i64 r1)
      have hQ := vec_store (x := 0) (y := 0) hheap r0 r1
      have hcB := heap_cell hheap
      have hfB := heap_frozen hheap
      go_upto_region 7 with fail
      generalize (wq.setCell ⟨B, 0, none⟩ (.int .i64 r0)).setCell ⟨B, 1, none⟩ (.int .i64 r1) = X at *
      have l4 : w.heap.size + 1 + 1 + 1 + 1 < wr.heap.size := (Array.getElem?_eq_some_iff.1 o4).1
      replace o0 := rcarry hstep o0
      replace o1 := rcarry hstep o1
      replace o2 := rcarry hstep o2
      replace o3 := rcarry hstep o3
      replace o4 := rcarry hstep o4
      replace hB := below_step hB hstep
      replace hRr' := Lib.hid (hRr'.out.carry hstep)
      obtain ⟨y0, y1⟩ := vec_cells hQ
      obtain ⟨d0, d1⟩ := vec_cells o2
      clear hcB hfB hheap hbq hstep s1 p0 p1 vx vy wq
      go_wp2_with fail
      refine (hkk.out.2 _).mono ?_
      rintro e X2 ⟨rfl, hb2⟩
      replace o0 := rcarry hb2 o0
      replace o1 := rcarry hb2 o1
      replace o2 := rcarry hb2 o2
      replace o3 := rcarry hb2 o3
      replace o4 := rcarry hb2 o4
      replace hQ := rcarry hb2 hQ
      replace hB := below_step hB hb2
      replace hRr' := Lib.hid (hRr'.out.carry hb2)
      clear hb2 y0 y1 d0 d1
      go_upto_region 8 with fail
      have x0 := World.cell?_alloc_new (w := X2) #[.int .i64 z0, .int .i64 z1] 28 0
      have x1 := World.cell?_alloc_new (w := X2) #[.int .i64 z0, .int .i64 z1] 28 1
      simp only [List.getElem?_toArray, List.getElem?_cons_zero, List.getElem?_cons_succ] at x0 x1
      have hb3 := alloc_below X2 (.cells #[.int .i64 z0, .int .i64 z1] 28)
      generalize X2.alloc (.cells #[.int .i64 z0, .int .i64 z1] 28) = X3 at *
      replace o0 := rcarry hb3 o0
      replace o1 := rcarry hb3 o1
      replace o2 := rcarry hb3 o2
      replace o3 := rcarry hb3 o3
      replace o4 := rcarry hb3 o4
      replace hQ := rcarry hb3 hQ
      replace hB := below_step hB hb3
      replace hRr' := Lib.hid (hRr'.out.carry hb3)
      clear hb3
      have hw0 := hsq
      go_upto_region 9 with fail
      rw [← hFk.out.1]
      have hFb : 0 ≤ F k ∧ F k ≤ 36028797018963968 := by rw [hFk.out.1]; omega
      clear hsq hw0 x0 x1
      have hnew := fun h => hbest'.out.new h hFP.out.1
      rw [hFk.out.2] at hnew
      have hsame := hbest'.out.same
      have hbn := Lib.hid (And.intro hnew hsame)
      clear hnew hsame
      generalize F k = f at *
      by_cases e1 : L < 0
      · have e1' : decide (L < 0) = true := decide_eq_true e1
        obtain ⟨y0, y1⟩ := vec_cells hQ
        obtain ⟨b0, b1⟩ := vec_cells o4
        have f0 := heap_frozen o4 0
        have f1 := heap_frozen o4 1
        go_wp2_with fail
        go_roundw
        case rel => exact ⟨k + 1, f, r0, r1, by omega, by go_num, rfl, hbn.out.1 (.inl e1), vec_store o4 r0 r1, rset2 _ _ _ o0 (by omega), rset2 _ _ _ o1 (by omega), rset2 _ _ _ o2 (by omega), rset2 _ _ _ o3 (by omega),
          (hB.setCell (p := ⟨w.heap.size + 1 + 1 + 1 + 1, 0, none⟩) (by simp only; omega) _).setCell (p := ⟨w.heap.size + 1 + 1 + 1 + 1, 1, none⟩) (by simp only; omega) _,
          hRr'.out.keep (S := fun r => r < w.heap.size) ((KeepOn.setCell (S := fun r => r < w.heap.size) (p := ⟨w.heap.size + 1 + 1 + 1 + 1, 0, none⟩) _ (by simp only; omega)).trans (KeepOn.setCell (S := fun r => r < w.heap.size) (p := ⟨w.heap.size + 1 + 1 + 1 + 1, 1, none⟩) _ (by simp only; omega))) hgw⟩
        case measure => simp [intOf]; omega
      · have e1' : decide (L < 0) = false := decide_eq_false e1
        by_cases e2 : f < L
        · have e2' : decide (f < L) = true := decide_eq_true e2
          obtain ⟨y0, y1⟩ := vec_cells hQ
          obtain ⟨b0, b1⟩ := vec_cells o4
          have f0 := heap_frozen o4 0
          have f1 := heap_frozen o4 1
          go_wp2_with fail
          go_roundw
          case rel => exact ⟨k + 1, f, r0, r1, by omega, by go_num, rfl, hbn.out.1 (.inr e2), vec_store o4 r0 r1, rset2 _ _ _ o0 (by omega), rset2 _ _ _ o1 (by omega), rset2 _ _ _ o2 (by omega), rset2 _ _ _ o3 (by omega),
            (hB.setCell (p := ⟨w.heap.size + 1 + 1 + 1 + 1, 0, none⟩) (by simp only; omega) _).setCell (p := ⟨w.heap.size + 1 + 1 + 1 + 1, 1, none⟩) (by simp only; omega) _,
            hRr'.out.keep (S := fun r => r < w.heap.size) ((KeepOn.setCell (S := fun r => r < w.heap.size) (p := ⟨w.heap.size + 1 + 1 + 1 + 1, 0, none⟩) _ (by simp only; omega)).trans (KeepOn.setCell (S := fun r => r < w.heap.size) (p := ⟨w.heap.size + 1 + 1 + 1 + 1, 1, none⟩) _ (by simp only; omega))) hgw⟩
          case measure => simp [intOf]; omega
        · have e2' : decide (f < L) = false := decide_eq_false e2
          go_wp2_with fail
          go_roundw
          case rel => exact ⟨k + 1, L, bx, bw, by omega, by go_num, rfl, hbn.out.2 e1 e2, o4, o0, o1, o2, o3, hB, hRr'.out⟩
          case measure => simp [intOf]; omega
    · obtain rfl : k = vs.length := by omega
      obtain ⟨b0, b1⟩ := vec_cells o4
      obtain ⟨r0, r1⟩ := vec_cells o3
      have f0 := heap_frozen o3 0
      have f1 := heap_frozen o3 1
      rcases hbest with ⟨h, _⟩ | ⟨j, hj, _, rfl, rfl⟩
      · omega
      · obtain rfl : j = vs.length - 1 := by omega
        clear hj
        go_wp2
        refine bodyPost_ret (v := .agg #[.int .i64 (P (bst F (vs.length - 1))).1, .int .i64 (P (bst F (vs.length - 1))).2]) (by simp [results, Try.results44, go_sem, r0, r1]) rfl ⟨rfl, ?_⟩
        exact (hB.setCell (by first | (simp; done) | (simp; omega) | omega) _).setCell (by first | (simp; done) | (simp; omega) | omega) _
end Go.Proofs.Ytfbgghkkgmgnjaa
