/- Package shape: Contains. -/
import Derived.Test.YtfbgghkkgmgnjaaShape
namespace Go.Proofs.Ytfbgghkkgmgnjaa
open Go.ChangeShapes Go.WideShapes Go.ChangeAt Go.RowKit Go.Shelf
open Fxm
set_option linter.unusedSimpArgs false
set_option linter.unusedVariables false
attribute [local go_sem] Oper.semAt_some

theorem shContainsC_any (r q0 q1 p0 p1 : Int) (w : World) (hr : 0 ≤ r ∧ r ≤ 32768) (h0 : Bd q0) (h1 : Bd q1) (h2 : Bd p0) (h3 : Bd p1) :
    Calls Try.prog 26 #[.agg #[.int .i64 r, .slice none 0 0], .agg #[.int .i64 q0, .int .i64 q1], .agg #[.int .i64 p0, .int .i64 p1]] w fun e w' =>
      e = .returned (.bool (decide ((p0 - q0) * (p0 - q0) + (p1 - q1) * (p1 - q1) ≤ r * r))) ∧ Below w.heap.size w w' := by
  have e1 := prod27 (a := p0 - q0) (b := p0 - q0) (by unfold Bd at *; omega) (by unfold Bd at *; omega) (by unfold Bd at *; omega) (by unfold Bd at *; omega)
  have e2 := prod27 (a := p1 - q1) (b := p1 - q1) (by unfold Bd at *; omega) (by unfold Bd at *; omega) (by unfold Bd at *; omega) (by unfold Bd at *; omega)
  have e3 := prod27 (a := r) (b := r) (by omega) (by omega) (by omega) (by omega)
  go_enter Try.func26, Try.ntmps26
  go_wp2_with fail
  refine (sub_any _ _ _ _ _ h2 h3 h0 h1).mono ?_
  rintro e w1 ⟨rfl, hb1⟩
  have c1 : w1.cell? ⟨w.heap.size, 0, none⟩ = some (.int .i64 r) := carry hb1 (by simp [go_sem])
  have c2 : w1.cell? ⟨w.heap.size, 1, none⟩ = some (.slice none 0 0) := carry hb1 (by simp [go_sem])
  have c3 : w1.cell? ⟨w.heap.size + 1 + 1 + 1, 0, none⟩ = some (.bool false) := carry hb1 (by simp [go_sem])
  have c4 : w1.frozen? ⟨w.heap.size + 1 + 1 + 1, 0, none⟩ = false := (hb1.frozen (by simp)).trans (by simp [go_sem])
  have n1 := block_lt_of_cell c3
  have n0 := block_lt_of_cell c1
  simp only at n1 n0
  go_wp2
  have rc := fun (v : Value) (o : Obj) => cell_alloc (o := o) (World.cell?_setCell_same' w1 ⟨w.heap.size + 1 + 1 + 1, 0, none⟩ v (by rw [c3]; rfl)) (by simp; omega)
  refine bodyPost_ret (v := .bool (decide ((p0 - q0) * (p0 - q0) + (p1 - q1) * (p1 - q1) ≤ r * r))) (by simp [results, Try.results26, go_sem, rc]) rfl ⟨rfl, ?_⟩
  have hB := below_step (below_step (below_step (below_step (alloc_below _ _) (alloc_below _ _)) (alloc_below _ _)) (alloc_below _ _)) hb1
  exact below_step (hB.setCell (by simp; omega) _) (alloc_below _ _)

theorem two_new {W w' : World} {k : Nat} {v0 v1 u0 u1 : Value} {T U : TypeId} (h : w' = ((W.drewN k).alloc (.cells #[v0, v1] T)).alloc (.cells #[u0, u1] U)) :
    Below W.heap.size W w' ∧ w'.cell? ⟨W.heap.size, 0, none⟩ = some v0 ∧ w'.cell? ⟨W.heap.size, 1, none⟩ = some v1 ∧ w'.cell? ⟨W.heap.size + 1, 0, none⟩ = some u0 ∧ w'.cell? ⟨W.heap.size + 1, 1, none⟩ = some u1 := by
  subst h
  have hz : ((W.drewN k).alloc (.cells #[v0, v1] T)).heap.size = W.heap.size + 1 := by rw [World.size_alloc]; rfl
  refine ⟨below_step (below_step (below_drewN _ _) (alloc_below _ _)) (alloc_below _ _), ?_, ?_, ?_, ?_⟩
  · exact cell_alloc (World.cell?_alloc_new (w := W.drewN k) #[v0, v1] T 0) (by rw [hz]; simp)
  · exact cell_alloc (World.cell?_alloc_new (w := W.drewN k) #[v0, v1] T 1) (by rw [hz]; simp)
  · have := World.cell?_alloc_new (w := (W.drewN k).alloc (.cells #[v0, v1] T)) #[u0, u1] U 0
    rwa [hz] at this
  · have := World.cell?_alloc_new (w := (W.drewN k).alloc (.cells #[v0, v1] T)) #[u0, u1] U 1
    rwa [hz] at this

set_option maxRecDepth 100000 in
set_option maxHeartbeats 4000000 in
theorem shContains_any (r q0 q1 p0 p1 : Int) (g cap : Nat) (vs : List (Int × Int)) (w : World) (hR : Row w g cap vs) (hl : 3 ≤ vs.length) (hl2 : vs.length ≤ 1000) (hS : Small vs) (h0 : Bd q0) (h1 : Bd q1) (h2 : Bd p0) (h3 : Bd p1) :
    Calls Try.prog 26 #[.agg #[.int .i64 r, .slice (some ⟨g, 0, none⟩) vs.length cap], .agg #[.int .i64 q0, .int .i64 q1], .agg #[.int .i64 p0, .int .i64 p1]] w fun e w' =>
      e = .returned (.bool (insideB vs (p0 - q0, p1 - q1))) ∧ Below w.heap.size w w' := by
  have hcap := hR.le
  have hmax := hR.max
  unfold maxLen at hmax
  have hR' := Lib.hid hR
  have hS' := Lib.hid hS
  have hlb : (vs.length : Int) ≤ 1000 := by omega
  have hl0 : ((vs.length : Int) == 0) = false := by simp only [beq_eq_false_iff_ne, ne_eq]; omega
  have hdx : Bq (p0 - q0) := by unfold Bd at *; unfold Bq; omega
  have hdy : Bq (p1 - q1) := by unfold Bd at *; unfold Bq; omega
  refine (callsIn_wide (n := 9)).1 (callsIn_of_wp_marks Try.func26 rfl trivial (wpIn_wide.2 ?_) rfl)
  simp only [Try.ntmps26, List.size_toArray, List.length_cons, List.length_nil, Nat.reduceAdd, Nat.reduceSub, Array.replicate_succ, Array.replicate_zero, List.push_toArray, List.append_toArray, List.nil_append, List.cons_append]
  go_wp2_with fail
  refine (sub_any _ _ _ _ _ h2 h3 h0 h1).mono ?_
  rintro e w1 ⟨rfl, hb1⟩
  have hB := below_step (below_step (below_step (below_step (alloc_below _ _) (alloc_below _ _)) (alloc_below _ _)) (alloc_below _ _)) hb1
  have c2 : w1.cell? ⟨w.heap.size, 1, none⟩ = some (.slice (some ⟨g, 0, none⟩) vs.length cap) := carry hb1 (by simp [go_sem])
  have c3 : w1.cell? ⟨w.heap.size + 1 + 1 + 1, 0, none⟩ = some (.bool false) := carry hb1 (by simp [go_sem])
  have c4 : w1.frozen? ⟨w.heap.size + 1 + 1 + 1, 0, none⟩ = false := (hb1.frozen (by simp)).trans (by simp [go_sem])
  have hRw := Lib.hid (hR'.out.carry hB)
  generalize hDx : p0 - q0 = dx at *
  generalize hDy : p1 - q1 = dy at *
  have hD' := Lib.hid (And.intro hDx hDy)
  clear hDx hDy hR
  have n1 := block_lt_of_cell c3
  simp only at n1
  have n0 := block_lt_of_cell c2
  simp only at n0
  go_wp2_with fail
  refine (edges_any vs.length _).mono ?_
  rintro e w2 ⟨rfl, hw2⟩
  have hb2 : Below w1.heap.size w1 w2 := by rw [hw2]; exact below_step (alloc_below _ _) (alloc_below _ _)
  have d0 : w2.cell? ⟨w1.heap.size, 0, none⟩ = some (.int .i64 dx) := by rw [hw2]; simp
  have d1 : w2.cell? ⟨w1.heap.size, 1, none⟩ = some (.int .i64 dy) := by rw [hw2]; simp
  have dn : w2.cell? ⟨w1.heap.size + 1, 0, none⟩ = some (.int .i64 vs.length) := by rw [hw2]; simp
  have hnn := block_lt_of_cell dn
  replace c2 := carry hb2 c2
  replace c3 := carry hb2 c3
  replace c4 := (hb2.frozen (p := ⟨w.heap.size + 1 + 1 + 1, 0, none⟩) n1).trans c4
  have hR2 := Lib.hid (hRw.out.carry hb2)
  have hBB := below_step hB hb2
  clear hB hb1 hb2 hRw hw2
  go_wp2_with fail
  refine (wpIn_wide (n := 9)).1 ?_
  have e1 := edges_stops 8 (w1.heap.size + 1) w2.heap.size vs.length (by omega) (by omega) w2 dn hnn (Nat.le_refl _)
  refine range_law (F := Fence.wide) (m := 9) (fun pre W => (∀ i ∈ pre, 0 ≤ leftV (at' vs i.1) (at' vs ((i.1 + 1) % vs.length)) (dx, dy)) ∧ Below w2.heap.size w2 W)
    (fun c pre W => (c = .ret ∧ ∃ i, i < vs.length ∧ leftV (at' vs i) (at' vs ((i + 1) % vs.length)) (dx, dy) < 0) ∧ W.cell? ⟨w.heap.size + 1 + 1 + 1, 0, none⟩ = some (.bool false) ∧ Below w.heap.size w W)
    rfl (by omega) (gf := 79) (lb := #[.pointer (some ⟨w1.heap.size + 1, 0, none⟩)]) rfl trivial ?eg e1 ?ps ?hI ?hIx ?h0 ?both ?done ?stop
  case eg => exact enters_of Try.func79 (by kernel_rfl) rfl
  case ps => exact fun _ => rfl
  case hI => exact OwnFrom.and (ownFrom_pure _ _) (ownFrom_below (Nat.le_refl _) (Nat.le_refl _))
  case hIx => exact fun c => OwnFrom.and (ownFrom_pure _ _) (OwnFrom.and (Own.from (fun s A B row hs hg hr => cell_kept hs hg hr) _) (ownFrom_below (Nat.le_refl _) hBB.size))
  case h0 => exact ⟨by simp, Below.refl _ _⟩
  case both =>
    apply Exists.intro
    refine ⟨fun l x W K hK => ?_, fun l pre x W hI hlen => ?_⟩
    · simp only [edgeV]
      gi_wp2
      exact hK
    · obtain ⟨hok, hBW⟩ := hI
      have hok' := Lib.hid hok
      clear hok
      have hlt := x.2
      obtain ⟨c, hcx⟩ : ∃ c, c = x.1 := ⟨_, rfl⟩
      have hxc := Lib.hid hcx
      rw [← hcx] at hlt
      simp only [← hcx]
      clear hcx
      have C2 := carry hBW c2
      have D0 := carry hBW d0
      have D1 := carry hBW d1
      have R3 := carry hBW c3
      have F3 := (hBW.frozen (p := ⟨w.heap.size + 1 + 1 + 1, 0, none⟩) (block_lt_of_cell c3)).trans c4
      have hRr := hR2.out.carry hBW
      obtain ⟨m, hm⟩ : ∃ m, m = (c + 1) % vs.length := ⟨_, rfl⟩
      have hmlt : m < vs.length := by rw [hm]; exact Nat.mod_lt _ (by omega)
      obtain ⟨vx, vy⟩ := hRr.at hlt
      obtain ⟨ux, uy⟩ := hRr.at hmlt
      have sc := hS'.out c hlt
      have sm := hS'.out m hmlt
      have hmod : ((c : Int) + 1) % (vs.length : Int) = (m : Int) := by rw [hm]; push_cast; rfl
      simp only [hmod]
      clear hmod
      have L0 : ∃ L, L = leftV (at' vs c) (at' vs ((c + 1) % vs.length)) (dx, dy) := ⟨_, rfl⟩
      obtain ⟨L, hL⟩ := L0
      have K := fun w bu bv h1 h2 h3 h4 => leftFn_any dx dy (at' vs c).1 (at' vs c).2 (at' vs m).1 (at' vs m).2 bu bv w h1 h2 h3 h4 hdx hdy (by unfold Bq; omega) (by unfold Bq; omega) (by unfold Bq; omega) (by unfold Bq; omega)
      rw [show leftV ((at' vs c).1, (at' vs c).2) ((at' vs m).1, (at' vs m).2) (dx, dy) = L by rw [hL, ← hm]] at K
      have hL' := Lib.hid hL
      clear hL hm
      generalize (at' vs c).1 = v0 at *
      generalize (at' vs c).2 = v1 at *
      generalize (at' vs m).1 = u0 at *
      generalize (at' vs m).2 = u1 at *
      have hKl := Lib.hid K
      have hclt : (c : Int) < (vs.length : Int) := by omega
      have hmlt' : (m : Int) < (vs.length : Int) := by omega
      clear K
      gi_wp2
      refine round_reads 10 (by kernel_rfl) (by kernel_rfl) (by kernel_rfl) (fun _ _ h => h) ?_
      simp only [List.take_succ_cons, List.take_zero, List.drop_succ_cons, List.drop_zero]
      repeat (go_big_quiet_step (fail))
      refine wpQuiet_nil ?_
      rintro _ ⟨kq, rfl⟩
      go_wp2_with fail
      go_at_call 63
      refine (leftOf_any _ _ _ _ _).mono ?_
      rintro e w' ⟨rfl, hw'⟩
      obtain ⟨hb3, bv0, bv1, bu0, bu1⟩ := two_new hw'
      replace D0 := carry hb3 D0
      replace D1 := carry hb3 D1
      replace F3 := (hb3.frozen (p := ⟨w.heap.size + 1 + 1 + 1, 0, none⟩) (block_lt_of_cell R3)).trans F3
      replace R3 := carry hb3 R3
      clear hw'
      go_wp2_with fail
      by_cases hneg : L < 0
      all_goals
        first | have hn' : decide (L < 0) = true := decide_eq_true hneg | have hn' : decide (L < 0) = false := decide_eq_false hneg
        gi_wp2_with (refine ⟨trivial, ?_⟩; gi_at_call 80; refine (CallsIn.inRound l (callsIn_wide.2 (hKl.out _ _ _ bu0 bu1 bv0 bv1))).mono ?_; rintro e w4 ⟨rfl, hb4⟩; replace F3 := (hb4.frozen (p := ⟨w.heap.size + 1 + 1 + 1, 0, none⟩) (block_lt_of_cell R3)).trans F3; replace R3 := carry hb4 R3)
        have hb5 := below_step hb3 hb4
        first
          | exact ⟨(keeps_below hb5).trans ((KeepsOthers.setCell _ _ _).from _), ⟨rfl, c, hlt, by rw [← hL'.out]; exact hneg⟩, World.cell?_setCell_same' _ _ _ (by rw [R3]; rfl), (below_step hBB (below_step hBW hb5)).setCell (by simp; omega) _⟩
          | exact ⟨keeps_below hb5, hb5.mono hBW.size, fun i hi => by
              rcases List.mem_append.1 hi with h | h
              · exact hok'.out i h
              · simp only [List.mem_singleton] at h
                subst h
                rw [← hxc.out, ← hL'.out]; omega, below_step hBW hb5⟩
  case done =>
    rintro D ys W hD hall ⟨hok, hBW⟩ hK
    have R3 := carry hBW c3
    have F3 := (hBW.frozen (p := ⟨w.heap.size + 1 + 1 + 1, 0, none⟩) (block_lt_of_cell c3)).trans c4
    have hin : insideB vs (dx, dy) = true := inside_true fun i hi => hok ⟨i, hi⟩ (hall _)
    have hin' := Lib.hid hin
    clear hin hok hall
    go_wp2
    have hK' := (KeepsOthers.setCell W ⟨w.heap.size + 1 + 1 + 1, 0, none⟩ (.bool true)).same D _ hK rfl
    refine ⟨by simp, .inl ⟨_, _, rfl, run_takeDeferred hK', ?_⟩⟩
    have hc5 := cell_kept (World.cell?_setCell_same' W ⟨w.heap.size + 1 + 1 + 1, 0, none⟩ (.bool true) (by rw [R3]; rfl)) (grownBy_putObj' _ D (.deferred none)) (fun r e => by cases e; exact ⟨_, hK', rfl⟩)
    refine ⟨.bool true, ?_, ?_, ?_⟩
    · simp [results, Try.f26, go_sem, hc5]
    · rw [hD'.out.1, hD'.out.2, hin'.out]
    · exact ((below_step hBB hBW).setCell (by simp; omega) _).trans (belowK_b (w := w) (Nat.le_refl _) _ D _ _ (by have := hBB.size; omega) hK' rfl rfl)
  case stop =>
    rintro D c pre W hD _ ⟨⟨rfl, i, hi, hneg⟩, hres, hBW⟩ hK
    have hin' := Lib.hid (inside_false hi hneg)
    clear hneg
    gi_wp2
    refine ⟨by simp, .inl ⟨_, _, rfl, run_takeDeferred hK, ?_⟩⟩
    have hc5 := cell_kept hres (grownBy_putObj' _ D (.deferred none)) (fun r e => by cases e; exact ⟨_, hK, rfl⟩)
    refine ⟨.bool false, ?_, ?_, ?_⟩
    · simp [results, Try.f26, go_sem, hc5]
    · rw [hD'.out.1, hD'.out.2, hin'.out]
    · exact hBW.trans (belowK_b (w := w) (Nat.le_refl _) _ D _ _ (by have := hBB.size; omega) hK rfl rfl)
end Go.Proofs.Ytfbgghkkgmgnjaa
