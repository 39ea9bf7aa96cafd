/- The reference's queries: left, Contains. -/
import Derived.Test.YtololgefpjjpjaaShapeRefC
namespace Go.Proofs.Ytololgefpjjpjaa
open Go.ChangeShapes Go.WideShapes Go.ChangeAt Go.RowKit
open Fxm
set_option linter.unusedSimpArgs false
set_option linter.unusedVariables false

/-- 2^26. -/
def Bq (a : Int) : Prop := -67108864 ≤ a ∧ a ≤ 67108864
theorem Bd.bq {a : Int} (h : Bd a) : Bq a := by unfold Bd at h; unfold Bq; omega
theorem prod27 {a b : Int} (a1 : -134217728 ≤ a) (a2 : a ≤ 134217728) (b1 : -134217728 ≤ b) (b2 : b ≤ 134217728) : -18014398509481984 ≤ a * b ∧ a * b ≤ 18014398509481984 := by
  have := prod_bd (a := a) (b := b) (A := 134217728) (B := 134217728) (by omega) (by omega) a1 a2 b1 b2
  omega
def leftV (v w p : Int × Int) : Int := (w.1 - v.1) * (p.2 - v.2) - (w.2 - v.2) * (p.1 - v.1)

theorem left_any (v0 v1 w0 w1 p0 p1 : Int) (w : World) (hv0 : Bq v0) (hv1 : Bq v1) (hw0 : Bq w0) (hw1 : Bq w1) (hp0 : Bq p0) (hp1 : Bq p1) :
    Calls Try.prog 33 #[.agg #[.int .i64 v0, .int .i64 v1], .agg #[.int .i64 w0, .int .i64 w1], .agg #[.int .i64 p0, .int .i64 p1]] w fun e w' =>
      e = .returned (.int .i64 (leftV (v0, v1) (w0, w1) (p0, p1))) ∧ Below w.heap.size w w' := by
  unfold Bq at *
  have p1 := prod27 (a := w0 - v0) (b := p1 - v1) (by omega) (by omega) (by omega) (by omega)
  have p2 := prod27 (a := w1 - v1) (b := p0 - v0) (by omega) (by omega) (by omega) (by omega)
  go_enter Try.func33, Try.ntmps33
  go_wp2
  go_ret
  refine ⟨rfl, ?_⟩
  repeat (first | exact Below.refl _ _ | (refine Below.setCell ?_ (by first | (simp; done) | (simp; omega) | omega) _) | (refine Below.alloc ?_ (by first | exact Nat.le_refl _ | (simp; done) | (simp; omega) | omega) _) | refine Below.drew ?_ | (refine Below.trans ?_ ((hb _).mono (by first | (simp; done) | (simp; omega) | omega))) | (refine Below.trans ?_ (hb1.mono (by first | (simp; done) | (simp; omega) | omega))))

def at' (vs : List (Int × Int)) (i : Nat) : Int × Int := vs.getD i (0, 0)
/-- d lies on or to the left of every edge. -/
def insideB (vs : List (Int × Int)) (d : Int × Int) : Bool := (List.range vs.length).all fun i => decide (0 ≤ leftV (at' vs i) (at' vs ((i + 1) % vs.length)) d)
theorem inside_true {vs : List (Int × Int)} {d : Int × Int} (h : ∀ i, i < vs.length → 0 ≤ leftV (at' vs i) (at' vs ((i + 1) % vs.length)) d) : insideB vs d = true := by
  unfold insideB; rw [List.all_eq_true]; intro i hi; exact decide_eq_true (h i (List.mem_range.1 hi))
theorem inside_false {vs : List (Int × Int)} {d : Int × Int} {i : Nat} (hi : i < vs.length) (h : leftV (at' vs i) (at' vs ((i + 1) % vs.length)) d < 0) : insideB vs d = false := by
  cases hb : insideB vs d with
  | false => rfl
  | true =>
    unfold insideB at hb
    rw [List.all_eq_true] at hb
    have := of_decide_eq_true (hb i (List.mem_range.2 hi))
    omega
/-- Every vertex' components are at most 2^15. -/
def Small (vs : List (Int × Int)) : Prop := ∀ i, i < vs.length → (-32768 ≤ (at' vs i).1 ∧ (at' vs i).1 ≤ 32768) ∧ (-32768 ≤ (at' vs i).2 ∧ (at' vs i).2 ≤ 32768)
theorem Row.at {w : World} {g cap : Nat} {vs : List (Int × Int)} (h : Row w g cap vs) {i : Nat} (hi : i < vs.length) :
    w.cell? ⟨g, i * 2, none⟩ = some (.int .i64 (at' vs i).1) ∧ w.cell? ⟨g, i * 2 + 1, none⟩ = some (.int .i64 (at' vs i).2) := by
  have := flatV_at vs i hi
  have e : at' vs i = vs[i] := by unfold at'; rw [List.getD_eq_getElem?_getD, List.getElem?_eq_getElem hi]; rfl
  rw [e]
  exact ⟨h.cells _ _ this.1, h.cells _ _ this.2⟩

theorem containsC_any (r q0 q1 p0 p1 : Int) (w : World) (hr : 0 ≤ r ∧ r ≤ 32768) (h0 : Bd q0) (h1 : Bd q1) (h2 : Bd p0) (h3 : Bd p1) :
    Calls Try.prog 25 #[.agg #[.int .i64 r, .slice none 0 0], .agg #[.int .i64 q0, .int .i64 q1], .agg #[.int .i64 p0, .int .i64 p1]] w fun e w' =>
      e = .returned (.bool (decide ((p0 - q0) * (p0 - q0) + (p1 - q1) * (p1 - q1) ≤ r * r))) ∧ Below w.heap.size w w' := by
  have e1 := prod27 (a := p0 - q0) (b := p0 - q0) (by unfold Bd at *; omega) (by unfold Bd at *; omega) (by unfold Bd at *; omega) (by unfold Bd at *; omega)
  have e2 := prod27 (a := p1 - q1) (b := p1 - q1) (by unfold Bd at *; omega) (by unfold Bd at *; omega) (by unfold Bd at *; omega) (by unfold Bd at *; omega)
  have e3 := prod27 (a := r) (b := r) (by omega) (by omega) (by omega) (by omega)
  go_enter Try.func25, Try.ntmps25
  go_wp2_with fail
  refine (refSub_any _ _ _ _ _ h2 h3 h0 h1).mono ?_
  rintro e w1 ⟨rfl, hb1⟩
  have c1 : w1.cell? ⟨w.heap.size, 0, none⟩ = some (.int .i64 r) := carry hb1 (by simp [go_sem])
  have c2 : w1.cell? ⟨w.heap.size, 1, none⟩ = some (.slice none 0 0) := carry hb1 (by simp [go_sem])
  have n1 := block_lt_of_cell c1
  go_wp2
  go_ret
  refine ⟨rfl, ?_⟩
  repeat (first | exact Below.refl _ _ | (refine Below.setCell ?_ (by first | (simp; done) | (simp; omega) | omega) _) | (refine Below.alloc ?_ (by first | exact Nat.le_refl _ | (simp; done) | (simp; omega) | omega) _) | refine Below.drew ?_ | (refine Below.trans ?_ ((hb _).mono (by first | (simp; done) | (simp; omega) | omega))) | (refine Below.trans ?_ (hb1.mono (by first | (simp; done) | (simp; omega) | omega))))

set_option maxHeartbeats 2000000 in
theorem contains_any (r q0 q1 p0 p1 : Int) (g cap : Nat) (vs : List (Int × Int)) (w : World) (hR : Row w g cap vs) (hl : 3 ≤ vs.length) (hl2 : vs.length ≤ 1000) (hS : Small vs) (h0 : Bd q0) (h1 : Bd q1) (h2 : Bd p0) (h3 : Bd p1) :
    Calls Try.prog 25 #[.agg #[.int .i64 r, .slice (some ⟨g, 0, none⟩) vs.length cap], .agg #[.int .i64 q0, .int .i64 q1], .agg #[.int .i64 p0, .int .i64 p1]] w fun e w' =>
      e = .returned (.bool (insideB vs (p0 - q0, p1 - q1))) ∧ Below w.heap.size w w' := by
  have hcap := hR.le
  have hmax := hR.max
  unfold maxLen at hmax
  have hR' := Lib.hid hR
  have hS' := Lib.hid hS
  have hlb : (vs.length : Int) ≤ 1000 := by omega
  have hl0 : ((vs.length : Int) == 0) = false := by simp only [beq_eq_false_iff_ne, ne_eq]; omega
  have hdx : Bq (p0 - q0) := by unfold Bd at *; unfold Bq; omega
  have hdy : Bq (p1 - q1) := by unfold Bd at *; unfold Bq; omega
  go_enter Try.func25, Try.ntmps25
  go_wp2_with fail
  refine (refSub_any _ _ _ _ _ h2 h3 h0 h1).mono ?_
  rintro e w1 ⟨rfl, hb1⟩
  have hB := below_step (below_step (below_step (alloc_below _ _) (alloc_below _ _)) (alloc_below _ _)) hb1
  have c2 : w1.cell? ⟨w.heap.size, 1, none⟩ = some (.slice (some ⟨g, 0, none⟩) vs.length cap) := carry hb1 (by simp [go_sem])
  have hRw := Lib.hid (hR'.out.carry hB)
  generalize hDx : p0 - q0 = dx at *
  generalize hDy : p1 - q1 = dy at *
  have hD := Lib.hid (And.intro hDx hDy)
  clear hDx hDy hR
  have n1 := block_lt_of_cell c2
  obtain ⟨w2, hw2⟩ : ∃ w2, w2 = w1.alloc (.cells #[.int .i64 dx, .int .i64 dy] 34) := ⟨_, rfl⟩
  have hb2 : Below w1.heap.size w1 w2 := by rw [hw2]; exact alloc_below _ _
  have d0 : w2.cell? ⟨w1.heap.size, 0, none⟩ = some (.int .i64 dx) := by rw [hw2]; simp
  have d1 : w2.cell? ⟨w1.heap.size, 1, none⟩ = some (.int .i64 dy) := by rw [hw2]; simp
  have c2' := carry hb2 c2
  have hR2 := Lib.hid (hRw.out.carry hb2)
  have hw2' := Lib.hid hw2
  clear hw2
  have hBB := below_step hB hb2
  clear hB hb1 hb2 hRw
  go_wp2_with fail
  go_loopw [8] (fun i wr => ∃ c : Nat, c ≤ vs.length ∧ i = .int .i64 c ∧ (∀ k, k < c → 0 ≤ leftV (at' vs k) (at' vs ((k + 1) % vs.length)) (dx, dy)) ∧ Below w2.heap.size w2 wr) (fun i _ => vs.length - (intOf i).toNat)
  case atStart => exact ⟨0, Nat.zero_le _, rfl, fun k hk => absurd hk (Nat.not_lt_zero _), by rw [hw2'.out]; exact Below.refl _ _⟩
  case round =>
    obtain ⟨c, hc, rfl, hall, hbl⟩ := hrel
    have x0 := carry hbl c2'
    have hall' := Lib.hid hall
    clear hall
    by_cases hlt : c < vs.length
    · have D0 := carry hbl d0
      have D1 := carry hbl d1
      have hRr := hR2.out.carry hbl
      obtain ⟨m, hm⟩ : ∃ m, m = (c + 1) % vs.length := ⟨_, rfl⟩
      have hmlt : m < vs.length := by rw [hm]; exact Nat.mod_lt _ (by omega)
      have hmod : ((c : Int) + 1) % (vs.length : Int) = (m : Int) := by rw [hm]; push_cast; rfl
      obtain ⟨vx, vy⟩ := hRr.at hlt
      obtain ⟨ux, uy⟩ := hRr.at hmlt
      have sc := hS'.out c hlt
      have sm := hS'.out m hmlt
      have K := fun w => left_any (at' vs c).1 (at' vs c).2 (at' vs m).1 (at' vs m).2 dx dy w (by unfold Bq; omega) (by unfold Bq; omega) (by unfold Bq; omega) (by unfold Bq; omega) hdx hdy
      have hL : ∀ z, leftV ((at' vs c).1, (at' vs c).2) ((at' vs m).1, (at' vs m).2) (dx, dy) = z → leftV (at' vs c) (at' vs ((c + 1) % vs.length)) (dx, dy) = z := fun z h => by rw [← hm]; exact h
      generalize leftV ((at' vs c).1, (at' vs c).2) ((at' vs m).1, (at' vs m).2) (dx, dy) = L at *
      have hL' := Lib.hid (hL L rfl)
      generalize (at' vs c).1 = v0 at *
      generalize (at' vs c).2 = v1 at *
      generalize (at' vs m).1 = u0 at *
      generalize (at' vs m).2 = u1 at *
      have hKl := Lib.hid K
      have hwr : IntKind.i64.wrap ((c : Int) + 1) = (c : Int) + 1 := IntWalk.i64_in _ (by omega)
      have hclt : (c : Int) < (vs.length : Int) := by omega
      have hmlt' : (m : Int) < (vs.length : Int) := by omega
      have hm0 : (0 : Int) ≤ (m : Int) := by omega
      clear hm K hL hRr
      by_cases hneg : L < 0
      all_goals
        first | have hn' : decide (L < 0) = true := decide_eq_true hneg | have hn' : decide (L < 0) = false := decide_eq_false hneg
        go_wp2_with fail
        refine wp_region_made (by kernel_rfl) (by kernel_rfl) ?_
        intro W hK
        have g_x0 := fun x => carry ((hK.below x)) x0
        have g_D0 := fun x => carry ((hK.below x)) D0
        have g_D1 := fun x => carry ((hK.below x)) D1
        have g_vx := fun x => carry ((hK.below x)) vx
        have g_vy := fun x => carry ((hK.below x)) vy
        have g_ux := fun x => carry ((hK.below x)) ux
        have g_uy := fun x => carry ((hK.below x)) uy
        repeat (go_big_quiet_step ((go_at_call 33; with_reducible exact met_made (hKl.out _))))
        refine wpQuiet_nil ?_
        intro wq hw'
        have hbq := kept_in hK hw'
        clear g_x0 g_D0 g_D1 g_vx g_vy g_ux g_uy
        clear hw' hK W
        replace x0 := carry (hbq) x0
        replace D0 := carry (hbq) D0
        replace D1 := carry (hbq) D1
        replace vx := carry (hbq) vx
        replace vy := carry (hbq) vy
        replace ux := carry (hbq) ux
        replace uy := carry (hbq) uy
        clear hwr hmod
        go_wp2
        first
          | (go_ret
             exact ⟨by rw [hD.out.1, hD.out.2, inside_false hlt (by rw [hL'.out]; exact hneg)]; rfl, below_step (below_step hBB hbl) hbq⟩)
          | (go_roundw
             case rel => exact ⟨c + 1, by omega, by go_num, fun k hk => by
               rcases Nat.lt_or_ge k c with h | h
               · exact hall'.out k h
               · obtain rfl : k = c := by omega
                 rw [hL'.out]; omega, below_step hbl hbq⟩
             case measure => simp [intOf]; omega)
    · obtain rfl : c = vs.length := by omega
      go_wp2
      go_ret
      exact ⟨by rw [hD.out.1, hD.out.2, inside_true hall'.out]; rfl, below_step hBB hbl⟩
end Go.Proofs.Ytololgefpjjpjaa
