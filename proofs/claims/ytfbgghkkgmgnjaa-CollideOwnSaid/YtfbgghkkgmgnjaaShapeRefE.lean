/- The reference's queries: Project, Bounds. -/
import Derived.Test.YtfbgghkkgmgnjaaShapeRefD
import Derived.WalkLawsBesides
namespace Go.Proofs.Ytfbgghkkgmgnjaa
open Go.ChangeShapes Go.WideShapes Go.ChangeAt Go.RowKit
open Fxm
set_option linter.unusedSimpArgs false
set_option linter.unusedVariables false

/-- The least of f over the first c vertices (and over the first). -/
def lo (f : Int × Int → Int) (vs : List (Int × Int)) (c : Nat) : Int := (vs.take c).foldl (fun m p => min m (f p)) (f (at' vs 0))
def hi (f : Int × Int → Int) (vs : List (Int × Int)) (c : Nat) : Int := (vs.take c).foldl (fun m p => max m (f p)) (f (at' vs 0))
theorem at_eq {vs : List (Int × Int)} {i : Nat} (hi : i < vs.length) : at' vs i = vs[i] := by unfold at'; rw [List.getD_eq_getElem?_getD, List.getElem?_eq_getElem hi]; rfl
theorem lo_succ (f : Int × Int → Int) {vs : List (Int × Int)} {c : Nat} (h : c < vs.length) : lo f vs (c + 1) = min (lo f vs c) (f (at' vs c)) := by
  unfold lo; rw [List.take_succ_eq_append_getElem h, List.foldl_append, at_eq h]; rfl
theorem hi_succ (f : Int × Int → Int) {vs : List (Int × Int)} {c : Nat} (h : c < vs.length) : hi f vs (c + 1) = max (hi f vs c) (f (at' vs c)) := by
  unfold hi; rw [List.take_succ_eq_append_getElem h, List.foldl_append, at_eq h]; rfl
theorem lo_zero (f : Int × Int → Int) (vs : List (Int × Int)) : lo f vs 0 = f (at' vs 0) := rfl
theorem hi_zero (f : Int × Int → Int) (vs : List (Int × Int)) : hi f vs 0 = f (at' vs 0) := rfl
theorem lo_one (f : Int × Int → Int) {vs : List (Int × Int)} (h : 0 < vs.length) : lo f vs 1 = f (at' vs 0) := by rw [lo_succ f h, lo_zero]; omega
theorem hi_one (f : Int × Int → Int) {vs : List (Int × Int)} (h : 0 < vs.length) : hi f vs 1 = f (at' vs 0) := by rw [hi_succ f h, hi_zero]; omega
theorem lo_bd {f : Int × Int → Int} {vs : List (Int × Int)} {A B : Int} (hn : 0 < vs.length) (h : ∀ i, i < vs.length → A ≤ f (at' vs i) ∧ f (at' vs i) ≤ B) : ∀ c, c ≤ vs.length → A ≤ lo f vs c ∧ lo f vs c ≤ B
  | 0, _ => h 0 hn
  | c + 1, hc => by have := lo_bd hn h c (by omega); have := h c (by omega); rw [lo_succ f (by omega)]; omega
theorem hi_bd {f : Int × Int → Int} {vs : List (Int × Int)} {A B : Int} (hn : 0 < vs.length) (h : ∀ i, i < vs.length → A ≤ f (at' vs i) ∧ f (at' vs i) ≤ B) : ∀ c, c ≤ vs.length → A ≤ hi f vs c ∧ hi f vs c ≤ B
  | 0, _ => h 0 hn
  | c + 1, hc => by have := hi_bd hn h c (by omega); have := h c (by omega); rw [hi_succ f (by omega)]; omega

theorem projectC_any (r q0 q1 a0 a1 : Int) (w : World) (hr : 0 ≤ r ∧ r ≤ 32768) (h0 : Bd q0) (h1 : Bd q1) (h2 : Bd a0) (h3 : Bd a1) :
    Calls Try.prog 51 #[.agg #[.int .i64 r, .slice none 0 0], .agg #[.int .i64 q0, .int .i64 q1], .agg #[.int .i64 a0, .int .i64 a1]] w fun e w' =>
      e = .returned (.tuple #[.int .i64 (flr (q0 * a0 + q1 * a1) 1024 - r), .int .i64 (flr (q0 * a0 + q1 * a1) 1024 + r)]) ∧ Below w.heap.size w w' := by
  have p0 := prod25 h0 h2
  have p1 := prod25 h1 h3
  have fb := flr_bd1024 (a := q0 * a0 + q1 * a1) (M := 2251799813685248) (by omega) (by omega)
  have K := fun w => refDot_any q0 q1 a0 a1 w h0 h1 h2 h3
  generalize flr (q0 * a0 + q1 * a1) 1024 = D at *
  have hKl := Lib.hid K
  clear K p0 p1
  go_enter Try.func51, Try.ntmps51
  go_wp2_with fail
  refine (hKl.out _).mono ?_
  rintro e w1 ⟨rfl, hb1⟩
  have c1 : w1.cell? ⟨w.heap.size, 0, none⟩ = some (.int .i64 r) := carry hb1 (by simp [go_sem])
  have c2 : w1.cell? ⟨w.heap.size, 1, none⟩ = some (.slice none 0 0) := carry hb1 (by simp [go_sem])
  go_wp2_with fail
  have hb0 := below_step (below_step (below_step (alloc_below _ _) (alloc_below _ _)) (alloc_below _ _)) hb1
  clear hb1
  go_loopw [9, 10, 11] (fun l h i wr => l = .int .i64 (D - r) ∧ h = .int .i64 (D + r) ∧ i = .int .i64 0 ∧ wr = w1) (fun _ _ _ _ => 0)
  case atStart => exact ⟨rfl, rfl, rfl, rfl⟩
  case round =>
    obtain ⟨rfl, rfl, rfl, rfl⟩ := hrel
    go_wp2
    go_ret2
    exact ⟨rfl, hb0⟩

/-- A vertex' projection. -/
def dotV (q0 q1 a0 a1 : Int) (p : Int × Int) : Int := flr ((q0 + p.1) * a0 + (q1 + p.2) * a1) 1024
theorem bd_add {q x : Int} (hq : -8388608 * 3 ≤ q ∧ q ≤ 8388608 * 3) (hx : -32768 ≤ x ∧ x ≤ 32768) : Bd (q + x) := by unfold Bd; omega
theorem min_if (x y : Int) : (if y < x then y else x) = min x y := by split <;> omega
theorem max_if (x y : Int) : (if x < y then y else x) = max x y := by split <;> omega

set_option maxHeartbeats 4000000 in
theorem project_any (q0 q1 a0 a1 : Int) (g cap : Nat) (vs : List (Int × Int)) (w : World) (hR : Row w g cap vs) (hl : 3 ≤ vs.length) (hl2 : vs.length ≤ 1000) (hS : Small vs) (h0 : -8388608 * 3 ≤ q0 ∧ q0 ≤ 8388608 * 3) (h1 : -8388608 * 3 ≤ q1 ∧ q1 ≤ 8388608 * 3) (h2 : Bd a0) (h3 : Bd a1) :
    Calls Try.prog 51 #[.agg #[.int .i64 0, .slice (some ⟨g, 0, none⟩) vs.length cap], .agg #[.int .i64 q0, .int .i64 q1], .agg #[.int .i64 a0, .int .i64 a1]] w fun e w' =>
      e = .returned (.tuple #[.int .i64 (lo (dotV q0 q1 a0 a1) vs vs.length), .int .i64 (hi (dotV q0 q1 a0 a1) vs vs.length)]) ∧ Below w.heap.size w w' := by
  have hcap := hR.le
  have hmax := hR.max
  unfold maxLen at hmax
  have hR' := Lib.hid hR
  have hS' := Lib.hid hS
  have b0 : Bd q0 := by unfold Bd; omega
  have b1 : Bd q1 := by unfold Bd; omega
  have p0 := prod25 b0 h2
  have p1 := prod25 b1 h3
  have fb := flr_bd1024 (a := q0 * a0 + q1 * a1) (M := 2251799813685248) (by omega) (by omega)
  have K := fun w => refDot_any q0 q1 a0 a1 w b0 b1 h2 h3
  generalize flr (q0 * a0 + q1 * a1) 1024 = D at K fb
  have hKl := Lib.hid K
  clear K p0 p1
  go_enter Try.func51, Try.ntmps51
  go_wp2_with fail
  refine (hKl.out _).mono ?_
  rintro e w1 ⟨rfl, hb1⟩
  have c1 : w1.cell? ⟨w.heap.size, 0, none⟩ = some (.int .i64 0) := carry hb1 (by simp [go_sem])
  have c2 : w1.cell? ⟨w.heap.size, 1, none⟩ = some (.slice (some ⟨g, 0, none⟩) vs.length cap) := carry hb1 (by simp [go_sem])
  have x0 : w1.cell? ⟨w.heap.size + 1, 0, none⟩ = some (.int .i64 q0) := carry hb1 (by simp [go_sem])
  have x1 : w1.cell? ⟨w.heap.size + 1, 1, none⟩ = some (.int .i64 q1) := carry hb1 (by simp [go_sem])
  have y0 : w1.cell? ⟨w.heap.size + 1 + 1, 0, none⟩ = some (.int .i64 a0) := carry hb1 (by simp [go_sem])
  have y1 : w1.cell? ⟨w.heap.size + 1 + 1, 1, none⟩ = some (.int .i64 a1) := carry hb1 (by simp [go_sem])
  have hb0 := below_step (below_step (below_step (alloc_below _ _) (alloc_below _ _)) (alloc_below _ _)) hb1
  have hRw := Lib.hid (hR'.out.carry hb0)
  clear hb1 hR hR'
  go_wp2_with fail
  go_loopw [9, 10, 11] (fun l h i wr => ∃ c : Nat, c ≤ vs.length ∧ i = .int .i64 c ∧ (∃ zl zh : Int, l = .int .i64 zl ∧ h = .int .i64 zh ∧ (0 < c → zl = lo (dotV q0 q1 a0 a1) vs c ∧ zh = hi (dotV q0 q1 a0 a1) vs c)) ∧ Below w1.heap.size w1 wr) (fun _ _ i _ => vs.length - (intOf i).toNat)
  case atStart => exact ⟨0, Nat.zero_le _, rfl, ⟨_, _, rfl, rfl, fun h => absurd h (by omega)⟩, Below.refl _ _⟩
  case round =>
    obtain ⟨c, hc, rfl, ⟨zl, zh, rfl, rfl, hz⟩, hbl⟩ := hrel
    have hz' := Lib.hid hz
    clear hz
    have c2' := carry hbl c2
    by_cases hlt : c < vs.length
    · have X0 := carry hbl x0
      have X1 := carry hbl x1
      have Y0 := carry hbl y0
      have Y1 := carry hbl y1
      obtain ⟨vx, vy⟩ := (hRw.out.carry hbl).at hlt
      obtain ⟨s0, s1⟩ := hS'.out c hlt
      have ls := Lib.hid (lo_succ (dotV q0 q1 a0 a1) hlt)
      have us := Lib.hid (hi_succ (dotV q0 q1 a0 a1) hlt)
      have lz := Lib.hid (fun h : c = 0 => (show lo (dotV q0 q1 a0 a1) vs c = dotV q0 q1 a0 a1 (at' vs c) ∧ hi (dotV q0 q1 a0 a1) vs c = dotV q0 q1 a0 a1 (at' vs c) by subst h; exact ⟨rfl, rfl⟩))
      have k1 := fun w => refAdd_any q0 q1 (at' vs c).1 (at' vs c).2 w b0 b1 (by unfold Bd; omega) (by unfold Bd; omega)
      have k2 := fun w => refDot_any (q0 + (at' vs c).1) (q1 + (at' vs c).2) a0 a1 w (bd_add h0 s0) (bd_add h1 s1) h2 h3
      have k2' : ∀ w, _ := k2
      have hE : flr ((q0 + (at' vs c).1) * a0 + (q1 + (at' vs c).2) * a1) 1024 = dotV q0 q1 a0 a1 (at' vs c) := rfl
      rw [hE] at k2
      generalize dotV q0 q1 a0 a1 (at' vs c) = E at *
      generalize (at' vs c).1 = v0 at *
      generalize (at' vs c).2 = v1 at *
      have hk := Lib.hid (And.intro k1 k2)
      clear k1 k2 k2' hE
      have hclt : (c : Int) < (vs.length : Int) := by omega
      by_cases hc0 : c = 0
      · subst hc0
        go_wp2_with fail
        refine wp_region_made (by kernel_rfl) (by kernel_rfl) ?_
        intro W hK
        have g_X0 := fun x => carry ((hK.below x)) X0
        have g_X1 := fun x => carry ((hK.below x)) X1
        have g_Y0 := fun x => carry ((hK.below x)) Y0
        have g_Y1 := fun x => carry ((hK.below x)) Y1
        have g_vx := fun x => carry ((hK.below x)) vx
        have g_vy := fun x => carry ((hK.below x)) vy
        have g_c2' := fun x => carry ((hK.below x)) c2'
        repeat (go_big_quiet_step ((first | (go_at_call 64; with_reducible exact met_made (hk.out.1 _)) | (go_at_call 52; with_reducible exact met_made (hk.out.2 _)))))
        refine wpQuiet_nil ?_
        intro wq hw'
        have hbq := kept_in hK hw'
        clear g_X0 g_X1 g_Y0 g_Y1 g_vx g_vy g_c2'
        clear hw' hK W
        replace X0 := carry (hbq) X0
        replace X1 := carry (hbq) X1
        replace Y0 := carry (hbq) Y0
        replace Y1 := carry (hbq) Y1
        replace vx := carry (hbq) vx
        replace vy := carry (hbq) vy
        replace c2' := carry (hbq) c2'
        go_wp2
        go_roundw
        case rel => exact ⟨1, by omega, by go_num, ⟨_, _, rfl, rfl, fun _ => ⟨by rw [show (1 : Nat) = 0 + 1 from rfl, ls.out, (lz.out (by first | trivial | rfl)).1]; omega, by rw [show (1 : Nat) = 0 + 1 from rfl, us.out, (lz.out (by first | trivial | rfl)).2]; omega⟩⟩, below_step hbl hbq⟩
        case measure => simp [intOf]; omega
      · have hcb : ((c : Int) == 0) = false := by simp only [beq_eq_false_iff_ne, ne_eq]; omega
        have hmn := min_if zl E
        have hmx := max_if zh E
        generalize hZ : min zl E = zl' at hmn
        generalize hZ2 : max zh E = zh' at hmx
        have hZ' := Lib.hid (And.intro hZ hZ2)
        clear hZ hZ2
        go_wp2_with fail
        refine wp_region_made (by kernel_rfl) (by kernel_rfl) ?_
        intro W hK
        have g_X0 := fun x => carry ((hK.below x)) X0
        have g_X1 := fun x => carry ((hK.below x)) X1
        have g_Y0 := fun x => carry ((hK.below x)) Y0
        have g_Y1 := fun x => carry ((hK.below x)) Y1
        have g_vx := fun x => carry ((hK.below x)) vx
        have g_vy := fun x => carry ((hK.below x)) vy
        have g_c2' := fun x => carry ((hK.below x)) c2'
        repeat (go_big_quiet_step ((first | (go_at_call 64; with_reducible exact met_made (hk.out.1 _)) | (go_at_call 52; with_reducible exact met_made (hk.out.2 _)))))
        refine wpQuiet_nil ?_
        intro wq hw'
        have hbq := kept_in hK hw'
        clear g_X0 g_X1 g_Y0 g_Y1 g_vx g_vy g_c2'
        clear hw' hK W
        replace X0 := carry (hbq) X0
        replace X1 := carry (hbq) X1
        replace Y0 := carry (hbq) Y0
        replace Y1 := carry (hbq) Y1
        replace vx := carry (hbq) vx
        replace vy := carry (hbq) vy
        replace c2' := carry (hbq) c2'
        go_wp2
        go_roundw
        case rel => exact ⟨c + 1, by omega, by go_num, ⟨_, _, rfl, rfl, fun _ => ⟨by rw [ls.out, ← (hz'.out (by omega)).1, hZ'.out.1], by rw [us.out, ← (hz'.out (by omega)).2, hZ'.out.2]⟩⟩, below_step hbl hbq⟩
        case measure => simp [intOf]; omega
    · obtain rfl : c = vs.length := by omega
      obtain ⟨e1, e2⟩ := hz'.out (by omega)
      go_wp2
      go_ret2
      exact ⟨by rw [← e1, ← e2]; rfl, below_step hb0 hbl⟩
end Go.Proofs.Ytfbgghkkgmgnjaa
