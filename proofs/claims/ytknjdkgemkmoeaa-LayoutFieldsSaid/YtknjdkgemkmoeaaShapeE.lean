/- Package shape: isConvex. -/
import Derived.Test.YtknjdkgemkmoeaaShapeB
namespace Go.Proofs.Ytknjdkgemkmoeaa
open Go.ChangeShapes Go.WideShapes Go.ChangeAt Go.RowKit Go.Shelf
open Fxm
set_option linter.unusedSimpArgs false
set_option linter.unusedVariables false
attribute [local go_sem] Oper.semAt_some

/-- The slice of n = vs.length vertices that starts at cell off of block g, of capacity cap, holds vs. -/
structure RowO (w : World) (g off cap : Nat) (vs : List (Int × Int)) : Prop where
  le : vs.length ≤ cap
  max : cap ≤ maxLen
  cells : ∀ i u, (flatV vs)[i]? = some u → w.cell? ⟨g, off + i, none⟩ = some u
theorem RowO.carry {w w' : World} {g off cap : Nat} {vs : List (Int × Int)} (h : RowO w g off cap vs) (hb : Below w.heap.size w w') : RowO w' g off cap vs :=
  ⟨h.le, h.max, fun i u hu => Proofs.Ytknjdkgemkmoeaa.carry hb (h.cells i u hu)⟩
theorem Row.o {w : World} {g cap : Nat} {vs : List (Int × Int)} (h : Row w g cap vs) : RowO w g 0 cap vs := ⟨h.le, h.max, fun i u hu => by rw [Nat.zero_add]; exact h.cells i u hu⟩
theorem RowO.at {w : World} {g off cap : Nat} {vs : List (Int × Int)} (h : RowO w g off cap vs) {i : Nat} (hi : i < vs.length) :
    w.cell? ⟨g, off + i * 2, none⟩ = some (.int .i64 (at' vs i).1) ∧ w.cell? ⟨g, off + i * 2 + 1, none⟩ = some (.int .i64 (at' vs i).2) := by
  have := flatV_at vs i hi
  have e : at' vs i = vs[i] := by unfold at'; rw [List.getD_eq_getElem?_getD, List.getElem?_eq_getElem hi]; rfl
  rw [e]
  exact ⟨h.cells _ _ this.1, by rw [Nat.add_assoc]; exact h.cells _ _ this.2⟩

/-- The origin and all other vertices lie strictly to the left of edge c. -/
def EdgeOk (vs : List (Int × Int)) (c : Nat) : Prop :=
  0 < leftV (at' vs c) (at' vs ((c + 1) % vs.length)) (0, 0) ∧ ∀ j, j < vs.length → j ≠ c → j ≠ (c + 1) % vs.length → 0 < leftV (at' vs c) (at' vs ((c + 1) % vs.length)) (at' vs j)
def Convex (vs : List (Int × Int)) : Prop := ∀ c, c < vs.length → EdgeOk vs c
section
open Classical in
noncomputable def convexB (vs : List (Int × Int)) : Bool := if Convex vs then true else false
end
theorem convex_true {vs : List (Int × Int)} (h : Convex vs) : convexB vs = true := by unfold convexB; rw [if_pos h]
theorem convex_false {vs : List (Int × Int)} {c : Nat} (hc : c < vs.length) (h : ¬ EdgeOk vs c) : convexB vs = false := by unfold convexB; rw [if_neg fun k => h (k c hc)]
theorem small_bq {x : Int} (hx : -32768 ≤ x ∧ x ≤ 32768) : Bq x := by unfold Bq; omega
theorem bq_zero : Bq 0 := by unfold Bq; omega

set_option maxRecDepth 100000 in
set_option maxHeartbeats 4000000 in
theorem isConvex_any (g off cap : Nat) (vs : List (Int × Int)) (w : World) (hR : RowO w g off cap vs) (hl : 3 ≤ vs.length) (hl2 : vs.length ≤ 1000) (hS : Small vs) :
    Calls Try.prog 100 #[.slice (some ⟨g, off, none⟩) vs.length cap] w fun e w' => e = .returned (.bool (convexB vs)) ∧ Below w.heap.size w w' := by
  have hcap := hR.le
  have hmax := hR.max
  unfold maxLen at hmax
  have hlb : (vs.length : Int) ≤ 1000 := by omega
  have hB := below_step (alloc_below w (.cells #[.slice (some ⟨g, off, none⟩) vs.length cap] 70)) (alloc_below _ (.cells #[.bool false] 4))
  have hR' := Lib.hid (hR.carry hB)
  have hS' := Lib.hid hS
  clear hR
  refine (callsIn_wide (n := 9)).1 (callsIn_of_wp_marks Try.func100 rfl trivial (wpIn_wide.2 ?_) rfl)
  simp only [Try.ntmps100, List.size_toArray, List.length_cons, List.length_nil, Nat.reduceAdd, Nat.reduceSub, Array.replicate_succ, Array.replicate_zero, List.push_toArray, List.append_toArray, List.nil_append, List.cons_append]
  go_wp2_with fail
  refine (edges_any vs.length _).mono ?_
  rintro e w2 ⟨rfl, hw2⟩
  have hz : ((w.alloc (.cells #[.slice (some ⟨g, off, none⟩) vs.length cap] 70)).alloc (.cells #[.bool false] 4)).heap.size = w.heap.size + 1 + 1 := by rw [World.size_alloc, World.size_alloc]
  have hb2 := alloc_below ((w.alloc (.cells #[.slice (some ⟨g, off, none⟩) vs.length cap] 70)).alloc (.cells #[.bool false] 4)) (.cells #[.int .i64 vs.length] 3)
  rw [← hw2] at hb2
  have dn : w2.cell? ⟨w.heap.size + 1 + 1, 0, none⟩ = some (.int .i64 vs.length) := by
    have := World.cell?_alloc_new (w := (w.alloc (.cells #[.slice (some ⟨g, off, none⟩) vs.length cap] 70)).alloc (.cells #[.bool false] 4)) #[.int .i64 vs.length] 3 0
    rw [← hw2, hz] at this; exact this
  have c2 : w2.cell? ⟨w.heap.size, 0, none⟩ = some (.slice (some ⟨g, off, none⟩) vs.length cap) := carry hb2 (by simp)
  have c3 : w2.cell? ⟨w.heap.size + 1, 0, none⟩ = some (.bool false) := carry hb2 (by simp)
  have c4 : w2.frozen? ⟨w.heap.size + 1, 0, none⟩ = false := (hb2.frozen (by simp)).trans (by simp [go_sem])
  have hR2 := Lib.hid (hR'.out.carry hb2)
  have hBB := below_step hB hb2
  have hnn := block_lt_of_cell dn
  simp only [hz]
  clear hB hb2 hw2 hz
  go_wp2_with fail
  have e1 := edges_stops 8 (w.heap.size + 1 + 1) w2.heap.size vs.length (by omega) (by omega) w2 dn hnn (Nat.le_refl _)
  refine (wpIn_wide (n := 9)).1 ?_
  refine range_law (F := Fence.wide) (m := 9) (fun pre W => (∀ i ∈ pre, EdgeOk vs i.1) ∧ Below w2.heap.size w2 W)
    (fun c pre W => (c = .ret ∧ ∃ i, i < vs.length ∧ ¬ EdgeOk vs i) ∧ W.cell? ⟨w.heap.size + 1, 0, none⟩ = some (.bool false) ∧ Below w.heap.size w W)
    rfl (by omega) (gf := 110) (lb := #[.pointer (some ⟨w.heap.size + 1 + 1, 0, none⟩)]) rfl trivial ?eg e1 ?ps ?hI ?hIx ?h0 ?both ?done ?stop
  case eg => exact enters_of Try.func110 (by kernel_rfl) rfl
  case ps => exact fun _ => rfl
  case hI => exact OwnFrom.and (ownFrom_pure _ _) (ownFrom_below (Nat.le_refl _) (Nat.le_refl _))
  case hIx => exact fun c => OwnFrom.and (ownFrom_pure _ _) (OwnFrom.and (Own.from (fun s A B row hs hg hr => cell_kept hs hg hr) _) (ownFrom_below (Nat.le_refl _) hBB.size))
  case h0 => exact ⟨by simp, Below.refl _ _⟩
  case both =>
    apply Exists.intro
    refine ⟨fun l x W K hK => ?_, fun l pre x W hI hlen => ?_⟩
    · simp only [edgeV]
      gi_wp2
      exact hK
    · obtain ⟨hok, hBW⟩ := hI
      have hok' := Lib.hid hok
      clear hok
      have hlt := x.2
      obtain ⟨c, hcx⟩ : ∃ c, c = x.1 := ⟨_, rfl⟩
      have hxc := Lib.hid hcx
      rw [← hcx] at hlt
      simp only [← hcx]
      clear hcx
      have C2 := carry hBW c2
      have R3 := carry hBW c3
      have F3 := (hBW.frozen (p := ⟨w.heap.size + 1, 0, none⟩) (block_lt_of_cell c3)).trans c4
      have hRr := hR2.out.carry hBW
      obtain ⟨m, hm⟩ : ∃ m, m = (c + 1) % vs.length := ⟨_, rfl⟩
      have hmlt : m < vs.length := by rw [hm]; exact Nat.mod_lt _ (by omega)
      obtain ⟨vx, vy⟩ := hRr.at hlt
      obtain ⟨ux, uy⟩ := hRr.at hmlt
      have sc := hS'.out c hlt
      have sm := hS'.out m hmlt
      have hmod : ((c : Int) + 1) % (vs.length : Int) = (m : Int) := by rw [hm]; push_cast; rfl
      simp only [hmod]
      clear hmod
      have hE : ∀ (P : Prop), (EdgeOk vs c ↔ P) → (EdgeOk vs c ↔ P) := fun _ h => h
      have hEd : EdgeOk vs c ↔ (0 < leftV ((at' vs c).1, (at' vs c).2) ((at' vs m).1, (at' vs m).2) (0, 0) ∧ ∀ j, j < vs.length → j ≠ c → j ≠ m → 0 < leftV ((at' vs c).1, (at' vs c).2) ((at' vs m).1, (at' vs m).2) (at' vs j)) := by
        unfold EdgeOk; rw [← hm]
      clear hm hE
      have K := fun p0 p1 (q0 : Bq p0) (q1 : Bq p1) w bu bv h1 h2 h3 h4 => leftFn_any p0 p1 (at' vs c).1 (at' vs c).2 (at' vs m).1 (at' vs m).2 bu bv w h1 h2 h3 h4 q0 q1 (small_bq sc.1) (small_bq sc.2) (small_bq sm.1) (small_bq sm.2)
      generalize (at' vs c).1 = v0 at *
      generalize (at' vs c).2 = v1 at *
      generalize (at' vs m).1 = u0 at *
      generalize (at' vs m).2 = u1 at *
      obtain ⟨LF, hLF⟩ : ∃ LF : Int × Int → Int, LF = leftV (v0, v1) (u0, u1) := ⟨_, rfl⟩
      rw [← hLF] at K hEd
      clear hLF
      have hKl := Lib.hid K
      have hEd' := Lib.hid hEd
      have hclt : (c : Int) < (vs.length : Int) := by omega
      have hmlt' : (m : Int) < (vs.length : Int) := by omega
      clear K hEd
      gi_wp2
      refine round_reads 8 (by kernel_rfl) (by kernel_rfl) (by kernel_rfl) (fun _ _ h => h) ?_
      simp only [List.take_succ_cons, List.take_zero, List.drop_succ_cons, List.drop_zero]
      repeat (go_big_quiet_step (fail))
      refine wpQuiet_nil ?_
      rintro _ ⟨kq, rfl⟩
      go_wp2_with fail
      go_at_call 107
      refine (leftOf_any _ _ _ _ _).mono ?_
      rintro e w' ⟨rfl, hw'⟩
      obtain ⟨hb3, bv0, bv1, bu0, bu1⟩ := two_new hw'
      have hRx := Lib.hid (hRr.carry hb3)
      replace C2 := carry hb3 C2
      replace F3 := (hb3.frozen (p := ⟨w.heap.size + 1, 0, none⟩) (block_lt_of_cell R3)).trans F3
      replace R3 := carry hb3 R3
      clear hw' hRr vx vy ux uy
      go_wp2_with fail
      obtain ⟨L0, hL0⟩ : ∃ L0, L0 = LF (0, 0) := ⟨_, rfl⟩
      have k0 := fun w bu bv h1 h2 h3 h4 => hKl.out 0 0 bq_zero bq_zero w bu bv h1 h2 h3 h4
      rw [← hL0] at k0
      have hL0' := Lib.hid hL0
      have k0' := Lib.hid k0
      clear k0 hL0
      by_cases hneg : L0 ≤ 0
      · have hn' : decide (L0 ≤ 0) = true := decide_eq_true hneg
        gi_wp2_with (refine ⟨trivial, ?_⟩; gi_at_call 111; refine (CallsIn.inRound l (callsIn_wide.2 (k0'.out _ _ _ bu0 bu1 bv0 bv1))).mono ?_; rintro e w4 ⟨rfl, hb4⟩; replace F3 := (hb4.frozen (p := ⟨w.heap.size + 1, 0, none⟩) (block_lt_of_cell R3)).trans F3; replace R3 := carry hb4 R3)
        have hb5 := below_step hb3 hb4
        exact ⟨(keeps_below hb5).trans ((KeepsOthers.setCell _ _ _).from _), ⟨rfl, c, hlt, fun h => by have := (hEd'.out.1 h).1; rw [← hL0'.out] at this; omega⟩, World.cell?_setCell_same' _ _ _ (by rw [R3]; rfl), (below_step hBB (below_step hBW hb5)).setCell (by simp) _⟩
      · have hn' : decide (L0 ≤ 0) = false := decide_eq_false hneg
        gi_wp2_with (refine ⟨trivial, ?_⟩; gi_at_call 111; refine (CallsIn.inRound l (callsIn_wide.2 (k0'.out _ _ _ bu0 bu1 bv0 bv1))).mono ?_; rintro e w4 ⟨rfl, hb4⟩; replace F3 := (hb4.frozen (p := ⟨w.heap.size + 1, 0, none⟩) (block_lt_of_cell R3)).trans F3; replace R3 := carry hb4 R3; replace C2 := carry hb4 C2)
        have hb5 := below_step hb3 hb4
        have hRy := Lib.hid (hRx.out.carry hb4)
        replace bv0 := carry hb4 bv0
        replace bv1 := carry hb4 bv1
        replace bu0 := carry hb4 bu0
        replace bu1 := carry hb4 bu1
        have nn := block_lt_of_cell bu0
        clear hRx k0' hb3 hb4 hn'
        gi_loopw [28] (fun i wr => ∃ k : Nat, k ≤ vs.length ∧ i = .int .i64 k ∧ (∀ j, j < k → j ≠ c → j ≠ m → 0 < LF (at' vs j)) ∧ Below w4.heap.size w4 wr) (fun i _ => vs.length - (intOf i).toNat)
        case atStart => exact ⟨0, Nat.zero_le _, rfl, fun j hj => absurd hj (Nat.not_lt_zero _), Below.refl _ _⟩
        case round =>
          obtain ⟨k, hk, rfl, hall, hbl⟩ := hrel
          have hall' := Lib.hid hall
          clear hall
          by_cases hlk : k < vs.length
          · obtain ⟨kx, ky⟩ := (hRy.out.carry hbl).at hlk
            have sk := hS'.out k hlk
            obtain ⟨z, hz⟩ : ∃ z, z = at' vs k := ⟨_, rfl⟩
            have hz' := Lib.hid hz
            rw [← hz] at kx ky sk
            clear hz
            have k1 := fun w bu bv h1 h2 h3 h4 => hKl.out z.1 z.2 (small_bq sk.1) (small_bq sk.2) w bu bv h1 h2 h3 h4
            obtain ⟨Z, hZ⟩ : ∃ Z, Z = LF z := ⟨_, rfl⟩
            rw [show LF (z.1, z.2) = Z by rw [hZ]] at k1
            have hZ' := Lib.hid hZ
            have k1' := Lib.hid k1
            clear k1 hZ
            generalize z.1 = z0 at *
            generalize z.2 = z1 at *
            replace bu0 := carry (alloc_below wr (.cells #[.int .i64 z0, .int .i64 z1] 52)) (carry hbl bu0)
            replace bu1 := carry (alloc_below wr (.cells #[.int .i64 z0, .int .i64 z1] 52)) (carry hbl bu1)
            replace bv0 := carry (alloc_below wr (.cells #[.int .i64 z0, .int .i64 z1] 52)) (carry hbl bv0)
            replace bv1 := carry (alloc_below wr (.cells #[.int .i64 z0, .int .i64 z1] 52)) (carry hbl bv1)
            have hba := below_step hbl (alloc_below wr (.cells #[.int .i64 z0, .int .i64 z1] 52))
            by_cases hkc : k = c
            · subst hkc
              gi_wp2
              refine ⟨fun _ _ => trivial, ?_⟩
              gi_wp2
              go_roundw
              case rel => exact ⟨k + 1, by omega, by go_num, fun j h1 h2 h3 => hall'.out j (by omega) h2 h3, hba⟩
              case measure => simp [intOf]; omega
            · by_cases hkm : k = m
              · subst hkm
                gi_wp2
                refine ⟨fun _ _ => trivial, ?_⟩
                gi_wp2
                go_roundw
                case rel => exact ⟨k + 1, by omega, by go_num, fun j h1 h2 h3 => hall'.out j (by omega) h2 h3, hba⟩
                case measure => simp [intOf]; omega
              · replace F3 := (hba.frozen (p := ⟨w.heap.size + 1, 0, none⟩) (block_lt_of_cell R3)).trans F3
                replace R3 := carry hba R3
                have nR := block_lt_of_cell R3
                have hck := Lib.hid (And.intro hkc hkm)
                have q1 : ((k : Int) != (c : Int)) = true := by simp; omega
                have q2 : ((k : Int) != (m : Int)) = true := by simp; omega
                by_cases hneg2 : Z ≤ 0
                all_goals
                  first | have hn' : decide (Z ≤ 0) = true := decide_eq_true hneg2 | have hn' : decide (Z ≤ 0) = false := decide_eq_false hneg2
                  gi_wp2_with (refine ⟨trivial, ?_⟩; gi_at_call 111; refine (CallsIn.inRound l (callsIn_wide.2 (k1'.out _ _ _ bu0 bu1 bv0 bv1))).mono ?_; rintro e w6 ⟨rfl, hb6⟩; replace F3 := (hb6.frozen (p := ⟨w.heap.size + 1, 0, none⟩) nR).trans F3; replace R3 := carry hb6 R3)
                  have hb7 := below_step hba hb6
                  have hb8 := below_step hb5 hb7
                  first
                    | exact ⟨(keeps_below hb8).trans ((KeepsOthers.setCell _ _ _).from _), ⟨rfl, c, hlt, fun h => by have := (hEd'.out.1 h).2 k hlk hck.out.1 hck.out.2; rw [← hz'.out, ← hZ'.out] at this; omega⟩, World.cell?_setCell_same' _ _ _ (by rw [R3]; rfl), (below_step hBB (below_step hBW hb8)).setCell (by simp) _⟩
                    | (go_roundw
                       case rel => exact ⟨k + 1, by omega, by go_num, fun j h1 h2 h3 => by
                         rcases Nat.lt_or_ge j k with h | h
                         · exact hall'.out j h h2 h3
                         · obtain rfl : j = k := by omega
                           rw [← hz'.out, ← hZ'.out]; omega, hb7⟩
                       case measure => simp [intOf]; omega)
          · obtain rfl : k = vs.length := by omega
            have hEE := Lib.hid (hEd'.out.2 ⟨by rw [← hL0'.out]; omega, fun j h1 h2 h3 => hall'.out j h1 h2 h3⟩)
            gi_wp2
            have hb8 := below_step hb5 hbl
            exact ⟨keeps_below hb8, hb8.mono hBW.size, fun i hi => by
              rcases List.mem_append.1 hi with h | h
              · exact hok'.out i h
              · simp only [List.mem_singleton] at h
                subst h
                rw [← hxc.out]; exact hEE.out, below_step hBW hb8⟩
  case done =>
    rintro D ys W hD hall ⟨hok, hBW⟩ hK
    have R3 := carry hBW c3
    have F3 := (hBW.frozen (p := ⟨w.heap.size + 1, 0, none⟩) (block_lt_of_cell c3)).trans c4
    have hin' := Lib.hid (convex_true fun i hi => hok ⟨i, hi⟩ (hall _))
    clear hok hall
    go_wp2
    have hK' := (KeepsOthers.setCell W ⟨w.heap.size + 1, 0, none⟩ (.bool true)).same D _ hK rfl
    refine ⟨by simp, .inl ⟨_, _, rfl, run_takeDeferred hK', ?_⟩⟩
    have hc5 := cell_kept (World.cell?_setCell_same' W ⟨w.heap.size + 1, 0, none⟩ (.bool true) (by rw [R3]; rfl)) (grownBy_putObj' _ D (.deferred none)) (fun r e => by cases e; exact ⟨_, hK', rfl⟩)
    refine ⟨.bool true, ?_, ?_, ?_⟩
    · simp [results, Try.f100, go_sem, hc5]
    · rw [hin'.out]
    · exact ((below_step hBB hBW).setCell (by simp) _).trans (belowK_b (w := w) (Nat.le_refl _) _ D _ _ (by have := hBB.size; omega) hK' rfl rfl)
  case stop =>
    rintro D c pre W hD _ ⟨⟨rfl, i, hi, hneg⟩, hres, hBW⟩ hK
    have hin' := Lib.hid (convex_false hi hneg)
    clear hneg
    gi_wp2
    refine ⟨by simp, .inl ⟨_, _, rfl, run_takeDeferred hK, ?_⟩⟩
    have hc5 := cell_kept hres (grownBy_putObj' _ D (.deferred none)) (fun r e => by cases e; exact ⟨_, hK, rfl⟩)
    refine ⟨.bool false, ?_, ?_, ?_⟩
    · simp [results, Try.f100, go_sem, hc5]
    · rw [hin'.out]
    · exact hBW.trans (belowK_b (w := w) (Nat.le_refl _) _ D _ _ (by have := hBB.size; omega) hK rfl rfl)
end Go.Proofs.Ytknjdkgemkmoeaa
