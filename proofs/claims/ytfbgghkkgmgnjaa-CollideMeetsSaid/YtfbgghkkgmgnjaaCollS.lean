/- Package collide: the laws' helper long. -/
import Derived.Test.YtfbgghkkgmgnjaaCollR
import Derived.Deep.DeepCutAuto
import Derived.Deep.CutBlock
namespace Go.Proofs.Ytfbgghkkgmgnjaa
open Go.ChangeShapes Go.WideShapes Go.ChangeAt Go.RowKit Go.Shelf
open Fxm
set_option linter.unusedSimpArgs false
set_option linter.unusedVariables false

theorem longC_any (r : Int) (w : World) : Calls Try.prog 21 #[.agg #[.int .i64 r, .slice none 0 0]] w fun e w' => e = .returned (.bool true) ∧ Below w.heap.size w w' := by
  go_enter Try.func21, Try.ntmps21
  go_wp2_with fail
  have hB := alloc_below w (.cells #[.int .i64 r, .slice none 0 0] 25)
  go_loopw [3] (fun i wr => i = .int .i64 0 ∧ wr = w.alloc (.cells #[.int .i64 r, .slice none 0 0] 25)) (fun _ _ => 0)
  case atStart => exact ⟨rfl, rfl⟩
  case round =>
    obtain ⟨rfl, rfl⟩ := hrel
    go_wp2
    go_ret
    exact ⟨rfl, hB⟩
set_option maxHeartbeats 4000000 in
theorem longP_any (g cap : Nat) (vs : List (Int × Int)) (w : World) (hR : Row w g cap vs) (hG : Gen vs) :
    Calls Try.prog 21 #[.agg #[.int .i64 0, .slice (some ⟨g, 0, none⟩) vs.length cap]] w fun e w' => (∃ b : Bool, e = .returned (.bool b) ∧ (b = true → Far (.p g cap vs))) ∧ Below w.heap.size w w' := by
  have hcap := hR.le
  have hmax := hR.max
  have hl := hG.lo
  have hh := hG.hi
  unfold maxLen at hmax
  have hR' := Lib.hid hR
  have hS' := Lib.hid hG.small
  have hlb : (vs.length : Int) ≤ 1000 := by omega
  have hB := alloc_below w (.cells #[.int .i64 0, .slice (some ⟨g, 0, none⟩) vs.length cap] 25)
  have c2 : (w.alloc (.cells #[.int .i64 0, .slice (some ⟨g, 0, none⟩) vs.length cap] 25)).cell? ⟨w.heap.size, 1, none⟩ = some (.slice (some ⟨g, 0, none⟩) vs.length cap) := by simp
  have hRV := Lib.hid (hR.carry hB)
  clear hR hG
  go_enter Try.func21, Try.ntmps21
  go_upto_region 1 with fail
  generalize w.alloc (.cells #[.int .i64 0, .slice (some ⟨g, 0, none⟩) vs.length cap] 25) = V at *
  go_wp2_with fail
  go_loopw [3] (fun i wr => ∃ c : Nat, c ≤ vs.length ∧ i = .int .i64 c ∧ (∀ k, k < c → 1024 ≤ isq ((edgeD vs k).1 * (edgeD vs k).1 + (edgeD vs k).2 * (edgeD vs k).2)) ∧ Below V.heap.size V wr) (fun i _ => vs.length - (intOf i).toNat)
  case atStart => exact ⟨0, Nat.zero_le _, rfl, fun k hk => absurd hk (Nat.not_lt_zero _), Below.refl _ _⟩
  case round =>
    obtain ⟨c, hc, rfl, hall, hbl⟩ := hrel
    replace c2 := carry hbl c2
    have hall' := Lib.hid hall
    clear hall
    by_cases hlt : c < vs.length
    · have hRr := hRV.out.carry hbl
      obtain ⟨m, hm⟩ : ∃ m, m = (c + 1) % vs.length := ⟨_, rfl⟩
      have hmlt : m < vs.length := by rw [hm]; exact Nat.mod_lt _ (by omega)
      have hmod : ((c : Int) + 1) % (vs.length : Int) = (m : Int) := by rw [hm]; push_cast; rfl
      obtain ⟨vx, vy⟩ := hRr.at hlt
      obtain ⟨ux, uy⟩ := hRr.at hmlt
      have sc := hS'.out c hlt
      have sm := hS'.out m hmlt
      have hE : ∀ x y, (at' vs m).1 - (at' vs c).1 = x → (at' vs m).2 - (at' vs c).2 = y → edgeD vs c = (y, -x) := fun x y h1 h2 => by
        unfold edgeD; rw [← hm, h2]; exact Prod.ext rfl (by show (at' vs c).1 - (at' vs m).1 = -x; omega)
      generalize (at' vs c).1 = v0 at *
      generalize (at' vs c).2 = v1 at *
      generalize (at' vs m).1 = u0 at *
      generalize (at' vs m).2 = u1 at *
      have hE' := hE _ _ rfl rfl
      have K := fun w => sub_any u0 u1 v0 v1 w (by unfold Bd; omega) (by unfold Bd; omega) (by unfold Bd; omega) (by unfold Bd; omega)
      have x1 : -65536 ≤ u0 - v0 ∧ u0 - v0 ≤ 65536 := by omega
      have y1 : -65536 ≤ u1 - v1 ∧ u1 - v1 ≤ 65536 := by omega
      generalize u0 - v0 = x at *
      generalize u1 - v1 = y at *
      have hKl := Lib.hid K
      have hEl := Lib.hid hE'
      have hwr : IntKind.i64.wrap ((c : Int) + 1) = (c : Int) + 1 := IntWalk.i64_in _ (by omega)
      have hclt : (c : Int) < (vs.length : Int) := by omega
      have hmlt' : (m : Int) < (vs.length : Int) := by omega
      have hm0 : (0 : Int) ≤ (m : Int) := by omega
      clear hm K hE hE' hRr sc sm
      go_upto_region 4 with fail
      refine wp_region_alloc_last 16 (some 4) (.cells #[.int .i64 0, .int .i64 0] 28) (by kernel_rfl) (by kernel_rfl) ⟨_, rfl, rfl, fun _ => rfl, fun _ _ => by kernel_rfl⟩ ?_
      apply Exists.intro
      refine ⟨fun W hK E hE => ?_, ?_⟩
      · skip
        have g_c2 := fun x => carry ((hK.below x)) c2
        have g_vx := fun x => carry ((hK.below x)) vx
        have g_vy := fun x => carry ((hK.below x)) vy
        have g_ux := fun x => carry ((hK.below x)) ux
        have g_uy := fun x => carry ((hK.below x)) uy
        simp only [List.take_succ_cons, List.take_zero]
        repeat (go_big_quiet_step ((go_at_call 48; with_reducible exact met_made (hKl.out _))))
        refine wpQuiet_nil ?_
        exact hE
      intro B wq hBB hbq hheap
      simp only [List.drop_succ_cons, List.drop_zero, Act.put, List.setIfInBounds_toArray, List.set_cons_zero, List.set_cons_succ]
      have hstep := (hbq.setCell (p := ⟨B, 0, none⟩) hBB (.int .i64 (x))).setCell (p := ⟨B, 1, none⟩) hBB (.int .i64 (y))
      replace c2 := carry (hstep) c2
      have hh := heap_setCell (heap_setCell hheap 0 (.int .i64 (x))) 1 (.int .i64 (y))
      have vn0 := heap_cell hh 0
      have vn1 := heap_cell hh 1
      simp at vn0 vn1
      have hcB := heap_cell hheap
      have hfB := heap_frozen hheap
      clear hh hheap
      go_upto_region 5 with fail
      clear hwr hmod hclt hmlt' hm0 vx vy ux uy hcB hfB
      generalize (wq.setCell ⟨B, 0, none⟩ (.int .i64 x)).setCell ⟨B, 1, none⟩ (.int .i64 y) = X at *
      replace hbl := below_step hbl hstep
      go_cut [41] (fun v W => (∃ b : Bool, v = .bool b ∧ (b = false → ¬ max (max x (-x)) (max y (-y)) < 1024)) ∧ W = X)
      case first =>
        go_wp2_with fail
        all_goals
          go_meet
          first
            | exact ⟨⟨true, rfl, fun h => by cases h⟩, rfl⟩
            | exact ⟨⟨false, rfl, fun _ => by omega⟩, rfl⟩
            | exact ⟨⟨_, rfl, fun h => by have := of_decide_eq_false h; omega⟩, rfl⟩
      obtain ⟨⟨bb, rfl, hbb⟩, rfl⟩ := hcut
      cases bb with
      | true =>
        go_wp2
        go_ret
        exact ⟨.inl rfl, below_step hB hbl⟩
      | false =>
        have hf := Lib.hid (far_of (hbb rfl))
        clear hbb
        go_wp2_with fail
        go_roundw
        case rel => exact ⟨c + 1, by omega, by go_num, fun k hk => by
          rcases Nat.lt_or_ge k c with h | h
          · exact hall'.out k h
          · obtain rfl : k = c := by omega
            rw [hEl.out]; exact hf.out, hbl⟩
        case measure => simp [intOf]; omega
    · obtain rfl : c = vs.length := by omega
      go_wp2
      go_ret
      first
        | exact ⟨.inr ⟨rfl, hall'.out⟩, below_step hB hbl⟩
        | exact ⟨⟨true, rfl, fun _ => hall'.out⟩, below_step hB hbl⟩
theorem Sh.long {w : World} {s : Sp} (h : Sh w s) : Calls Try.prog 21 #[.agg #[.int .i64 s.r, .slice s.a s.n s.cap]] w fun e w' => (∃ b : Bool, e = .returned (.bool b) ∧ (b = true → Far s)) ∧ Below w.heap.size w w' := by
  cases s with
  | c r => exact (longC_any r w).mono fun e w' ⟨he, hb⟩ => ⟨⟨true, he, fun _ i hi => absurd hi (Nat.not_lt_zero _)⟩, hb⟩
  | p g cap vs => exact longP_any g cap vs w h.1 h.2
end Go.Proofs.Ytfbgghkkgmgnjaa
