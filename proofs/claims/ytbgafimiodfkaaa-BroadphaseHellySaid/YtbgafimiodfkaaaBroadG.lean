/- The reference of package broadphase: Pairs. -/
import Derived.Test.YtbgafimiodfkaaaBroadF
namespace Go.Proofs.Ytbgafimiodfkaaa
open Go.ChangeShapes Go.WideShapes Go.ChangeAt Go.RowKit
open Bo
set_option linter.unusedSimpArgs false
set_option linter.unusedVariables false

def Proper (b : Bx) : Prop := b.x0 ≤ b.x1 ∧ b.y0 ≤ b.y1
def AllProper (bs : List Bx) : Prop := ∀ i, i < bs.length → Proper (at' bs i)
theorem refOverlap4 (a b : Bx) (ha : Proper a) (hb : Proper b) (w : World) :
    Calls Try.prog 12 #[.agg #[.int .i64 a.x0, .int .i64 a.y0, .int .i64 a.x1, .int .i64 a.y1], .agg #[.int .i64 b.x0, .int .i64 b.y0, .int .i64 b.x1, .int .i64 b.y1]] w fun e w' =>
      e = .returned (.bool (ov a b)) ∧ Below w.heap.size w w' := by
  have := refOverlap_any a b w
  rw [rov_ov ha hb] at this
  exact this
/-- The pairs of the boxes ahead of i, and of i with those ahead of t. -/
def prt (bs : List Bx) (i t : Nat) : List (Nat × Nat) := prs bs i ++ rowP bs i t
theorem prt_len (bs : List Bx) (i t : Nat) (hi : i ≤ bs.length) (ht : t ≤ bs.length) (hn : bs.length ≤ 1000) : (prt bs i t).length ≤ 1001000 := by
  have h1 := prs_len bs i
  have h2 := rowP_len bs i t
  have h3 : i * bs.length ≤ 1000 * 1000 := Nat.mul_le_mul (by omega) hn
  unfold prt
  rw [List.length_append]; omega
theorem prt_yes {bs : List Bx} {i t : Nat} (h : i < t) (ho : Ov (at' bs i) (at' bs t)) : prt bs i (t + 1) = prt bs i t ++ [(i, t)] := by
  unfold prt; rw [rowP_yes h ho, List.append_assoc]
theorem prt_no {bs : List Bx} {i t : Nat} (ho : ¬ Ov (at' bs i) (at' bs t)) : prt bs i (t + 1) = prt bs i t := by
  unfold prt; rw [rowP_no ho]
theorem prt_start (bs : List Bx) (i : Nat) : prt bs i (i + 1) = prs bs i := by
  unfold prt; rw [rowP_start bs i (i + 1) (Nat.le_refl _), List.append_nil]
theorem flat_snoc_pr (l : List (Nat × Nat)) (i t : Nat) : (l ++ [(i, t)]).flatMap encPr = l.flatMap encPr ++ [.int .i64 (i : Int), .int .i64 (t : Int)] := by
  rw [List.flatMap_append, List.flatMap_singleton]; rfl

def OwnsPairs (w : World) (base : Nat) (v : Value) (l : List (Nat × Nat)) : Prop := w.ownsRow base 39 2 v l.length (l.flatMap encPr)

set_option maxRecDepth 100000 in
set_option maxHeartbeats 4000000 in
theorem refPairsN_any (g off cap : Nat) (bs : List Bx) (w : World) (hR : RowK Bx.cells w g off cap bs) (hn : bs.length ≤ 1000) (hP : AllProper bs) :
    Calls Try.prog 17 #[.slice (some ⟨g, off, none⟩) bs.length cap] w fun e w' => PairsPost bs w.heap.size e w' ∧ Below w.heap.size w w' := by
  obtain ⟨i0, hi0, hz0, hz1, hz2⟩ := info_parts infoPr
  have hcap := hR.le
  have hmax := hR.max
  unfold maxLen at hmax
  have hR' := Lib.hid hR; clear hR
  have hi0' := Lib.hid hi0; clear hi0
  have hz0' := Lib.hid hz0; clear hz0
  have hz1' := Lib.hid hz1; clear hz1
  have hz2' := Lib.hid hz2; clear hz2
  have hP' := Lib.hid hP; clear hP
  go_enter Try.func17, Try.ntmps17
  go_wp2_with fail
  go_loopw [3, 4] (fun v i wr => ∃ k : Nat, k ≤ bs.length ∧ i = .int .i64 k ∧ OwnsPairs wr w.heap.size v (prs bs k) ∧ Below w.heap.size w wr) (fun _ i _ => bs.length - (intOf i).toNat)
  case atStart => exact ⟨0, Nat.zero_le _, rfl, World.ownsRow_nil _ _ _ _, Below.refl _ _⟩
  case round =>
    obtain ⟨k, hk, rfl, hown, hB⟩ := hrel
    by_cases hlt : k < bs.length
    · have hown' := Lib.hid hown
      clear hown
      go_wp2_with fail
      go_loopw [3, 5] (fun v i wi => ∃ t : Nat, k + 1 ≤ t ∧ t ≤ bs.length ∧ i = .int .i64 t ∧ OwnsPairs wi w.heap.size v (prt bs k t) ∧ Below w.heap.size w wi) (fun _ i _ => bs.length - (intOf i).toNat)
      case atStart => exact ⟨k + 1, Nat.le_refl _, hlt, by go_num, by rw [prt_start]; exact hown'.out, hB⟩
      case round =>
        obtain ⟨t, ht1, ht2, rfl, hown, hB⟩ := hrel
        clear hown'
        by_cases hlt2 : t < bs.length
        · obtain ⟨c0, c1, c2, c3⟩ := row_box (i := k) (hR'.out.carry hB) hlt
          obtain ⟨d0, d1, d2, d3⟩ := row_box (i := t) (hR'.out.carry hB) hlt2
          have hlen := prt_len bs k t (by omega) (by omega) hn
          have K := fun W => refOverlap4 (at' bs k) (at' bs t) (hP'.out k hlt) (hP'.out t hlt2) W
          have hsw := hB.size
          by_cases ho : Ov (at' bs k) (at' bs t)
          · rw [ov_true ho] at K
            have hK' := Lib.hid K
            have hp := Lib.hid (prt_yes (by omega) ho)
            clear K ho
            go_wp2_with fail
            refine wp_region_made (by kernel_rfl) (by kernel_rfl) ?_
            intro W hK
            have g_c0 := fun x => carry ((hK.below x)) c0
            have g_c1 := fun x => carry ((hK.below x)) c1
            have g_c2 := fun x => carry ((hK.below x)) c2
            have g_c3 := fun x => carry ((hK.below x)) c3
            have g_d0 := fun x => carry ((hK.below x)) d0
            have g_d1 := fun x => carry ((hK.below x)) d1
            have g_d2 := fun x => carry ((hK.below x)) d2
            have g_d3 := fun x => carry ((hK.below x)) d3
            repeat (go_big_quiet_step ((go_at_call 12; with_reducible exact met_made (hK'.out _))))
            refine wpQuiet_nil ?_
            intro wq hw'
            have hbq := kept_in hK hw'
            clear g_c0 g_c1 g_c2 g_c3 g_d0 g_d1 g_d2 g_d3
            clear hw' hK W
            replace c0 := carry (hbq) c0
            replace c1 := carry (hbq) c1
            replace c2 := carry (hbq) c2
            replace c3 := carry (hbq) c3
            replace d0 := carry (hbq) d0
            replace d1 := carry (hbq) d1
            replace d2 := carry (hbq) d2
            replace d3 := carry (hbq) d3
            have hownq := ownsRow_below hown hbq
            have hsq := hbq.size
            clear hown c0 c1 c2 c3 d0 d1 d2 d3
            go_wp2_with (at_builtin; refine wpList_append_own _ rfl _ _ 31 rfl w.heap.size 39 i0 _ 2 16 Try.underlying31 hi0'.out hz0'.out hz1'.out hz2'.out rfl (by decide) _ _ _ rfl (hownq.alloc _) ⟨wq.heap.size, 0, none⟩ 1 1 [.int .i64 (k : Int), .int .i64 (t : Int)] rfl rfl (new_cells _ _ _ _ rfl) (two_one _ _) (by unfold maxLen; omega) (by omega) (by simp; omega) ?_; intro v' w2 hown2 hg2 _)
            have hB2 := (below_step (below_step hB hbq) (alloc_below _ _)).grown hg2 (by simp; omega) (fun j hj => (hownq.lt j hj).1)
            go_wp2_with fail
            go_roundw
            case rel => exact ⟨t + 1, by omega, by omega, by go_num, by unfold OwnsPairs; rw [hp.out, flat_snoc_pr, List.length_append, List.length_singleton]; exact hown2, hB2⟩
            case measure => simp [intOf]; omega
          · rw [ov_false ho] at K
            have hK' := Lib.hid K
            have hp := Lib.hid (prt_no ho)
            clear K ho
            go_wp2_with fail
            refine wp_region_made (by kernel_rfl) (by kernel_rfl) ?_
            intro W hK
            have g_c0 := fun x => carry ((hK.below x)) c0
            have g_c1 := fun x => carry ((hK.below x)) c1
            have g_c2 := fun x => carry ((hK.below x)) c2
            have g_c3 := fun x => carry ((hK.below x)) c3
            have g_d0 := fun x => carry ((hK.below x)) d0
            have g_d1 := fun x => carry ((hK.below x)) d1
            have g_d2 := fun x => carry ((hK.below x)) d2
            have g_d3 := fun x => carry ((hK.below x)) d3
            repeat (go_big_quiet_step ((go_at_call 12; with_reducible exact met_made (hK'.out _))))
            refine wpQuiet_nil ?_
            intro wq hw'
            have hbq := kept_in hK hw'
            clear g_c0 g_c1 g_c2 g_c3 g_d0 g_d1 g_d2 g_d3
            clear hw' hK W
            replace c0 := carry (hbq) c0
            replace c1 := carry (hbq) c1
            replace c2 := carry (hbq) c2
            replace c3 := carry (hbq) c3
            replace d0 := carry (hbq) d0
            replace d1 := carry (hbq) d1
            replace d2 := carry (hbq) d2
            replace d3 := carry (hbq) d3
            have hownq := ownsRow_below hown hbq
            clear hown c0 c1 c2 c3 d0 d1 d2 d3
            go_wp2_with fail
            go_roundw
            case rel => exact ⟨t + 1, by omega, by omega, by go_num, by rw [hp.out]; exact hownq, below_step hB hbq⟩
            case measure => simp [intOf]; omega
        · obtain rfl : t = bs.length := by omega
          go_wp2_with fail
          go_roundw
          case rel => exact ⟨k + 1, by omega, by go_num, hown, hB⟩
          case measure => simp [intOf]; omega
    · obtain rfl : k = bs.length := by omega
      go_wp2
      go_ret
      exact ⟨⟨_, rfl, hown⟩, hB⟩

set_option maxHeartbeats 2000000 in
theorem refPairsE_any (a : Option Addr) (cap : Nat) (w : World) :
    Calls Try.prog 17 #[.slice a 0 cap] w fun e w' => PairsPost [] w.heap.size e w' ∧ Below w.heap.size w w' := by
  go_enter Try.func17, Try.ntmps17
  go_wp2_with fail
  refine wp_loop_rounds 1 ?_
  rw [rounds_succ]
  go_wp2
  go_ret
  exact ⟨⟨_, rfl, World.ownsRow_nil _ _ _ _⟩, Below.refl _ _⟩
theorem refPairs_any (v : Value) (bs : List Bx) (w : World) (hv : BoxesAt w v bs) (hn : bs.length ≤ 1000) (hP : AllProper bs) :
    Calls Try.prog 17 #[v] w fun e w' => PairsPost bs w.heap.size e w' ∧ Below w.heap.size w w' := by
  rcases hv with ⟨rfl, a, cap, rfl⟩ | ⟨g, off, cap, rfl, hR⟩
  · exact refPairsE_any a cap w
  · exact refPairsN_any g off cap bs w hR hn hP
end Go.Proofs.Ytbgafimiodfkaaa
