/-
  package cellmem, P9.1, P9.6, with P1.1: for every list of fixed-point numbers (its first eight, made of any numbers), storing their squares, as package fixed multiplies, and undoing restores the numbers, and the section's example holds; whatever the argument is.
-/
import Derived.Test.YtlpacihkmfgegaaRows
import Derived.WalkKit
import Derived.ProofKit
import Derived.OpenShut
import Derived.Test.YtlpacihkmfgegaaOpen
import Derived.Test.YtlpacihkmfgegaaCmM
namespace Go.Proofs.Ytlpacihkmfgegaa.cellmemSquares
open Go.ChangeShapes Go.WideShapes Go.ChangeAt Go.RowKit
set_option linter.unusedVariables false
set_option linter.unusedSimpArgs false

open Cm Fxm
def few2 (Z : Nat → Int) (t : Nat) : List Int := (List.range t).map fun i => arnd (Z i) 16777216
theorem few2_succ (Z : Nat → Int) (t : Nat) : few2 Z (t + 1) = few2 Z t ++ [arnd (Z t) 16777216] := by unfold few2; rw [List.range_succ, List.map_append]; rfl
theorem few2_len (Z : Nat → Int) (t : Nat) : (few2 Z t).length = t := by unfold few2; simp
theorem few2_bd {Z : Nat → Int} {t i : Nat} {x : Int} (h : (few2 Z t)[i]? = some x) : 0 ≤ x ∧ x < 16777216 := by
  have hm := List.mem_of_getElem? h
  unfold few2 at hm
  obtain ⟨j, _, rfl⟩ := List.mem_map.1 hm
  exact arnd_bd _ (by omega)
def sqs (L : List Int) (t : Nat) : List (Int × Int) := (List.range t).map fun (i : Nat) => (((i : Nat) : Int), flr (L.getD i 0 * L.getD i 0) 1024)
theorem sqs_succ (L : List Int) (t : Nat) : sqs L (t + 1) = sqs L t ++ [((t : Int), flr (L.getD t 0 * L.getD t 0) 1024)] := by unfold sqs; rw [List.range_succ, List.map_append]; rfl
theorem sqs_len (L : List Int) (t : Nat) : (sqs L t).length = t := by unfold sqs; simp
theorem getD_at {L : List Int} {i : Nat} {x : Int} (h : L[i]? = some x) : L.getD i 0 = x := by simp [List.getD, h]
theorem get_at {S : Me} {j : Nat} {x : Int} (h : S.cs[j]? = some x) : S.get (j : Int) = x := by
  have hj := (List.getElem?_eq_some_iff.1 h).1
  unfold Me.get
  rw [if_pos (cin_iff.2 ⟨by omega, by omega⟩), Int.toNat_natCast]
  exact getD_at h
theorem sq_state (L : List Int) : ∀ t, t ≤ L.length → ((Me.new L).sets (sqs L t)).cs.length = L.length ∧ ∀ j x, L[j]? = some x → ((Me.new L).sets (sqs L t)).cs[j]? = some (if j < t then flr (x * x) 1024 else x)
  | 0, _ => ⟨rfl, fun j x h => by rw [if_neg (Nat.not_lt_zero _)]; exact h⟩
  | t + 1, ht => by
    obtain ⟨h1, h2⟩ := sq_state L t (by omega)
    rw [sqs_succ, Me.sets_snoc]
    simp only
    have hc : cin ((Me.new L).sets (sqs L t)).cs.length (t : Int) = true := cin_iff.2 ⟨by omega, by omega⟩
    refine ⟨by rw [Me.set_len]; exact h1, fun j x hx => ?_⟩
    rw [Me.set_in hc]
    show (((Me.new L).sets (sqs L t)).cs.set ((t : Int)).toNat _)[j]? = _
    rw [Int.toNat_natCast, List.getElem?_set]
    by_cases e : t = j
    · subst e
      rw [if_pos rfl, if_pos (by omega), if_pos (by omega), getD_at hx]
    · rw [if_neg e, h2 j x hx]
      by_cases h3 : j < t
      · rw [if_pos h3, if_pos (by omega)]
      · rw [if_neg h3, if_neg (by omega)]
theorem sq_ok (L : List Int) (t : Nat) (h : L.length ≤ 8) (ht : t ≤ L.length) : Ok ((Me.new L).sets (sqs L t)) := by
  obtain ⟨h1, h2, _⟩ := sets_pos (Me.new L) (sqs L t)
  rw [sqs_len] at h1
  have h3 : (Me.new L).pos = 0 := rfl
  have h4 : (Me.new L).cs.length = L.length := rfl
  exact ⟨by omega, by omega⟩
theorem sq_bd {x : Int} (h : 0 ≤ x ∧ x < 16777216) : 0 ≤ x * x ∧ x * x ≤ 281474976710656 := by
  refine ⟨Int.mul_nonneg h.1 h.1, ?_⟩
  have h1 : x * x ≤ 16777216 * x := Int.mul_le_mul_of_nonneg_right (by omega) h.1
  omega
theorem sq_fl {x : Int} (h : 0 ≤ x ∧ x < 16777216) : 0 ≤ flr (x * x) 1024 ∧ flr (x * x) 1024 ≤ 281474976710656 := by
  have h1 := sq_bd h
  unfold flr
  rw [Int.fdiv_eq_ediv_of_nonneg _ (by omega)]
  omega
theorem sq_quo {x : Int} (h : 0 ≤ x ∧ x < 16777216) : (x * x).tdiv 1024 = flr (x * x) 1024 := by
  unfold flr
  rw [Int.tdiv_eq_ediv_of_nonneg (sq_bd h).1, Int.fdiv_eq_ediv_of_nonneg _ (by omega)]
theorem own : ownKnob Try.prog.godebug = none := by kernel_rfl
theorem laid : laidOutB Try.prog = true := by kernel_rfl

set_option maxRecDepth 100000 in
set_option maxHeartbeats 8000000 in
theorem walk (w : World) (s0 : Value) (Z0 : Nat → Int) (l0 : Nat) (H0 : IntsAt w s0 1 Z0 l0) :
    Calls Try.prog 10 #[s0] w fun e w' => e = .returned (.bool true) ∧ Below w.heap.size w w' := by
  have H0' := Lib.hid H0
  obtain ⟨a1, cap1, rfl, hcap1, hmx1⟩ := H0.form
  unfold maxLen at hmx1
  clear H0
  have kl := Lib.hid (fun W => lives9_any W)
  obtain ⟨i0, hi0, hz0, hz1, hz2⟩ := info_parts info_int
  have hi0' := Lib.hid hi0; clear hi0
  have hz0' := Lib.hid hz0; clear hz0
  have hz1' := Lib.hid hz1; clear hz1
  have hz2' := Lib.hid hz2; clear hz2
  go_enter Try.func10, Try.ntmps10
  go_wp2_with fail
  go_loopw [3, 4] (fun v i wr => ∃ t : Nat, t ≤ 8 ∧ t ≤ l0 ∧ i = .int .i64 (t : Nat) ∧ wr.ownsRow w.heap.size 3 1 v t (ints (few2 Z0 t)) ∧ Below w.heap.size w wr) (fun _ i _ => 8 - (intOf i).toNat)
  case atStart => exact ⟨0, Nat.zero_le _, Nat.zero_le _, rfl, World.ownsRow_nil _ _ _ _, Below.refl _ _⟩
  case round =>
    obtain ⟨t, ht, htl, rfl, hown, hB⟩ := hrel
    have hown' := Lib.hid hown
    have hB' := Lib.hid hB
    clear hown hB
    by_cases h1 : t < l0
    · by_cases h2 : t < 8
      · have d0 : decide (((t : Nat) : Int) < (l0 : Int)) = true := decide_eq_true (by omega)
        obtain ⟨g, off, cap', e, _, hc, hz1, hz2⟩ := int_at H0'.out h1
        simp only [Value.slice.injEq, true_and] at e
        obtain ⟨rfl, rfl⟩ := e
        have c0 := carry hB'.out hc
        have ka := Lib.hid (fun W => around_any (Z0 t) 16777216 W hz1 hz2 (by omega))
        have hst := Lib.hid (few2_succ Z0 t)
        have hws := hB'.out.size
        have hlo := Lib.hid hown'.out.lt
        clear hz1 hz2 hc
        generalize Z0 t = zc at *
        generalize arnd zc 16777216 = za at *
        go_wp2_with (first
          | (go_at_call 33; with_reducible refine (ka.out _).mono ?_; rintro e y3 ⟨rfl, rfl⟩)
          | (at_builtin; refine wpList_append_own _ rfl _ _ 22 rfl w.heap.size 3 i0 _ 1 8 Try.underlying22 hi0'.out hz0'.out hz1'.out hz2'.out rfl (by decide) _ _ _ rfl (World.ownsRow.alloc hown'.out _) ⟨wr.heap.size, 0, none⟩ 1 1 [.int .i64 za] rfl rfl (cell_one_new _ _ _) (ints_oneCell .i64 [za]) (by unfold maxLen; omega) (by omega) (by simp; omega) ?_; intro v5 y5 hown5 hgrow5 _; have hown5' := Lib.hid hown5; have hB5 := Lib.hid ((hB'.out.alloc hws _).grown hgrow5 (by simp; omega) (fun j hj => (hlo.out j hj).1)); clear hown5 hgrow5))
        refine ⟨⟨t + 1, by omega, by omega, by go_num, ?_, hB5.out⟩, ?_⟩
        · rw [hst.out]; unfold ints at *; rw [List.map_append]; exact hown5'.out
        · simp [intOf]; omega
      · have d0 : decide (((t : Nat) : Int) < (l0 : Int)) = true := decide_eq_true (by omega)
        clear d0
        obtain ⟨V1, hV1⟩ : ∃ V, V = wr := ⟨wr, rfl⟩
        subst hV1
        obtain ⟨fa, fn, fc, rfl⟩ := own_shape hown'.out
        obtain ⟨a9, c9, e9, sh1, sh2, _, sh3⟩ := (SRow.owned hown'.out).shape (by decide)
        simp only [Value.slice.injEq] at e9
        obtain ⟨rfl, rfl, rfl⟩ := e9
        unfold maxLen at sh2
        obtain ⟨L, hL⟩ : ∃ L, L = few2 Z0 fn := ⟨_, rfl⟩
        have hbd := Lib.hid (fun (i : Nat) (x : Int) (h : L[i]? = some x) => few2_bd (by rw [← hL]; exact h))
        have hLn : L.length = fn := by rw [hL]; exact few2_len _ _
        rw [← hL] at hown' sh3
        have hLn' := Lib.hid hLn
        have hcell := Lib.hid sh3
        have hI := Lib.hid (own_il hown'.out)
        clear hL hLn sh3
        obtain ⟨S, hS⟩ : ∃ S, S = Me.new L := ⟨_, rfl⟩
        have okk := Lib.hid (fun t (h : t ≤ fn) => sq_ok L t (by rw [hLn'.out]; omega) (by rw [hLn'.out]; exact h))
        have hval := Lib.hid (fun t (h : t ≤ fn) => (sq_state L t (by rw [hLn'.out]; exact h)).2)
        have hpos := Lib.hid (show S.pos = 0 from by rw [hS]; rfl)
        have hcs := Lib.hid (show S.cs = L from by rw [hS]; rfl)
        have ok0 := Lib.hid (show Ok S from by rw [hS]; exact sq_ok L 0 (by rw [hLn'.out]; omega) (Nat.zero_le _))
        have hund := Lib.hid (sets_undo S (sqs L fn))
        rw [hpos.out, show (((0 : Nat) : Int)) = 0 from rfl] at hund
        have hst := Lib.hid (fun t => show S.sets (sqs L (t + 1)) = (S.sets (sqs L t)).set (t : Int) (flr (L.getD t 0 * L.getD t 0) 1024) from by rw [sqs_succ, Me.sets_snoc])
        rw [← hS] at okk hval
        have hS' := Lib.hid hS
        clear hS
        go_wp2_with (first
          | (go_at_call 12; with_reducible refine (cmNew_any _ L V1 hI.out (by rw [hLn'.out]; omega)).mono ?_; rintro e y2 ⟨b, O, rfl, hM, hO, hb⟩; rw [← hS'.out] at hM; have hM2 := Lib.hid hM; have hF2 := Lib.hid (Fresh.mk hb hO); clear hM hO hb)
          | (go_at_call 24; with_reducible refine (hM2.out.mark ok0.out).mono ?_; rintro e y3 ⟨rfl, hb⟩; rw [hpos.out]; have hM3 := Lib.hid (hM2.out.carry hb); have hF3 := Lib.hid (hF2.out.step hb); clear hb))
        clear hM2 hF2
        go_loopw [7] (fun i wq => ∃ (t : Nat) (O' : Nat → Prop), t ≤ fn ∧ i = .int .i64 (t : Nat) ∧ Mo wq b O' (S.sets (sqs L t)) ∧ Fresh V1 O' wq) (fun i _ => fn - (intOf i).toNat)
        case atStart => exact ⟨0, O, Nat.zero_le _, rfl, hM3.out, hF3.out⟩
        case round =>
          obtain ⟨t, O', ht, rfl, hM, hF⟩ := hrel
          obtain ⟨V2, hV2⟩ : ∃ V, V = wr := ⟨wr, rfl⟩
          subst hV2
          have hM4 := Lib.hid hM
          have hF4 := Lib.hid hF
          clear hM hF
          by_cases hlt : t < fn
          · obtain ⟨x, hx⟩ : ∃ x, L[t]? = some x := ⟨_, List.getElem?_eq_getElem (by rw [hLn'.out]; exact hlt)⟩
            have hg := Lib.hid (get_at ((hval.out t ht t x hx).trans (by rw [if_neg (Nat.lt_irrefl _)])))
            have hb2 := sq_bd (hbd.out t x hx)
            have hnx := Lib.hid (hst.out t)
            rw [getD_at hx] at hnx
            clear hx
            have km := Lib.hid (fun W => mul_any x x W (by omega) (by omega))
            generalize flr (x * x) 1024 = sq at *
            clear hb2
            go_wp2_with (first
              | (go_at_call 30; with_reducible refine (hM4.out.get (okk.out t ht) (t : Int)).mono ?_; rintro e y5 ⟨rfl, rfl⟩; rw [hg.out])
              | (go_at_call 38; with_reducible refine (km.out _).mono ?_; rintro e y5 ⟨rfl, kq, rfl⟩)
              | (go_at_call 31; with_reducible refine ((hM4.out.carry (below_drewN _ _)).set (okk.out t ht) (t : Int) sq).mono ?_; rintro e y6 ⟨rfl, O6, hM, hm⟩; have hM6 := Lib.hid hM; have hF6 := Lib.hid ((hF4.out.step (below_drewN _ _)).moves hm); clear hM hm))
            refine ⟨⟨t + 1, O6, by omega, by go_num, by rw [hnx.out]; exact hM6.out, hF6.out⟩, ?_⟩
            simp [intOf]; omega
          · obtain rfl : t = fn := by omega
            have hM5 := Lib.hid hM4.out
            have hF5 := Lib.hid hF4.out
            clear hM4 hF4 hM3 hF3
            go_wp2_with fail
            go_loopw [8] (fun i wq => ∃ (t2 : Nat) (O2 : Nat → Prop), t2 ≤ t ∧ i = .int .i64 (t2 : Nat) ∧ Mo wq b O2 (S.sets (sqs L t)) ∧ Fresh V1 O2 wq) (fun i _ => t - (intOf i).toNat)
            case atStart => exact ⟨0, O', Nat.zero_le _, rfl, hM5.out, hF5.out⟩
            case round =>
              obtain ⟨t2, O2, ht2, hi2, hM, hF⟩ := hrel
              subst hi2
              obtain ⟨V3, hV3⟩ : ∃ V, V = wr := ⟨wr, rfl⟩
              subst hV3
              have hM6 := Lib.hid hM
              have hF6 := Lib.hid hF
              clear hM hF
              by_cases hlt2 : t2 < t
              · obtain ⟨x, hx⟩ : ∃ x, L[t2]? = some x := ⟨_, List.getElem?_eq_getElem (by rw [hLn'.out]; exact hlt2)⟩
                obtain ⟨fg, fo, rfl, _, hcc⟩ := hcell.out (by omega)
                have c0 := carry hF6.out.below (hcc t2 _ (ints_at hx)).1
                have hg := Lib.hid (get_at ((hval.out t ht t2 x hx).trans (by rw [if_pos hlt2])))
                have hbx := hbd.out t2 x hx
                have hb2 := sq_bd hbx
                have hq := sq_quo hbx
                have hb3 := sq_fl hbx
                clear hx hcc hbx
                have kg := Lib.hid (fun W (hb : Below V3.heap.size V3 W) => show Calls Try.prog 30 #[.pointer (some ⟨b, 0, none⟩), .int .i64 (t2 : Int)] W fun e w' => e = .returned (.int .i64 (flr (x * x) 1024)) ∧ W = w' from by
                  rw [← hg.out]; exact (hM6.out.carry hb).get (okk.out t ht) (t2 : Int))
                generalize flr (x * x) 1024 = sq at *
                have b1 : (sq == sq) = true := by simp
                have i1 : (0 : Int) ≤ (t2 : Int) := by omega
                have i2 : (t2 : Int) < (t : Int) := by omega
                go_upto_region 17 with fail
                refine wp_region_made (by kernel_rfl) (by kernel_rfl) ?_
                intro W hK
                have g_c0 := fun x => carry ((hK.below x)) c0
                repeat (go_big_quiet_step ((go_at_call 30; with_reducible exact met_same (kg.out _ (hK.below _)))))
                refine wpQuiet_nil ?_
                intro wq hw'
                have hbq := kept_in hK hw'
                clear g_c0
                clear hw' hK W
                replace c0 := carry (hbq) c0
                have hM7 := Lib.hid (hM6.out.carry hbq)
                have hF7 := Lib.hid (hF6.out.step hbq)
                go_wp2_with fail
                go_roundw
                case rel => exact ⟨t2 + 1, O2, by omega, by go_num, hM7.out, hF7.out⟩
                case measure => simp [intOf]; omega
              · obtain rfl : t2 = t := by omega
                go_wp2_with (first
                  | (go_at_call 34; with_reducible refine (hM6.out.undo (okk.out t2 ht) 0).mono ?_; rintro e y8 ⟨rfl, O8, hM, hm⟩; rw [hund.out.1]; rw [hund.out.2] at hM; have hM8 := Lib.hid hM; have hF8 := Lib.hid (hF6.out.moves hm); clear hM hm)
                  | (go_at_call 22; with_reducible refine (hM8.out.all ok0.out).mono ?_; rintro e y9 ⟨vd, rfl, hr, hb⟩; rw [hcs.out] at hr; have hI9 := Lib.hid (own_il hr); have hF9 := Lib.hid (hF8.out.step hb); clear hr hb)
                  | (go_at_call 21; with_reducible refine (sameI_any _ _ _ _ _ hI9.out (hI.out.carry hF9.out.below)).mono ?_; rintro e y10 ⟨rfl, hb⟩; rw [same_self]; have hF10 := Lib.hid (hF9.out.step hb); clear hb)
                  | (go_at_call 28; with_reducible refine (kl.out _).mono ?_; rintro e y11 ⟨rfl, hb⟩; have hB11 := Lib.hid (below_step (below_step hB'.out hF10.out.below) hb); clear hb))
                go_ret
                exact ⟨rfl, hB11.out⟩
    · have d0 : decide (((t : Nat) : Int) < (l0 : Int)) = false := decide_eq_false (by omega)
      clear d0
      obtain ⟨V1, hV1⟩ : ∃ V, V = wr := ⟨wr, rfl⟩
      subst hV1
      obtain ⟨fa, fn, fc, rfl⟩ := own_shape hown'.out
      obtain ⟨a9, c9, e9, sh1, sh2, _, sh3⟩ := (SRow.owned hown'.out).shape (by decide)
      simp only [Value.slice.injEq] at e9
      obtain ⟨rfl, rfl, rfl⟩ := e9
      unfold maxLen at sh2
      obtain ⟨L, hL⟩ : ∃ L, L = few2 Z0 fn := ⟨_, rfl⟩
      have hbd := Lib.hid (fun (i : Nat) (x : Int) (h : L[i]? = some x) => few2_bd (by rw [← hL]; exact h))
      have hLn : L.length = fn := by rw [hL]; exact few2_len _ _
      rw [← hL] at hown' sh3
      have hLn' := Lib.hid hLn
      have hcell := Lib.hid sh3
      have hI := Lib.hid (own_il hown'.out)
      clear hL hLn sh3
      obtain ⟨S, hS⟩ : ∃ S, S = Me.new L := ⟨_, rfl⟩
      have okk := Lib.hid (fun t (h : t ≤ fn) => sq_ok L t (by rw [hLn'.out]; omega) (by rw [hLn'.out]; exact h))
      have hval := Lib.hid (fun t (h : t ≤ fn) => (sq_state L t (by rw [hLn'.out]; exact h)).2)
      have hpos := Lib.hid (show S.pos = 0 from by rw [hS]; rfl)
      have hcs := Lib.hid (show S.cs = L from by rw [hS]; rfl)
      have ok0 := Lib.hid (show Ok S from by rw [hS]; exact sq_ok L 0 (by rw [hLn'.out]; omega) (Nat.zero_le _))
      have hund := Lib.hid (sets_undo S (sqs L fn))
      rw [hpos.out, show (((0 : Nat) : Int)) = 0 from rfl] at hund
      have hst := Lib.hid (fun t => show S.sets (sqs L (t + 1)) = (S.sets (sqs L t)).set (t : Int) (flr (L.getD t 0 * L.getD t 0) 1024) from by rw [sqs_succ, Me.sets_snoc])
      rw [← hS] at okk hval
      have hS' := Lib.hid hS
      clear hS
      go_wp2_with (first
        | (go_at_call 12; with_reducible refine (cmNew_any _ L V1 hI.out (by rw [hLn'.out]; omega)).mono ?_; rintro e y2 ⟨b, O, rfl, hM, hO, hb⟩; rw [← hS'.out] at hM; have hM2 := Lib.hid hM; have hF2 := Lib.hid (Fresh.mk hb hO); clear hM hO hb)
        | (go_at_call 24; with_reducible refine (hM2.out.mark ok0.out).mono ?_; rintro e y3 ⟨rfl, hb⟩; rw [hpos.out]; have hM3 := Lib.hid (hM2.out.carry hb); have hF3 := Lib.hid (hF2.out.step hb); clear hb))
      clear hM2 hF2
      go_loopw [7] (fun i wq => ∃ (t : Nat) (O' : Nat → Prop), t ≤ fn ∧ i = .int .i64 (t : Nat) ∧ Mo wq b O' (S.sets (sqs L t)) ∧ Fresh V1 O' wq) (fun i _ => fn - (intOf i).toNat)
      case atStart => exact ⟨0, O, Nat.zero_le _, rfl, hM3.out, hF3.out⟩
      case round =>
        obtain ⟨t, O', ht, rfl, hM, hF⟩ := hrel
        obtain ⟨V2, hV2⟩ : ∃ V, V = wr := ⟨wr, rfl⟩
        subst hV2
        have hM4 := Lib.hid hM
        have hF4 := Lib.hid hF
        clear hM hF
        by_cases hlt : t < fn
        · obtain ⟨x, hx⟩ : ∃ x, L[t]? = some x := ⟨_, List.getElem?_eq_getElem (by rw [hLn'.out]; exact hlt)⟩
          have hg := Lib.hid (get_at ((hval.out t ht t x hx).trans (by rw [if_neg (Nat.lt_irrefl _)])))
          have hb2 := sq_bd (hbd.out t x hx)
          have hnx := Lib.hid (hst.out t)
          rw [getD_at hx] at hnx
          clear hx
          have km := Lib.hid (fun W => mul_any x x W (by omega) (by omega))
          generalize flr (x * x) 1024 = sq at *
          clear hb2
          go_wp2_with (first
            | (go_at_call 30; with_reducible refine (hM4.out.get (okk.out t ht) (t : Int)).mono ?_; rintro e y5 ⟨rfl, rfl⟩; rw [hg.out])
            | (go_at_call 38; with_reducible refine (km.out _).mono ?_; rintro e y5 ⟨rfl, kq, rfl⟩)
            | (go_at_call 31; with_reducible refine ((hM4.out.carry (below_drewN _ _)).set (okk.out t ht) (t : Int) sq).mono ?_; rintro e y6 ⟨rfl, O6, hM, hm⟩; have hM6 := Lib.hid hM; have hF6 := Lib.hid ((hF4.out.step (below_drewN _ _)).moves hm); clear hM hm))
          refine ⟨⟨t + 1, O6, by omega, by go_num, by rw [hnx.out]; exact hM6.out, hF6.out⟩, ?_⟩
          simp [intOf]; omega
        · obtain rfl : t = fn := by omega
          have hM5 := Lib.hid hM4.out
          have hF5 := Lib.hid hF4.out
          clear hM4 hF4 hM3 hF3
          go_wp2_with fail
          go_loopw [8] (fun i wq => ∃ (t2 : Nat) (O2 : Nat → Prop), t2 ≤ t ∧ i = .int .i64 (t2 : Nat) ∧ Mo wq b O2 (S.sets (sqs L t)) ∧ Fresh V1 O2 wq) (fun i _ => t - (intOf i).toNat)
          case atStart => exact ⟨0, O', Nat.zero_le _, rfl, hM5.out, hF5.out⟩
          case round =>
            obtain ⟨t2, O2, ht2, hi2, hM, hF⟩ := hrel
            subst hi2
            obtain ⟨V3, hV3⟩ : ∃ V, V = wr := ⟨wr, rfl⟩
            subst hV3
            have hM6 := Lib.hid hM
            have hF6 := Lib.hid hF
            clear hM hF
            by_cases hlt2 : t2 < t
            · obtain ⟨x, hx⟩ : ∃ x, L[t2]? = some x := ⟨_, List.getElem?_eq_getElem (by rw [hLn'.out]; exact hlt2)⟩
              obtain ⟨fg, fo, rfl, _, hcc⟩ := hcell.out (by omega)
              have c0 := carry hF6.out.below (hcc t2 _ (ints_at hx)).1
              have hg := Lib.hid (get_at ((hval.out t ht t2 x hx).trans (by rw [if_pos hlt2])))
              have hbx := hbd.out t2 x hx
              have hb2 := sq_bd hbx
              have hq := sq_quo hbx
              have hb3 := sq_fl hbx
              clear hx hcc hbx
              have kg := Lib.hid (fun W (hb : Below V3.heap.size V3 W) => show Calls Try.prog 30 #[.pointer (some ⟨b, 0, none⟩), .int .i64 (t2 : Int)] W fun e w' => e = .returned (.int .i64 (flr (x * x) 1024)) ∧ W = w' from by
                rw [← hg.out]; exact (hM6.out.carry hb).get (okk.out t ht) (t2 : Int))
              generalize flr (x * x) 1024 = sq at *
              have b1 : (sq == sq) = true := by simp
              have i1 : (0 : Int) ≤ (t2 : Int) := by omega
              have i2 : (t2 : Int) < (t : Int) := by omega
              go_upto_region 17 with fail
              refine wp_region_made (by kernel_rfl) (by kernel_rfl) ?_
              intro W hK
              have g_c0 := fun x => carry ((hK.below x)) c0
              repeat (go_big_quiet_step ((go_at_call 30; with_reducible exact met_same (kg.out _ (hK.below _)))))
              refine wpQuiet_nil ?_
              intro wq hw'
              have hbq := kept_in hK hw'
              clear g_c0
              clear hw' hK W
              replace c0 := carry (hbq) c0
              have hM7 := Lib.hid (hM6.out.carry hbq)
              have hF7 := Lib.hid (hF6.out.step hbq)
              go_wp2_with fail
              go_roundw
              case rel => exact ⟨t2 + 1, O2, by omega, by go_num, hM7.out, hF7.out⟩
              case measure => simp [intOf]; omega
            · obtain rfl : t2 = t := by omega
              go_wp2_with (first
                | (go_at_call 34; with_reducible refine (hM6.out.undo (okk.out t2 ht) 0).mono ?_; rintro e y8 ⟨rfl, O8, hM, hm⟩; rw [hund.out.1]; rw [hund.out.2] at hM; have hM8 := Lib.hid hM; have hF8 := Lib.hid (hF6.out.moves hm); clear hM hm)
                | (go_at_call 22; with_reducible refine (hM8.out.all ok0.out).mono ?_; rintro e y9 ⟨vd, rfl, hr, hb⟩; rw [hcs.out] at hr; have hI9 := Lib.hid (own_il hr); have hF9 := Lib.hid (hF8.out.step hb); clear hr hb)
                | (go_at_call 21; with_reducible refine (sameI_any _ _ _ _ _ hI9.out (hI.out.carry hF9.out.below)).mono ?_; rintro e y10 ⟨rfl, hb⟩; rw [same_self]; have hF10 := Lib.hid (hF9.out.step hb); clear hb)
                | (go_at_call 28; with_reducible refine (kl.out _).mono ?_; rintro e y11 ⟨rfl, hb⟩; have hB11 := Lib.hid (below_step (below_step hB'.out hF10.out.below) hb); clear hb))
              go_ret
              exact ⟨rfl, hB11.out⟩

set_option maxRecDepth 100000 in
theorem lifted (os : Os) (started : os.Started) (H : Type) (enc : TypeId × Value → H) :
    ReturnsInHanded {} Try.checked os 10 .any (Rows.cellmemSquaresSpec.pre6 enc Try.prog Try.f10 Rows.cellmemSquaresRow.domain false) (Rows.cellmemSquaresSpec.post enc Try.prog Try.f10 false true false false) := by
  refine returnsInHanded_of_change (C := Try.checked) own started (by kernel_rfl) Try.func10
    (ChangeSpec.witness6 (enc := enc) (C := Try.checked) false ⟨#[], #[.slice none 0 0], []⟩ 8 (by kernel_rfl) (by kernel_rfl) (by kernel_rfl) (by kernel_rfl)) ?_
  intro W base args ds gs before hval0 hW hcnd _
  have hval : ∀ (j : Nat) t v, Try.f10.params[j]? = some t → args[j]? = some v → Value.okWide Try.prog W .any base t v := hval0
  have hW' := hW
  obtain ⟨p, q, hA0, hV, rfl, hfz, hnd⟩ := hW
  have hA : DataW.TrodAll enc Try.prog W 0 (fun _ => true) true Try.f10.params.toList args.toList ds p := hA0
  rw [Try.params10] at hA hval
  have hAk := hA
  obtain ⟨v0, vs0, d0, ds0, p0, q0, hargs, rfl, hp0, h0, r0⟩ := trodAll_cons hA
  obtain ⟨rfl, rfl, -⟩ := trodAll_nil r0
  obtain rfl : args = #[v0] := by cases args; simp_all
  obtain ⟨rfl, rfl⟩ := trodVars_none hV
  obtain ⟨x0, q0, c0, rfl⟩ := okWide_slice Try.underlying22 (hval 0 22 v0 rfl rfl)
  obtain ⟨fu0, fh0⟩ := h0
  obtain ⟨s0, Z0, l0, e0, H0⟩ := open_int_cells Try.underlying22 Try.underlying3 (by kernel_rfl) fh0
  simp only [Value.cells, List.cons.injEq, and_true] at e0
  obtain rfl := e0.symm
  clear hA0 hval0
  simp only [List.append_nil] at hW'
  refine (walk W _ Z0 l0 H0).mono fun e W' ⟨he, hb⟩ => ?_
  subst he
  exact ⟨_, rfl, kept_post (pa := p) hW' (fun _ _ _ => (trodAll_cons_mk (shut_bool Try.underlying4 _) trodAll_mk0)) (fun sp hsp => trodAll_stays laid hb (by rw [Try.params10]; decide +kernel) hAk (fun x hx => hW'.lt x hx) hsp) (fun _ => rfl) hb (ok_one (by kernel_rfl) rfl (okWide_bool_mk Try.underlying4 _))⟩

theorem over : Rows.cellmemSquaresRow.holds Try.pinned (OpenSpec.ofChange Rows.cellmemSquaresSpec) :=
  OpenClaim.holds_of_wide 10 Try.f10 rfl rfl rfl rfl rfl rfl rfl ⟨rfl, rfl, rfl, rfl, rfl⟩ rfl rfl rfl rfl rfl (by kernel_rfl) Try.func10 (by kernel_rfl)
    (of_decide_eq_true (by kernel_rfl)) (by unfold Func.isWrapper; first | (rw [if_pos (by decide +kernel)]; kernel_rfl) | (rw [if_neg (by decide +kernel)]; exact ⟨rfl, rfl⟩))
    (fun os started H enc _ => lifted os started H enc)

theorem proved : Rows.CellmemSquaresSaid :=
  over
#print axioms proved
end Go.Proofs.Ytlpacihkmfgegaa.cellmemSquares
