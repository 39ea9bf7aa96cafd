/-
  package cellmem, P9.5, P9.7: for every history of up to 30 operations on six cells and up to 20 further calls of Set, all made of any numbers, the cells that are not reported as changed since a mark have the values they had at the mark, every reported cell was set, they are reported in increasing order, each once, and the section's example holds; whatever the arguments are.
-/
import Derived.Test.YtlpacihkmfgegaaRows
import Derived.WalkKit
import Derived.ProofKit
import Derived.OpenShut
import Derived.Test.YtlpacihkmfgegaaOpen
import Derived.Test.YtlpacihkmfgegaaOpenC
import Derived.Test.YtlpacihkmfgegaaCmN
namespace Go.Proofs.Ytlpacihkmfgegaa.cellmemChanged
open Go.ChangeShapes Go.WideShapes Go.ChangeAt Go.RowKit
set_option linter.unusedVariables false
set_option linter.unusedSimpArgs false

open Cm
def ksL (Z : Nat → Int) (t : Nat) : List Int := (List.range t).map fun i => arnd (Z (i * 2)) 6
theorem ksL_succ (Z : Nat → Int) (t : Nat) : ksL Z (t + 1) = ksL Z t ++ [arnd (Z (t * 2)) 6] := by unfold ksL; rw [List.range_succ, List.map_append]; rfl
theorem natI_at' {l : List Nat} {i : Nat} {x : Nat} (h : l[i]? = some x) : (natI l)[i]? = some ((x : Nat) : Int) := by unfold natI; rw [List.getElem?_map, h]; rfl
theorem pair_lt {l : List Nat} (h : l.Pairwise (· < ·)) {i j x y : Nat} (hij : i < j) (hx : l[i]? = some x) (hy : l[j]? = some y) : x < y := by
  obtain ⟨h1, e1⟩ := List.getElem?_eq_some_iff.1 hx
  obtain ⟨h2, e2⟩ := List.getElem?_eq_some_iff.1 hy
  have := List.pairwise_iff_getElem.1 h i j h1 h2 hij
  omega
theorem moves_grown {O O' : Nat → Prop} {a b c : World} {row : Option Nat} (h : Moves O a O' b) (k : b.grownBy c row) (hr : ∀ g, row = some g → a.heap.size ≤ g) : Moves O a O' c :=
  ⟨k.os.trans h.os, k.tape.trans h.tape, k.output.trans h.output, Nat.le_trans h.size k.size, fun i hi hn => (k.block i (Nat.lt_of_lt_of_le hi h.size) (fun e => by have := hr i e.symm; omega)).trans (h.block i hi hn), h.own⟩
/-- What Changed says since the mark of S, after t Sets. -/
structure Chg (S T : Me) (Z : Nat → Int) (t : Nat) (C : List Nat) : Prop where
  ch : T.changed (S.pos : Int) = C
  e0 : T.err (S.pos : Int) = 0
  mem : ∀ i : Nat, i < 6 → decide (((i : Nat) : Int) ∈ ksL Z t) = decide (((i : Nat) : Int) ∈ natI C)
  same : ∀ (i : Nat) (x : Int), i < 6 → decide (((i : Nat) : Int) ∈ natI C) = false → S.cs[i]? = some x → T.get ((i : Nat) : Int) = x
  up : C.Pairwise (· < ·)
  len : C.length ≤ 6
theorem chg_of {S : Me} (hl : S.cs.length = 6) (Z : Nat → Int) (t : Nat) : ∃ C, Chg S (S.sets (moreN Z t)) Z t C := by
  obtain ⟨es, hs, hc⟩ := sets_cells S (moreN Z t) (Since.refl S) (fun p hp => moreN_in hl hp)
  obtain ⟨h1, h2⟩ := hs.chg
  have hmem : ∀ i : Nat, i ∈ es.map Prod.fst ↔ ((i : Nat) : Int) ∈ ksL Z t := fun i => by
    rw [hc]
    unfold moreN ksL
    simp only [List.map_nil, List.nil_append, List.map_map, List.mem_map]
    constructor
    · rintro ⟨j, hj, e⟩
      have := arnd_bd (Z (j * 2)) (m := 6) (by omega)
      refine ⟨j, hj, ?_⟩
      simp only [Function.comp] at e
      omega
    · rintro ⟨j, hj, e⟩
      refine ⟨j, hj, ?_⟩
      simp only [Function.comp]
      omega
  have hC : ∀ i : Nat, i < 6 → (((i : Nat) : Int) ∈ natI ((List.range S.cs.length).filter fun i => decide (i ∈ es.map Prod.fst)) ↔ ((i : Nat) : Int) ∈ ksL Z t) := fun i hi => by
    rw [mem_natI, Int.toNat_natCast, List.mem_filter, List.mem_range, hl, decide_eq_true_iff, hmem]
    exact ⟨fun h => h.2.2, fun h => ⟨by omega, hi, h⟩⟩
  refine ⟨_, ⟨h2, h1, fun i hi => ?_, fun i x hi hn hx => ?_, List.Pairwise.filter _ List.pairwise_lt_range, ?_⟩⟩
  · rw [decide_eq_decide]; exact (hC i hi).symm
  · have hn' : i ∉ es.map Prod.fst := fun h => (of_decide_eq_false hn) ((hC i hi).2 ((hmem i).1 h))
    have hg := (hs.same hn').trans hx
    have hi2 := (List.getElem?_eq_some_iff.1 hg).1
    unfold Me.get
    rw [if_pos (cin_iff.2 ⟨by omega, by omega⟩), Int.toNat_natCast]
    simp [List.getD, hg]
  · have := List.length_filter_le (fun i => decide (i ∈ es.map Prod.fst)) (List.range 6)
    rw [List.length_range] at this
    rw [hl]
    exact this
theorem own : ownKnob Try.prog.godebug = none := by kernel_rfl
theorem laid : laidOutB Try.prog = true := by kernel_rfl

set_option maxRecDepth 100000 in
set_option maxHeartbeats 8000000 in
theorem walk (w : World) (s0 : Value) (Z0 : Nat → Int) (l0 : Nat) (H0 : IntsAt w s0 1 Z0 l0) (s1 : Value) (Z1 : Nat → Int) (l1 : Nat) (H1 : IntsAt w s1 1 Z1 l1) (s2 : Value) (Z2 : Nat → Int) (l2 : Nat) (H2 : IntsAt w s2 2 Z2 l2) :
    Calls Try.prog 8 #[s0, s1, s2] w fun e w' => e = .returned (.bool true) ∧ Below w.heap.size w w' := by
  have kb := Lib.hid (built_any s0 s1 Z0 Z1 l0 l1 w H0 H1)
  have H2' := Lib.hid H2
  obtain ⟨a2, cap2, rfl, hcap2, hmx2⟩ := H2.form
  unfold maxLen at hmx2
  have hh := hist_ok Z0 l0 Z1 (min l1 30)
  have hl6 : (hist Z0 l0 Z1 (min l1 30)).cs.length = 6 := hh.1
  have hp30 : (hist Z0 l0 Z1 (min l1 30)).pos ≤ 30 := by have := hh.2; omega
  clear H0 H1 H2 hh
  generalize hist Z0 l0 Z1 (min l1 30) = S at *
  have kl := Lib.hid (fun W => lives9_any W)
  have ok := Lib.hid (show Ok S from ⟨by omega, by omega⟩)
  have hcf := Lib.hid (fun t => chg_of hl6 Z2 t)
  obtain ⟨ps, hps⟩ : ∃ ps, ps = S.pos := ⟨_, rfl⟩
  have hps' := Lib.hid hps.symm
  have hp30' := Lib.hid hp30
  have hl6' := Lib.hid hl6
  rw [← hps] at hp30
  clear hps hl6
  obtain ⟨i0, hi0, hz0, hz1, hz2⟩ := info_parts info_int
  have hi0' := Lib.hid hi0; clear hi0
  have hz0' := Lib.hid hz0; clear hz0
  have hz1' := Lib.hid hz1; clear hz1
  have hz2' := Lib.hid hz2; clear hz2
  go_enter Try.func8, Try.ntmps8
  go_wp2_with (first
    | (go_at_call 32; with_reducible refine kb.out.mono ?_; rintro e y1 ⟨b, O, rfl, hM, hF⟩; have hM1 := Lib.hid hM; have hF1 := Lib.hid hF; clear hM hF)
    | (go_at_call 22; with_reducible refine (hM1.out.all ok.out).mono ?_; rintro e y2 ⟨vw, rfl, hr, hb⟩; rw [hl6'.out] at hr; obtain ⟨wg, wcap, rfl, wg1, wg2⟩ := hr.form (by decide); have hI2 := Lib.hid (own_il hr); have hne := Lib.hid (fun g hg => (fun hO => by have h1 := hM1.out.lt g hO; have h2 := (hr.lt g hg).1; omega : ¬ O g)); have hM2 := Lib.hid (hM1.out.carry hb); have hF2 := Lib.hid (hF1.out.step hb); clear hr hb)
    | (go_at_call 24; with_reducible refine (hM2.out.mark ok.out).mono ?_; rintro e y3 ⟨rfl, hb⟩; rw [hps'.out]; have hI3 := Lib.hid (hI2.out.carry hb); have hM3 := Lib.hid (hM2.out.carry hb); have hF3 := Lib.hid (hF2.out.step hb); clear hb))
  clear hM1 hF1 hI2 hM2 hF2 kb
  go_loopw [10, 11] (fun sv i wr => ∃ (t : Nat) (O' : Nat → Prop), t ≤ 20 ∧ t ≤ l2 ∧ i = .int .i64 (t : Nat) ∧ Mo wr b O' (S.sets (moreN Z2 t)) ∧ Moves O y3 O' wr ∧ wr.ownsRow y3.heap.size 3 1 sv t (ints (ksL Z2 t)) ∧ ∀ g, sv.ownBlock = some g → ¬ O' g) (fun _ i _ => 20 - (intOf i).toNat)
  case atStart => exact ⟨0, O, Nat.zero_le _, Nat.zero_le _, rfl, hM3.out, Moves.refl _ _, World.ownsRow_nil _ _ _ _, fun g hg => by simp [Value.ownBlock] at hg⟩
  case round =>
    obtain ⟨t, O', ht, htl, rfl, hM, hm, hown, hso⟩ := hrel
    obtain ⟨V1, hV1⟩ : ∃ V, V = wr := ⟨wr, rfl⟩
    subst hV1
    have hM' := Lib.hid hM
    have hm' := Lib.hid hm
    have hF' := Lib.hid (hF3.out.moves hm)
    have hown' := Lib.hid hown
    have hso' := Lib.hid hso
    clear hM hm hown hso
    have okt := Lib.hid (sets_ok Z2 t hl6'.out (by have := hp30'.out; omega))
    by_cases h1 : t < l2
    · by_cases h2 : t < 20
      · have d0 : decide (((t : Nat) : Int) < (l2 : Int)) = true := decide_eq_true (by omega)
        obtain ⟨g, off, cap', e, _, hc0, hc1, hz1, hz2⟩ := pair_at H2'.out h1
        simp only [Value.slice.injEq, true_and] at e
        obtain ⟨rfl, rfl⟩ := e
        have c0 := carry hF'.out.below hc0
        have hcc := Lib.hid hc1
        clear hc0 hc1
        have ka := Lib.hid (fun W => around_any (Z2 (t * 2)) 6 W hz1 hz2 (by omega))
        have hst := Lib.hid (sets_next S Z2 t)
        have hks := Lib.hid (ksL_succ Z2 t)
        have hys := hm'.out.size
        clear hz1 hz2
        generalize Z2 (t * 2) = zc at *
        generalize Z2 (t * 2 + 1) = zv at *
        generalize arnd zc 6 = za at *
        go_upto_region 12 with (first
          | (go_at_call 33; with_reducible refine (ka.out _).mono ?_; rintro e y4 ⟨rfl, rfl⟩)
          | (at_builtin; refine wpList_append_own_at _ rfl _ _ 22 rfl y3.heap.size 3 i0 _ 1 8 Try.underlying22 hi0'.out hz0'.out hz1'.out hz2'.out rfl (by decide) u10 t (ints (ksL Z2 t)) rfl (World.ownsRow.alloc hown'.out _) ⟨V1.heap.size, 0, none⟩ 1 1 [.int .i64 za] rfl rfl (cell_one_new _ _ _) (ints_oneCell .i64 [za]) (by unfold maxLen; omega) (by omega) (by simp; omega) ?_; intro v5 y5 hown5 hgrow _ hloc; have hg5 := Lib.hid (moves_grown (hm'.out.step (alloc_below V1 (.cells #[.int .i64 za] 3))) hgrow (fun g hg => (hown'.out.lt g hg).1)); have hM5 := Lib.hid ((hM'.out.carry (alloc_below V1 (.cells #[.int .i64 za] 3))).beside (grown_moves hgrow) (fun i hi e => hso'.out i e hi)); have hown5' := Lib.hid hown5; have hso5 := Lib.hid (fun g (hg : v5.ownBlock = some g) => (fun hO => by rcases hloc with e | e; exact hso'.out g (by rw [← e]; exact hg) hO; have h8 := hM'.out.lt g hO; rw [hg] at e; have h9 := Option.some.inj e; simp at h9; omega : ¬ O' g)); clear hown5 hgrow hloc))
        have c1 := carry (hF3.out.moves hg5.out).below hcc.out
        go_wp2_with (first
          | (go_at_call 31; with_reducible refine (hM5.out.set okt.out za zv).mono ?_; rintro e y6 ⟨rfl, O6, hM, hm⟩; have hM6 := Lib.hid hM; have hm6 := Lib.hid (hg5.out.trans hm); have hr6 := Lib.hid (row_moves hown5'.out hm hso5.out); have hs6 := Lib.hid (fun g (hg : v5.ownBlock = some g) => (fun hO => by rcases hm.own g hO with e | e; exact hso5.out g hg e; have h8 := (hown5'.out.lt g hg).2; omega : ¬ O6 g)); clear hM hm))
        refine ⟨⟨t + 1, O6, by omega, by omega, by go_num, by rw [hst.out]; exact hM6.out, hm6.out, ?_, hs6.out⟩, ?_⟩
        · rw [hks.out]; unfold ints at *; rw [List.map_append]; exact hr6.out
        · simp [intOf]; omega
      · have d0 : decide (((t : Nat) : Int) < (l2 : Int)) = true := decide_eq_true (by omega)
        obtain ⟨C, hC⟩ := hcf.out t
        have hC' := Lib.hid hC
        have he0 := hC.e0
        have hch := hC.ch
        rw [hps'.out] at he0 hch
        have hx := Lib.hid (And.intro he0 hch)
        have hmem := Lib.hid hC.mem
        have hsame := Lib.hid hC.same
        have hup := Lib.hid hC.up
        have hlen := hC.len
        clear hC he0 hch
        have hW := Lib.hid (hI3.out.moves hm'.out hne.out)
        have hK := Lib.hid (own_il hown'.out)
        obtain ⟨sa, sn, sc, rfl⟩ := own_shape hown'.out
        generalize hT : S.sets (moreN Z2 t) = T at *
        generalize ksL Z2 t = K at *
        go_wp2_with (first
          | (go_at_call 35; with_reducible refine (hM'.out.changed okt.out (ps : Int)).mono ?_; rintro e z1 ⟨vc, rfl, hr, hb⟩; rw [hx.out.1]; rw [hx.out.2] at hr; obtain ⟨ca, cn, cc, rfl⟩ := own_shape hr; obtain ⟨a9, c9, e9, ch1, ch2, _, ch3⟩ := (SRow.owned hr).shape (by decide); simp only [Value.slice.injEq] at e9; obtain ⟨rfl, rfl, rfl⟩ := e9; have hI1 := Lib.hid (own_il hr); have hcell := Lib.hid ch3; have hM1 := Lib.hid (hM'.out.carry hb); have hW1 := Lib.hid (hW.out.carry hb); have hK1 := Lib.hid (hK.out.carry hb); have hF1 := Lib.hid (hF'.out.step hb); clear hr hb ch3))
        clear d0
        generalize hcl : C.length = cn at *
        have hcl' := Lib.hid hcl
        clear hcl
        unfold maxLen at ch2
        go_loopw [15] (fun i wq => ∃ s : Nat, s ≤ 6 ∧ i = .int .i64 (s : Nat) ∧ Below z1.heap.size z1 wq) (fun i _ => 6 - (intOf i).toNat)
        case atStart => exact ⟨0, Nat.zero_le _, rfl, Below.refl _ _⟩
        case round =>
          obtain ⟨s, hs, hi, hB⟩ := hrel
          subst hi
          obtain ⟨V2, hV2⟩ : ∃ V, V = wr := ⟨wr, rfl⟩
          subst hV2
          have hB2 := Lib.hid hB
          clear hB
          by_cases hs6 : s < 6
          · obtain ⟨x, hx0⟩ : ∃ x, S.cs[s]? = some x := ⟨_, List.getElem?_eq_getElem (by rw [hl6'.out]; exact hs6)⟩
            have hm1 := hmem.out s hs6
            have hs1 := hsame.out s x hs6
            have hIw := (hW1.out.carry hB2.out).shape
            obtain ⟨a7, c7, e7, _, _, h7⟩ := hIw
            rw [hl6'.out] at e7 h7
            simp only [Value.slice.injEq, true_and] at e7
            obtain ⟨rfl, rfl⟩ := e7
            obtain ⟨g7, o7, e8, _, h8⟩ := h7 (by decide)
            simp only [Option.some.injEq, Addr.mk.injEq, and_true] at e8
            obtain ⟨rfl, rfl⟩ := e8
            have c0 := h8 s x hx0
            rw [Nat.zero_add] at c0
            clear h7 h8
            have i1 : (0 : Int) ≤ (s : Int) := by omega
            have i2 : (s : Int) < 6 := by omega
            have kH := Lib.hid (fun W (hb : Below V2.heap.size V2 W) => hasI_any (.slice ca cn cc) (natI C) (s : Int) W ((hI1.out.carry hB2.out).carry hb))
            have kS := Lib.hid (fun W (hb : Below V2.heap.size V2 W) => hasI_any (.slice sa sn sc) K (s : Int) W ((hK1.out.carry hB2.out).carry hb))
            rw [hm1] at kS
            cases hd : decide (((s : Nat) : Int) ∈ natI C) with
            | true =>
              rw [hd] at kH kS
              clear hs1 hm1 hd hx0
              go_upto_region 21 with (first
                | (go_at_call 36; with_reducible refine (kH.out _ (Below.refl _ _)).mono ?_; rintro e y4 ⟨rfl, rfl⟩)
                | (go_at_call 36; with_reducible refine (kS.out _ (Below.refl _ _)).mono ?_; rintro e y4 ⟨rfl, rfl⟩))
              refine wp_region_made (by kernel_rfl) (by kernel_rfl) ?_
              intro W hK
              have g_c0 := fun x => carry ((hK.below x)) c0
              repeat (go_big_quiet_step ((go_at_call 36; with_reducible exact met_same (kH.out _ (hK.below _)))))
              refine wpQuiet_nil ?_
              intro wq hw'
              have hbq := kept_in hK hw'
              clear g_c0
              clear hw' hK W
              replace c0 := carry (hbq) c0
              have hB3 := Lib.hid (below_step hB2.out hbq)
              go_wp2_with fail
              go_roundw
              case rel => exact ⟨s + 1, by omega, by go_num, hB3.out⟩
              case measure => simp [intOf]; omega
            | false =>
              have hg := hs1 hd
              rw [hd] at kH kS
              have kG := Lib.hid (fun W (hb : Below V2.heap.size V2 W) => show Calls Try.prog 30 #[.pointer (some ⟨b, 0, none⟩), .int .i64 (s : Int)] W fun e w' => e = .returned (.int .i64 x) ∧ W = w' from by
                rw [← hg hx0]; exact ((hM1.out.carry hB2.out).carry hb).get okt.out (s : Int))
              have b1 : (x == x) = true := by simp
              clear hs1 hm1 hd hx0 hg
              go_upto_region 21 with (first
                | (go_at_call 36; with_reducible refine (kH.out _ (Below.refl _ _)).mono ?_; rintro e y4 ⟨rfl, rfl⟩)
                | (go_at_call 36; with_reducible refine (kS.out _ (Below.refl _ _)).mono ?_; rintro e y4 ⟨rfl, rfl⟩))
              refine wp_region_made (by kernel_rfl) (by kernel_rfl) ?_
              intro W hK
              have g_c0 := fun x => carry ((hK.below x)) c0
              repeat (go_big_quiet_step ((first | (go_at_call 36; with_reducible exact met_same (kH.out _ (hK.below _))) | (go_at_call 30; with_reducible exact met_same (kG.out _ (hK.below _))))))
              refine wpQuiet_nil ?_
              intro wq hw'
              have hbq := kept_in hK hw'
              clear g_c0
              clear hw' hK W
              replace c0 := carry (hbq) c0
              have hB3 := Lib.hid (below_step hB2.out hbq)
              go_wp2_with fail
              go_roundw
              case rel => exact ⟨s + 1, by omega, by go_num, hB3.out⟩
              case measure => simp [intOf]; omega
          · obtain rfl : s = 6 := by omega
            go_wp2_with fail
            go_loopw [16] (fun i wq => ∃ s : Nat, 1 ≤ s ∧ s ≤ max 1 cn ∧ i = .int .i64 (s : Nat) ∧ Below z1.heap.size z1 wq) (fun i _ => 6 - (intOf i).toNat)
            case atStart => exact ⟨1, Nat.le_refl _, by omega, rfl, hB2.out⟩
            case round =>
              obtain ⟨s, hs1, hs2, hi, hB⟩ := hrel
              subst hi
              obtain ⟨V3, hV3⟩ : ∃ V, V = wr := ⟨wr, rfl⟩
              subst hV3
              have hB3 := Lib.hid hB
              clear hB
              by_cases hsc : s < cn
              · obtain ⟨q, hq⟩ : ∃ q, s = q + 1 := ⟨s - 1, by omega⟩
                obtain ⟨cg, co, rfl, _, hcc⟩ := hcell.out (by omega)
                obtain ⟨x, hx⟩ : ∃ x, C[q]? = some x := ⟨_, List.getElem?_eq_getElem (by rw [hcl'.out]; omega)⟩
                obtain ⟨y, hy⟩ : ∃ y, C[s]? = some y := ⟨_, List.getElem?_eq_getElem (by rw [hcl'.out]; exact hsc)⟩
                have hxy : x < y := pair_lt hup.out (by omega) hx hy
                have c0 := carry hB3.out (hcc q _ (ints_at (natI_at' hx))).1
                have c1 := carry hB3.out (hcc s _ (ints_at (natI_at' hy))).1
                have hsub : ((s : Nat) : Int) - 1 = (q : Int) := by omega
                have i1 : (0 : Int) ≤ (q : Int) := by omega
                have i2 : (q : Int) < (cn : Int) := by omega
                have hXY : ¬ (((y : Nat) : Int) ≤ ((x : Nat) : Int)) := by omega
                have hq' := Lib.hid hq
                clear hq hx hy hcc hxy
                generalize ((x : Nat) : Int) = X at *
                generalize ((y : Nat) : Int) = Y at *
                have d1 : decide (Y ≤ X) = false := decide_eq_false hXY
                clear hXY
                go_wp2_with (first | go_quiet (fail))
                refine ⟨⟨s + 1, by omega, by omega, by go_num, below_step hB3.out (below_drewN _ _)⟩, ?_⟩
                simp [intOf]; omega
              · go_wp2_with (first
                  | (go_at_call 28; with_reducible refine (kl.out _).mono ?_; rintro e z3 ⟨rfl, hb⟩; have hB9 := Lib.hid (below_step (below_step hF1.out.below hB3.out) hb); clear hb))
                go_ret
                exact ⟨rfl, hB9.out⟩
    · have d0 : decide (((t : Nat) : Int) < (l2 : Int)) = false := decide_eq_false (by omega)
      obtain ⟨C, hC⟩ := hcf.out t
      have hC' := Lib.hid hC
      have he0 := hC.e0
      have hch := hC.ch
      rw [hps'.out] at he0 hch
      have hx := Lib.hid (And.intro he0 hch)
      have hmem := Lib.hid hC.mem
      have hsame := Lib.hid hC.same
      have hup := Lib.hid hC.up
      have hlen := hC.len
      clear hC he0 hch
      have hW := Lib.hid (hI3.out.moves hm'.out hne.out)
      have hK := Lib.hid (own_il hown'.out)
      obtain ⟨sa, sn, sc, rfl⟩ := own_shape hown'.out
      generalize hT : S.sets (moreN Z2 t) = T at *
      generalize ksL Z2 t = K at *
      go_wp2_with (first
        | (go_at_call 35; with_reducible refine (hM'.out.changed okt.out (ps : Int)).mono ?_; rintro e z1 ⟨vc, rfl, hr, hb⟩; rw [hx.out.1]; rw [hx.out.2] at hr; obtain ⟨ca, cn, cc, rfl⟩ := own_shape hr; obtain ⟨a9, c9, e9, ch1, ch2, _, ch3⟩ := (SRow.owned hr).shape (by decide); simp only [Value.slice.injEq] at e9; obtain ⟨rfl, rfl, rfl⟩ := e9; have hI1 := Lib.hid (own_il hr); have hcell := Lib.hid ch3; have hM1 := Lib.hid (hM'.out.carry hb); have hW1 := Lib.hid (hW.out.carry hb); have hK1 := Lib.hid (hK.out.carry hb); have hF1 := Lib.hid (hF'.out.step hb); clear hr hb ch3))
      clear d0
      generalize hcl : C.length = cn at *
      have hcl' := Lib.hid hcl
      clear hcl
      unfold maxLen at ch2
      go_loopw [15] (fun i wq => ∃ s : Nat, s ≤ 6 ∧ i = .int .i64 (s : Nat) ∧ Below z1.heap.size z1 wq) (fun i _ => 6 - (intOf i).toNat)
      case atStart => exact ⟨0, Nat.zero_le _, rfl, Below.refl _ _⟩
      case round =>
        obtain ⟨s, hs, hi, hB⟩ := hrel
        subst hi
        obtain ⟨V2, hV2⟩ : ∃ V, V = wr := ⟨wr, rfl⟩
        subst hV2
        have hB2 := Lib.hid hB
        clear hB
        by_cases hs6 : s < 6
        · obtain ⟨x, hx0⟩ : ∃ x, S.cs[s]? = some x := ⟨_, List.getElem?_eq_getElem (by rw [hl6'.out]; exact hs6)⟩
          have hm1 := hmem.out s hs6
          have hs1 := hsame.out s x hs6
          have hIw := (hW1.out.carry hB2.out).shape
          obtain ⟨a7, c7, e7, _, _, h7⟩ := hIw
          rw [hl6'.out] at e7 h7
          simp only [Value.slice.injEq, true_and] at e7
          obtain ⟨rfl, rfl⟩ := e7
          obtain ⟨g7, o7, e8, _, h8⟩ := h7 (by decide)
          simp only [Option.some.injEq, Addr.mk.injEq, and_true] at e8
          obtain ⟨rfl, rfl⟩ := e8
          have c0 := h8 s x hx0
          rw [Nat.zero_add] at c0
          clear h7 h8
          have i1 : (0 : Int) ≤ (s : Int) := by omega
          have i2 : (s : Int) < 6 := by omega
          have kH := Lib.hid (fun W (hb : Below V2.heap.size V2 W) => hasI_any (.slice ca cn cc) (natI C) (s : Int) W ((hI1.out.carry hB2.out).carry hb))
          have kS := Lib.hid (fun W (hb : Below V2.heap.size V2 W) => hasI_any (.slice sa sn sc) K (s : Int) W ((hK1.out.carry hB2.out).carry hb))
          rw [hm1] at kS
          cases hd : decide (((s : Nat) : Int) ∈ natI C) with
          | true =>
            rw [hd] at kH kS
            clear hs1 hm1 hd hx0
            go_upto_region 21 with (first
              | (go_at_call 36; with_reducible refine (kH.out _ (Below.refl _ _)).mono ?_; rintro e y4 ⟨rfl, rfl⟩)
              | (go_at_call 36; with_reducible refine (kS.out _ (Below.refl _ _)).mono ?_; rintro e y4 ⟨rfl, rfl⟩))
            refine wp_region_made (by kernel_rfl) (by kernel_rfl) ?_
            intro W hK
            have g_c0 := fun x => carry ((hK.below x)) c0
            repeat (go_big_quiet_step ((go_at_call 36; with_reducible exact met_same (kH.out _ (hK.below _)))))
            refine wpQuiet_nil ?_
            intro wq hw'
            have hbq := kept_in hK hw'
            clear g_c0
            clear hw' hK W
            replace c0 := carry (hbq) c0
            have hB3 := Lib.hid (below_step hB2.out hbq)
            go_wp2_with fail
            go_roundw
            case rel => exact ⟨s + 1, by omega, by go_num, hB3.out⟩
            case measure => simp [intOf]; omega
          | false =>
            have hg := hs1 hd
            rw [hd] at kH kS
            have kG := Lib.hid (fun W (hb : Below V2.heap.size V2 W) => show Calls Try.prog 30 #[.pointer (some ⟨b, 0, none⟩), .int .i64 (s : Int)] W fun e w' => e = .returned (.int .i64 x) ∧ W = w' from by
              rw [← hg hx0]; exact ((hM1.out.carry hB2.out).carry hb).get okt.out (s : Int))
            have b1 : (x == x) = true := by simp
            clear hs1 hm1 hd hx0 hg
            go_upto_region 21 with (first
              | (go_at_call 36; with_reducible refine (kH.out _ (Below.refl _ _)).mono ?_; rintro e y4 ⟨rfl, rfl⟩)
              | (go_at_call 36; with_reducible refine (kS.out _ (Below.refl _ _)).mono ?_; rintro e y4 ⟨rfl, rfl⟩))
            refine wp_region_made (by kernel_rfl) (by kernel_rfl) ?_
            intro W hK
            have g_c0 := fun x => carry ((hK.below x)) c0
            repeat (go_big_quiet_step ((first | (go_at_call 36; with_reducible exact met_same (kH.out _ (hK.below _))) | (go_at_call 30; with_reducible exact met_same (kG.out _ (hK.below _))))))
            refine wpQuiet_nil ?_
            intro wq hw'
            have hbq := kept_in hK hw'
            clear g_c0
            clear hw' hK W
            replace c0 := carry (hbq) c0
            have hB3 := Lib.hid (below_step hB2.out hbq)
            go_wp2_with fail
            go_roundw
            case rel => exact ⟨s + 1, by omega, by go_num, hB3.out⟩
            case measure => simp [intOf]; omega
        · obtain rfl : s = 6 := by omega
          go_wp2_with fail
          go_loopw [16] (fun i wq => ∃ s : Nat, 1 ≤ s ∧ s ≤ max 1 cn ∧ i = .int .i64 (s : Nat) ∧ Below z1.heap.size z1 wq) (fun i _ => 6 - (intOf i).toNat)
          case atStart => exact ⟨1, Nat.le_refl _, by omega, rfl, hB2.out⟩
          case round =>
            obtain ⟨s, hs1, hs2, hi, hB⟩ := hrel
            subst hi
            obtain ⟨V3, hV3⟩ : ∃ V, V = wr := ⟨wr, rfl⟩
            subst hV3
            have hB3 := Lib.hid hB
            clear hB
            by_cases hsc : s < cn
            · obtain ⟨q, hq⟩ : ∃ q, s = q + 1 := ⟨s - 1, by omega⟩
              obtain ⟨cg, co, rfl, _, hcc⟩ := hcell.out (by omega)
              obtain ⟨x, hx⟩ : ∃ x, C[q]? = some x := ⟨_, List.getElem?_eq_getElem (by rw [hcl'.out]; omega)⟩
              obtain ⟨y, hy⟩ : ∃ y, C[s]? = some y := ⟨_, List.getElem?_eq_getElem (by rw [hcl'.out]; exact hsc)⟩
              have hxy : x < y := pair_lt hup.out (by omega) hx hy
              have c0 := carry hB3.out (hcc q _ (ints_at (natI_at' hx))).1
              have c1 := carry hB3.out (hcc s _ (ints_at (natI_at' hy))).1
              have hsub : ((s : Nat) : Int) - 1 = (q : Int) := by omega
              have i1 : (0 : Int) ≤ (q : Int) := by omega
              have i2 : (q : Int) < (cn : Int) := by omega
              have hXY : ¬ (((y : Nat) : Int) ≤ ((x : Nat) : Int)) := by omega
              have hq' := Lib.hid hq
              clear hq hx hy hcc hxy
              generalize ((x : Nat) : Int) = X at *
              generalize ((y : Nat) : Int) = Y at *
              have d1 : decide (Y ≤ X) = false := decide_eq_false hXY
              clear hXY
              go_wp2_with (first | go_quiet (fail))
              refine ⟨⟨s + 1, by omega, by omega, by go_num, below_step hB3.out (below_drewN _ _)⟩, ?_⟩
              simp [intOf]; omega
            · go_wp2_with (first
                | (go_at_call 28; with_reducible refine (kl.out _).mono ?_; rintro e z3 ⟨rfl, hb⟩; have hB9 := Lib.hid (below_step (below_step hF1.out.below hB3.out) hb); clear hb))
              go_ret
              exact ⟨rfl, hB9.out⟩

set_option maxRecDepth 100000 in
theorem lifted (os : Os) (started : os.Started) (H : Type) (enc : TypeId × Value → H) :
    ReturnsInHanded {} Try.checked os 8 .any (Rows.cellmemChangedSpec.pre6 enc Try.prog Try.f8 Rows.cellmemChangedRow.domain false) (Rows.cellmemChangedSpec.post enc Try.prog Try.f8 false true false false) := by
  refine returnsInHanded_of_change (C := Try.checked) own started (by kernel_rfl) Try.func8
    (ChangeSpec.witness6 (enc := enc) (C := Try.checked) false ⟨#[], #[.slice none 0 0, .slice none 0 0, .slice none 0 0], []⟩ 8 (by kernel_rfl) (by kernel_rfl) (by kernel_rfl) (by kernel_rfl)) ?_
  intro W base args ds gs before hval0 hW hcnd _
  have hval : ∀ (j : Nat) t v, Try.f8.params[j]? = some t → args[j]? = some v → Value.okWide Try.prog W .any base t v := hval0
  have hW' := hW
  obtain ⟨p, q, hA0, hV, rfl, hfz, hnd⟩ := hW
  have hA : DataW.TrodAll enc Try.prog W 0 (fun _ => true) true Try.f8.params.toList args.toList ds p := hA0
  rw [Try.params8] at hA hval
  have hAk := hA
  obtain ⟨v0, vs0, d0, ds0, p0, q0, hargs, rfl, hp0, h0, r0⟩ := trodAll_cons hA
  obtain ⟨v1, vs1, d1, ds1, p1, q1, rfl, rfl, hp1, h1, r1⟩ := trodAll_cons r0
  obtain ⟨v2, vs2, d2, ds2, p2, q2, rfl, rfl, hp2, h2, r2⟩ := trodAll_cons r1
  obtain ⟨rfl, rfl, -⟩ := trodAll_nil r2
  obtain rfl : args = #[v0, v1, v2] := by cases args; simp_all
  obtain ⟨rfl, rfl⟩ := trodVars_none hV
  obtain ⟨x0, q0, c0, rfl⟩ := okWide_slice Try.underlying22 (hval 0 22 v0 rfl rfl)
  obtain ⟨fu0, fh0⟩ := h0
  obtain ⟨s0, Z0, l0, e0, H0⟩ := open_int_cells Try.underlying22 Try.underlying3 (by kernel_rfl) fh0
  simp only [Value.cells, List.cons.injEq, and_true] at e0
  obtain rfl := e0.symm
  obtain ⟨x1, q1, c1, rfl⟩ := okWide_slice Try.underlying22 (hval 1 22 v1 rfl rfl)
  obtain ⟨fu1, fh1⟩ := h1
  obtain ⟨s1, Z1, l1, e1, H1⟩ := open_int_cells Try.underlying22 Try.underlying3 (by kernel_rfl) fh1
  simp only [Value.cells, List.cons.injEq, and_true] at e1
  obtain rfl := e1.symm
  obtain ⟨x2, q2, c2, rfl⟩ := okWide_slice Try.underlying51 (hval 2 51 v2 rfl rfl)
  obtain ⟨fu2, fh2⟩ := h2
  obtain ⟨s2, Z2, l2, e2, H2⟩ := open_slice_arrs Try.underlying51 Try.underlying54 Try.underlying3 (by decide) (by kernel_rfl) (by kernel_rfl) fh2
  simp only [Value.cells, List.cons.injEq, and_true] at e2
  obtain rfl := e2.symm
  clear hA0 hval0
  simp only [List.append_nil] at hW'
  refine (walk W _ Z0 l0 H0 _ Z1 l1 H1 _ Z2 l2 H2).mono fun e W' ⟨he, hb⟩ => ?_
  subst he
  exact ⟨_, rfl, kept_post (pa := p) hW' (fun _ _ _ => (trodAll_cons_mk (shut_bool Try.underlying4 _) trodAll_mk0)) (fun sp hsp => trodAll_stays laid hb (by rw [Try.params8]; decide +kernel) hAk (fun x hx => hW'.lt x hx) hsp) (fun _ => rfl) hb (ok_one (by kernel_rfl) rfl (okWide_bool_mk Try.underlying4 _))⟩

theorem over : Rows.cellmemChangedRow.holds Try.pinned (OpenSpec.ofChange Rows.cellmemChangedSpec) :=
  OpenClaim.holds_of_wide 8 Try.f8 rfl rfl rfl rfl rfl rfl rfl ⟨rfl, rfl, rfl, rfl, rfl⟩ rfl rfl rfl rfl rfl (by kernel_rfl) Try.func8 (by kernel_rfl)
    (of_decide_eq_true (by kernel_rfl)) (by unfold Func.isWrapper; first | (rw [if_pos (by decide +kernel)]; kernel_rfl) | (rw [if_neg (by decide +kernel)]; exact ⟨rfl, rfl⟩))
    (fun os started H enc _ => lifted os started H enc)

theorem proved : Rows.CellmemChangedSaid :=
  over
#print axioms proved
end Go.Proofs.Ytlpacihkmfgegaa.cellmemChanged
