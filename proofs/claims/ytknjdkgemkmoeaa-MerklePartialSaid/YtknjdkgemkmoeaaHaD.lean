/- Package hash64: Sum. -/
import Derived.Test.YtknjdkgemkmoeaaHaC
import Derived.Test.YtknjdkgemkmoeaaLists
import Derived.Lib.ConvBytes
import Derived.Deep.LoopGhost
import Derived.Deep.DeepCutAuto
import Derived.Deep.CutBlock
import Derived.WalkLawsBesides
namespace Go.Proofs.Ytknjdkgemkmoeaa
open Go.ChangeShapes Go.WideShapes Go.ChangeAt Go.RowKit Go.Shelf
set_option linter.unusedSimpArgs false
set_option linter.unusedVariables false
attribute [local go_sem] Oper.semAt_some

theorem IL.shape {w : World} {v : Value} {l : List Int} (h : IL w v l) : ∃ a cap, v = .slice a l.length cap ∧ l.length ≤ cap ∧ cap ≤ maxLen ∧
    (0 < l.length → ∃ h off, a = some ⟨h, off, none⟩ ∧ h < w.heap.size ∧ ∀ (i : Nat) (z : Int), l[i]? = some z → w.cell? ⟨h, off + i, none⟩ = some (.int .i64 z)) := by
  rcases h.cases with ⟨rfl, a, cap, rfl, h2⟩ | ⟨g, off, cap, rfl, h2, h3, h4, h5, h6⟩
  · exact ⟨a, cap, rfl, Nat.zero_le _, h2, fun h => absurd h (Nat.lt_irrefl 0)⟩
  · exact ⟨_, cap, rfl, h2, h3, fun _ => ⟨g, off, rfl, h5, h6⟩⟩

/-! ## A string's bytes -/
def labL (s : ByteArray) : List Nat := s.data.toList.map UInt8.toNat
theorem labL_len (s : ByteArray) : (labL s).length = s.size := by unfold labL; rw [List.length_map, Array.length_toList]; rfl
theorem labL_byt (s : ByteArray) : Byt (labL s) := fun b hb => by
  obtain ⟨u, _, rfl⟩ := List.mem_map.1 hb
  exact u.toNat_lt
theorem labL_at {s : ByteArray} {i b : Nat} (h : (labL s)[i]? = some b) : s.data[i]? = some (UInt8.ofNat b) := by
  unfold labL at h
  rw [List.getElem?_map] at h
  obtain ⟨u, h1, rfl⟩ := Option.map_eq_some_iff.1 h
  rw [← Array.getElem?_toList, h1]
  simp
theorem bytesWorld_below (w : World) (e : TypeId) (s : ByteArray) : Below w.heap.size w (Lib.bytesWorld w e s) := by
  refine ⟨?_, ?_, ?_, by rw [Lib.bytesWorld_size]; omega, fun k hk => Lib.bytesWorld_at_old w e s k hk⟩ <;> (unfold Lib.bytesWorld World.freeze; rw [if_neg (by decide)]; rfl)
theorem bytesWorld_row (w : World) (e : TypeId) (s : ByteArray) (hs : s.size ≤ 1000) (S : Nat → Prop) (hS : S w.heap.size) :
    ByRow (Lib.bytesWorld w e s) S (some ⟨w.heap.size, 0, none⟩) s.size (grownCap w s.size 0 e) (labL s) := by
  refine ⟨labL_len s, grownCap_ge _ _ _ _, grownCap_le_maxLen _ _ _ _ (by unfold maxLen; omega), labL_byt s, fun _ => ⟨w.heap.size, 0, rfl, hS, by rw [Lib.bytesWorld_size]; omega, fun i b hi => ?_⟩⟩
  have hi2 : i < s.size := by rw [← labL_len]; exact (List.getElem?_eq_some_iff.1 hi).1
  rw [Nat.zero_add, Lib.bytesWorld_cell w e s i hi2]
  unfold labL at hi
  rw [List.getElem?_map] at hi
  obtain ⟨u, h1, rfl⟩ := Option.map_eq_some_iff.1 hi
  rw [List.getD_eq_getElem?_getD, h1]
  rfl

theorem word_nat_small {n : Nat} (h : n ≤ 1000) : ((BitVec.ofNat 64 n).toNat : Int) = (n : Int) := by
  rw [BitVec.toNat_ofNat, Nat.mod_eq_of_lt (by omega)]

set_option maxHeartbeats 4000000 in
set_option maxRecDepth 100000 in
theorem sum_any (lab : ByteArray) (v : Value) (l : List Int) (w : World) (hI : IL w v l) (hs : lab.size ≤ 1000) (hl : l.length ≤ 1000) :
    Calls Try.prog 51 #[.string lab, v] w fun e w' => e = .returned (.int .u64 ((sumW (labL lab) (l.map (BitVec.ofInt 64))).toNat : Int)) ∧ Below w.heap.size w w' := by
  have kc := fun (w : World) => Lib.run_convert_string_bytes (P := Try.prog) w 9 131 5 lab Try.underlying9 Try.underlying131 Try.underlying5
  obtain ⟨a, cap, rfl, h1, h2, h3⟩ := hI.shape
  obtain ⟨n, hn⟩ : ∃ n, n = l.length := ⟨_, rfl⟩
  rw [← hn] at h1 h3 hl ⊢
  have hn' := Lib.hid hn
  have hI' := Lib.hid hI
  unfold maxLen at h2
  clear hn h3 hI
  refine (callsIn_wide (n := 9)).1 (callsIn_of_wp_marks Try.func51 rfl trivial (wpIn_wide.2 ?_) rfl)
  simp only [Try.ntmps51, List.size_toArray, List.length_cons, List.length_nil, Nat.reduceAdd, Nat.reduceSub, Array.replicate_succ, Array.replicate_zero, List.push_toArray, List.append_toArray, List.nil_append, List.cons_append]
  go_wp2_with fail
  refine (wordsOf_any _ _ _ _).mono ?_
  rintro e V ⟨rfl, hV⟩
  obtain ⟨U, hU⟩ : ∃ U, U = w.alloc (.cells #[.int .u64 0] 36) := ⟨_, rfl⟩
  have hbU : Below w.heap.size w U := by rw [hU]; exact alloc_below _ _
  have hzU : U.heap.size = w.heap.size + 1 := by rw [hU]; simp
  have hvU : Boxed U w.heap.size 36 (.int .u64 0) := by rw [hU]; exact Boxed.new _ _ _
  rw [← hU] at hV ⊢
  clear hU
  obtain ⟨X0, hX0⟩ : ∃ X0, X0 = Lib.bytesWorld U 5 lab := ⟨_, rfl⟩
  have hbX : Below U.heap.size U X0 := by rw [hX0]; exact bytesWorld_below _ _ _
  have hzX : X0.heap.size = U.heap.size + 1 := by rw [hX0]; exact Lib.bytesWorld_size _ _ _
  have hrX := bytesWorld_row U 5 lab hs (fun r => r = U.heap.size ∨ r = U.heap.size + 1) (.inl rfl)
  rw [← hX0] at hV hrX ⊢
  clear hX0
  generalize grownCap U lab.size 0 5 = cp at *
  have hbV : Below X0.heap.size X0 V := by rw [hV]; exact alloc_below _ _
  have hzV : V.heap.size = w.heap.size + 3 := by rw [hV]; simp; omega
  have hcV : V.cell? ⟨X0.heap.size, 0, none⟩ = some (.slice (some ⟨U.heap.size, 0, none⟩) lab.size cp) := by rw [hV]; simp [go_sem]
  have hrV := hrX.carry hbV
  have hUV := below_step hbX hbV
  have hBV := below_step hbU hUV
  have hvV : Boxed V w.heap.size 36 (.int .u64 0) := (hUV.block _ hvU.lt).trans hvU
  have hG := Lib.hid (words_gives _ _ cp X0.heap.size (labL lab) (fun r => r = U.heap.size ∨ r = U.heap.size + 1) V hrV hcV (.inr hzX) hs)
  clear hV hbX hbV hUV hbU hrX hrV hcV hvU kc
  rw [hzX, hzU] at hG ⊢
  clear hzX hzU
  go_wp2_with fail
  refine (wpIn_wide (n := 9)).1 ?_
  refine range_gives (w0 := V) (c := 0) (N := nw lab.size) (S := fun r => r = w.heap.size + 1 ∨ r = w.heap.size + 1 + 1) rfl (enters_of Try.func101 (by kernel_rfl) rfl) hG.out (Below.refl _ _) (by rintro r (h | h) <;> omega) (fun _ => rfl)
    (fun k X => Boxed X w.heap.size 36 (.int .u64 ((mixes 0 (wordsN (labL lab) k)).toNat : Int)) ∧ Below w.heap.size w X) (fun _ _ => False) ?hI (fun _ _ _ _ h _ _ => h) ⟨hvV, hBV⟩ ?round ?done ?stop
  case hI =>
    refine Steady.and ?_ (steady_below (Nat.le_refl _) fun r h => by omega)
    rintro k A B row hv hg ht
    exact hv.kept hg (fun e => by have := ht _ e.symm; omega)
  case round =>
    rintro l1 k X hk hsz ⟨hv, hB⟩
    have hsn := Lib.hid (wordsN_succ (labL lab) k)
    generalize hst : mixes 0 (wordsN (labL lab) k) = st at *
    have hst' := Lib.hid hst
    clear hst
    have K := fun w => mix_any st (word (labL lab) k) w
    have hK := Lib.hid K
    clear K
    simp only [wdE]
    gi_wp2
    refine ⟨KeepOn.refl _ _, fun Y hT => ?_⟩
    have hvY : Boxed Y w.heap.size 36 _ := hT.heap hv (by omega)
    have hbY : Below w.heap.size w Y := by
      obtain ⟨r, hr1, hg⟩ := hT
      exact hB.grown hg hB.size fun r' e => by cases e; omega
    have cv := hvY.cell
    have fv := hvY.frozen
    clear hv hB
    gi_wp2_with fail
    refine ⟨trivial, ?_⟩
    refine (CallsIn.inRound l1 (callsIn_wide.2 (hK.out _))).mono ?_
    rintro e w1 ⟨rfl, rfl⟩
    gi_wp2
    refine ⟨KeepOn.setCell _ (by simp only; omega), ?_, hbY.setCell (Nat.le_refl _) _⟩
    rw [hsn.out, mixes_snoc, hst'.out]
    exact hvY.set _
  case done =>
    rintro D X rfl ⟨hv, hB⟩ hD
    have hW1 : wordsN (labL lab) (nw lab.size) = words (labL lab) := by unfold words; rw [labL_len]
    rw [hW1] at hv
    clear hW1
    have hfin := Lib.hid (show sumW (labL lab) (l.map (BitVec.ofInt 64)) = mix (mixes (mix (mix (mixes 0 (words (labL lab))) (BitVec.ofNat 64 lab.size)) (BitVec.ofNat 64 n)) ((l.take n).map (BitVec.ofInt 64))) 0 from by
      unfold sumW
      rw [hn'.out, List.take_length, labL_len, List.length_map, mixes_append, mixes_append, mixes_append]
      rfl)
    generalize mixes 0 (words (labL lab)) = s1 at *
    have K1 := fun w => mix_any s1 (BitVec.ofNat 64 lab.size) w
    have K2 := fun w => mix_any (mix s1 (BitVec.ofNat 64 lab.size)) (BitVec.ofNat 64 n) w
    rw [word_nat_small hs] at K1
    rw [word_nat_small hl] at K2
    generalize mix s1 (BitVec.ofNat 64 lab.size) = s2 at *
    generalize mix s2 (BitVec.ofNat 64 n) = s3 at *
    have hK := Lib.hid (And.intro K1 K2)
    clear K1 K2
    have cv := hv.cell
    have fv := hv.frozen
    go_wp2_with fail
    refine (hK.out.1 _).mono ?_
    rintro e w1 ⟨rfl, rfl⟩
    go_upto_region 6 with fail
    have hv1 := hv.set (.int .u64 (s2.toNat : Int))
    have hB1 := hB.setCell (p := ⟨w.heap.size, 0, none⟩) (Nat.le_refl _) (.int .u64 (s2.toNat : Int))
    have hD1 : (X.setCell ⟨w.heap.size, 0, none⟩ (.int .u64 (s2.toNat : Int))).heap[V.heap.size]? = some (.deferred (some [])) := (Below.heap_setCell _ _ _ _ (by simp only; omega)).trans hD
    generalize X.setCell ⟨w.heap.size, 0, none⟩ (.int .u64 (s2.toNat : Int)) = X1 at *
    clear hv hB hD cv fv
    have cv := hv1.cell
    have fv := hv1.frozen
    go_wp2_with fail
    refine (hK.out.2 _).mono ?_
    rintro e w1 ⟨rfl, rfl⟩
    go_upto_region 7 with fail
    have hv2 := hv1.set (.int .u64 (s3.toNat : Int))
    have hB2 := hB1.setCell (p := ⟨w.heap.size, 0, none⟩) (Nat.le_refl _) (.int .u64 (s3.toNat : Int))
    have hD2 : (X1.setCell ⟨w.heap.size, 0, none⟩ (.int .u64 (s3.toNat : Int))).heap[V.heap.size]? = some (.deferred (some [])) := (Below.heap_setCell _ _ _ _ (by simp only; omega)).trans hD1
    generalize X1.setCell ⟨w.heap.size, 0, none⟩ (.int .u64 (s3.toNat : Int)) = X2 at *
    clear hv1 hB1 hD1 cv fv hK
    have hwD : w.heap.size ≠ V.heap.size := by omega
    go_wp2_with fail
    go_loopw [28] (fun i wr => ∃ k : Nat, k ≤ n ∧ i = .int .i64 (k : Nat) ∧ Boxed wr w.heap.size 36 (.int .u64 ((mixes s3 ((l.take k).map (BitVec.ofInt 64))).toNat : Int)) ∧ Below w.heap.size w wr ∧ wr.heap[V.heap.size]? = some (.deferred (some []))) (fun i _ => n - (intOf i).toNat)
    case atStart => exact ⟨0, Nat.zero_le _, rfl, hv2, hB2, hD2⟩
    case round =>
      obtain ⟨k, hk, rfl, hv, hB, hD⟩ := hrel
      clear hv2 hB2 hD2
      by_cases hlt : k < n
      · obtain ⟨a', cap', ha, _, _, hrow⟩ := hI'.out.shape
        simp only [Value.slice.injEq, true_and] at ha
        obtain ⟨rfl, rfl⟩ := ha
        obtain ⟨g, off, rfl, hg, hcell⟩ := hrow (by rw [← hn'.out]; omega)
        have hlk : l[k]? = some (l[k]'(by rw [← hn'.out]; exact hlt)) := List.getElem?_eq_getElem _
        generalize l[k]'(by rw [← hn'.out]; exact hlt) = z at hlk
        have c0 := (hB.cell (p := ⟨g, off + k, none⟩) hg).trans (hcell k z hlk)
        have hstep : mixes s3 ((l.take (k + 1)).map (BitVec.ofInt 64)) = mix (mixes s3 ((l.take k).map (BitVec.ofInt 64))) (BitVec.ofInt 64 z) := by
          rw [List.take_add_one, hlk, List.map_append, mixes_append]
          rfl
        have hstep' := Lib.hid hstep
        clear hstep hrow hcell hlk
        generalize mixes s3 ((l.take k).map (BitVec.ofInt 64)) = t0 at *
        have K := fun w => mix_any t0 (BitVec.ofInt 64 z) w
        rw [← u64_wrap] at K
        have hK := Lib.hid K
        clear K
        have cv := hv.cell
        have fv := hv.frozen
        go_wp2_with fail
        refine (hK.out _).mono ?_
        rintro e w1 ⟨rfl, rfl⟩
        go_wp2
        go_roundw
        case rel => exact ⟨k + 1, by omega, by go_num, by rw [hstep'.out]; exact hv.set _, hB.setCell (Nat.le_refl _) _, (Below.heap_setCell _ _ _ _ (by simp only; omega)).trans hD⟩
        case measure => simp [intOf]; omega
      · have hkn : k = n := by omega
        have hv' : Boxed wr w.heap.size 36 (.int .u64 ((mixes s3 ((l.take n).map (BitVec.ofInt 64))).toNat : Int)) := hkn ▸ hv
        clear hv hkn
        generalize mixes s3 ((l.take n).map (BitVec.ofInt 64)) = t0 at *
        have K := fun w => mix_any t0 0 w
        rw [show (((0 : W64).toNat : Int)) = 0 from rfl] at K
        have hK := Lib.hid K
        clear K
        have cv := hv'.cell
        go_wp2_with fail
        refine (hK.out _).mono ?_
        rintro e w1 ⟨rfl, rfl⟩
        go_wp2
        rw [hzV] at hD
        refine ⟨by simp, .inl ⟨_, _, rfl, run_takeDeferred hD, ?_⟩⟩
        exact ⟨_, results_tmp rfl _ _ _, by rw [hfin.out]; rfl, hB.grown (grownBy_putObj' _ _ _) hB.size fun r e => by cases e; omega⟩
  case stop => exact fun _ _ _ _ _ h _ => h.elim
end Go.Proofs.Ytknjdkgemkmoeaa
