/- The reference of hash64: Sum, Pair. -/
import Derived.Test.YtknjdkgemkmoeaaHaG
namespace Go.Proofs.Ytknjdkgemkmoeaa
open Go.ChangeShapes Go.WideShapes Go.ChangeAt Go.RowKit Go.Shelf
set_option linter.unusedSimpArgs false
set_option linter.unusedVariables false

theorem VL.shape {w : World} {v : Value} {xs : List Value} (h : VL w v xs) : ∃ a cap, v = .slice a xs.length cap ∧ xs.length ≤ cap ∧ cap ≤ maxLen ∧
    (0 < xs.length → ∃ h off, a = some ⟨h, off, none⟩ ∧ h < w.heap.size ∧ ∀ (i : Nat) (u : Value), xs[i]? = some u → w.cell? ⟨h, off + i, none⟩ = some u) := by
  rcases h.cases with ⟨rfl, a, cap, rfl, h2⟩ | ⟨g, off, cap, rfl, h2, h3, h4, h5, h6⟩
  · exact ⟨a, cap, rfl, Nat.zero_le _, h2, fun h => absurd h (Nat.lt_irrefl 0)⟩
  · exact ⟨_, cap, rfl, h2, h3, fun _ => ⟨g, off, rfl, h5, h6⟩⟩

set_option maxHeartbeats 4000000 in
set_option maxRecDepth 100000 in
theorem refSum_any (lab : ByteArray) (v : Value) (l : List Int) (w : World) (hI : IL w v l) (hs : lab.size ≤ 1000) (hl : l.length ≤ 1000) :
    Calls Try.prog 105 #[.string lab, v] w fun e w' => e = .returned (.int .u64 ((sumW (labL lab) (l.map (BitVec.ofInt 64))).toNat : Int)) ∧ Below w.heap.size w w' := by
  have kc := fun (w : World) => Lib.run_convert_string_bytes (P := Try.prog) w 9 131 5 lab Try.underlying9 Try.underlying131 Try.underlying5
  obtain ⟨a, cap, rfl, h1, h2, h3⟩ := hI.shape
  obtain ⟨n, hn⟩ : ∃ n, n = l.length := ⟨_, rfl⟩
  rw [← hn] at h1 h3 hl ⊢
  have hn' := Lib.hid hn
  have hI' := Lib.hid hI
  unfold maxLen at h2
  clear hn h3 hI
  go_enter Try.func105, Try.ntmps105
  go_wp2_with fail
  refine (refWords_any _ _ _ _ _ (bytesWorld_row w 5 lab hs (fun r => r < (Lib.bytesWorld w 5 lab).heap.size) (by rw [Lib.bytesWorld_size]; omega)) hs).mono ?_
  rintro e V ⟨x, rfl, ho, hbV⟩
  have hB0 := below_step (bytesWorld_below w 5 lab) hbV
  have hV := VL.owned ho
  obtain ⟨xa, xc, rfl, hx1, hx2, hx3⟩ := hV.shape
  have hxl : (u64s (wordsN (labL lab) (nw lab.size))).length = nw lab.size := by rw [u64s_len, wordsN_len]
  rw [hxl] at hx1 hx3 ⊢
  have hnws : nw lab.size ≤ 200 := by unfold nw; omega
  have hx3' := Lib.hid hx3
  have hB0' := Lib.hid hB0
  clear hx3 hbV ho hB0 hV hxl kc
  have hW1 := Lib.hid (show wordsN (labL lab) (nw lab.size) = words (labL lab) from by unfold words; rw [labL_len])
  have hcells := Lib.hid (fun (k : Nat) (hk : k < nw lab.size) => (u64s_at (wordsN_at (labL lab) hk) : (u64s (wordsN (labL lab) (nw lab.size)))[k]? = some (.int .u64 ((word (labL lab) k).toNat : Int))))
  generalize nw lab.size = m at *
  unfold maxLen at hx2
  go_wp2_with fail
  go_loopw [5, 7] (fun s i wr => ∃ k : Nat, k ≤ m ∧ i = .int .i64 (k : Nat) ∧ s = .int .u64 ((mixes 0 (wordsN (labL lab) k)).toNat : Int) ∧ Below V.heap.size V wr) (fun _ i _ => m - (intOf i).toNat)
  case atStart => exact ⟨0, Nat.zero_le _, rfl, rfl, Below.refl _ _⟩
  case round =>
    obtain ⟨k, hk, rfl, rfl, hB⟩ := hrel
    by_cases hlt : k < m
    · obtain ⟨g, off, rfl, hg, hc⟩ := hx3'.out (by omega)
      have c0 := carry hB (hc k _ (hcells.out k hlt))
      have hsn := Lib.hid (wordsN_succ (labL lab) k)
      have K := fun w => refMix_any (mixes 0 (wordsN (labL lab) k)) (word (labL lab) k) w
      rw [← mixes_snoc, ← hsn.out] at K
      generalize mixes 0 (wordsN (labL lab) k) = t0 at *
      obtain ⟨t1, ht1⟩ : ∃ t1, t1 = mixes 0 (wordsN (labL lab) (k + 1)) := ⟨_, rfl⟩
      rw [← ht1] at K
      have ht := Lib.hid ht1
      clear ht1
      generalize (word (labL lab) k).toNat = wk at *
      have hK := Lib.hid K
      clear K hc
      go_wp2_with fail
      refine (hK.out _).mono ?_
      rintro e w1 ⟨rfl, rfl⟩
      go_wp2
      go_roundw
      case rel => exact ⟨k + 1, by omega, by go_num, by rw [ht.out], hB⟩
      case measure => simp [intOf]; omega
    · have hkm : k = m := by omega
      have hfin := Lib.hid (show sumW (labL lab) (l.map (BitVec.ofInt 64)) = mix (mixes (mix (mix (mixes 0 (wordsN (labL lab) k)) (BitVec.ofNat 64 lab.size)) (BitVec.ofNat 64 n)) ((l.take n).map (BitVec.ofInt 64))) 0 from by
        rw [hkm, hW1.out]
        unfold sumW
        rw [hn'.out, List.take_length, labL_len, List.length_map, mixes_append, mixes_append, mixes_append]
        rfl)
      clear hkm
      generalize mixes 0 (wordsN (labL lab) k) = s1 at *
      have K1 := fun w => refMix_any s1 (BitVec.ofNat 64 lab.size) w
      have K2 := fun w => refMix_any (mix s1 (BitVec.ofNat 64 lab.size)) (BitVec.ofNat 64 n) w
      rw [word_nat_small hs] at K1
      rw [word_nat_small hl] at K2
      generalize mix s1 (BitVec.ofNat 64 lab.size) = s2 at *
      generalize mix s2 (BitVec.ofNat 64 n) = s3 at *
      have hK := Lib.hid (And.intro K1 K2)
      clear K1 K2
      have hB1 := below_step hB0'.out hB
      clear hB
      go_wp2_with fail
      refine (hK.out.1 _).mono ?_
      rintro e w1 ⟨rfl, rfl⟩
      go_wp2_with fail
      refine (hK.out.2 _).mono ?_
      rintro e w1 ⟨rfl, rfl⟩
      go_wp2_with fail
      go_loopw [5, 8] (fun s i wx => ∃ k : Nat, k ≤ n ∧ i = .int .i64 (k : Nat) ∧ s = .int .u64 ((mixes s3 ((l.take k).map (BitVec.ofInt 64))).toNat : Int) ∧ wr = wx) (fun _ i _ => n - (intOf i).toNat)
      case atStart => exact ⟨0, Nat.zero_le _, rfl, rfl, rfl⟩
      case round =>
        obtain ⟨q, hq, rfl, rfl, rfl⟩ := hrel
        by_cases hlt : q < n
        · obtain ⟨a', cap', ha, _, _, hrow⟩ := hI'.out.shape
          simp only [Value.slice.injEq, true_and] at ha
          obtain ⟨rfl, rfl⟩ := ha
          obtain ⟨g', off', rfl, hg', hcell⟩ := hrow (by rw [← hn'.out]; omega)
          have hlk : l[q]? = some (l[q]'(by rw [← hn'.out]; exact hlt)) := List.getElem?_eq_getElem _
          generalize l[q]'(by rw [← hn'.out]; exact hlt) = z at hlk
          have c0 := carry hB1 (hcell q z hlk)
          have hstep : mixes s3 ((l.take (q + 1)).map (BitVec.ofInt 64)) = mix (mixes s3 ((l.take q).map (BitVec.ofInt 64))) (BitVec.ofInt 64 z) := by
            rw [List.take_add_one, hlk, List.map_append, mixes_append]
            rfl
          have hstep' := Lib.hid hstep
          clear hstep hrow hcell hlk
          generalize mixes s3 ((l.take q).map (BitVec.ofInt 64)) = t0 at *
          have K := fun w => refMix_any t0 (BitVec.ofInt 64 z) w
          rw [← u64_wrap] at K
          have hK := Lib.hid K
          clear K
          go_wp2_with fail
          refine (hK.out _).mono ?_
          rintro e w1 ⟨rfl, rfl⟩
          go_wp2
          go_roundw
          case rel => exact ⟨q + 1, by omega, by go_num, by rw [hstep'.out], trivial⟩
          case measure => simp [intOf]; omega
        · have hkn : q = n := by omega
          rw [← hkn] at hfin
          clear hkn
          generalize mixes s3 ((l.take q).map (BitVec.ofInt 64)) = t0 at *
          have K := fun w => refMix_any t0 0 w
          rw [show (((0 : W64).toNat : Int)) = 0 from rfl] at K
          have hK := Lib.hid K
          clear K
          go_wp2_with fail
          refine (hK.out _).mono ?_
          rintro e w1 ⟨rfl, rfl⟩
          go_wp2
          go_ret
          exact ⟨by rw [hfin.out]; rfl, hB1⟩

set_option maxHeartbeats 2000000 in
theorem refPair_any (a b : W64) (w : World) : Calls Try.prog 92 #[.int .u64 (a.toNat : Int), .int .u64 (b.toNat : Int)] w fun e w' => e = .returned (.int .u64 ((pairW a b).toNat : Int)) ∧ Below w.heap.size w w' := by
  have ha := wrap64_word a
  have hb := wrap64_word b
  have K := refSum_any { data := #[112, 97, 105, 114] } _ [a.toInt, b.toInt] _ (two_new w a.toInt b.toInt) pairSize (by simp)
  rw [pairLab] at K
  simp only [List.map_cons, List.map_nil, BitVec.ofInt_toInt] at K
  rw [show sumW [112, 97, 105, 114] [a, b] = pairW a b from rfl, ← ha, ← hb] at K
  have hB := Lib.hid (alloc_below w (.cells #[.int .i64 (wrap64 (a.toNat : Int)), .int .i64 (wrap64 (b.toNat : Int))] 3))
  have hK := Lib.hid K
  clear K ha hb
  generalize pairW a b = r at *
  go_enter Try.func92, Try.ntmps92
  go_wp2_with fail
  with_reducible refine (hK.out).mono ?_
  rintro e w1 ⟨rfl, hb1⟩
  go_wp2
  go_ret
  exact ⟨rfl, below_step hB.out hb1⟩
end Go.Proofs.Ytknjdkgemkmoeaa
