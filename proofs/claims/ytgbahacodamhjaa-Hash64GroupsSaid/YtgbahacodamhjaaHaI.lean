/- The reference of hash64: Bytes. -/
import Derived.Test.YtgbahacodamhjaaHaF
import Derived.Test.YtgbahacodamhjaaHaH
namespace Go.Proofs.Ytgbahacodamhjaa
open Go.ChangeShapes Go.WideShapes Go.ChangeAt Go.RowKit Go.Shelf
set_option linter.unusedSimpArgs false
set_option linter.unusedVariables false

set_option maxHeartbeats 4000000 in
set_option maxRecDepth 100000 in
theorem refBytes_any (lab : ByteArray) (a : Option Addr) (n cap : Nat) (L : List Nat) (w : World) (hR : ByRow w (fun r => r < w.heap.size) a n cap L) (hs : lab.size ≤ 1000) (hn : n ≤ 1000) :
    Calls Try.prog 18 #[.string lab, .slice a n cap] w fun e w' => e = .returned (.int .u64 ((bytesW (labL lab) L).toNat : Int)) ∧ Below w.heap.size w w' := by
  obtain ⟨i0, hi0, hz0, hz1, hz2⟩ := info_parts info_int
  have hle := hR.le
  have hmx := hR.max
  unfold maxLen at hmx
  have hR' := Lib.hid hR
  clear hR
  go_enter Try.func18, Try.ntmps18
  go_wp2_with fail
  refine (refWords_any a n cap L w hR'.out hn).mono ?_
  rintro e V ⟨x, rfl, ho, hB0⟩
  obtain ⟨xa, xc, rfl, hx1, hx2, hx3⟩ := (VL.owned ho).shape
  have hxl : (u64s (wordsN L (nw n))).length = nw n := by rw [u64s_len, wordsN_len]
  rw [hxl] at hx1 hx3 ⊢
  have hnws : nw n ≤ 200 := by unfold nw; omega
  have hx3' := Lib.hid hx3
  have hB0' := Lib.hid hB0
  have hzV := hB0.size
  clear hx3 ho hB0 hxl
  have hcells := Lib.hid (fun (k : Nat) (hk : k < nw n) => (u64s_at (wordsN_at L hk) : (u64s (wordsN L (nw n)))[k]? = some (.int .u64 ((word L k).toNat : Int))))
  have hsum := Lib.hid (show sumW (labL lab) ((wInts L (nw n) ++ [(n : Int)]).map (BitVec.ofInt 64)) = bytesW (labL lab) L from by rw [wInts_word L n hR'.out.len]; rfl)
  have hlen := Lib.hid (show (wInts L (nw n) ++ [(n : Int)]).length ≤ 1000 from by rw [List.length_append, wInts_len]; simp only [List.length_singleton]; omega)
  generalize nw n = m at *
  unfold maxLen at hx2
  go_wp2_with fail
  go_loopw [6, 7] (fun out i wr => ∃ k : Nat, k ≤ m ∧ i = .int .i64 (k : Nat) ∧ wr.ownsRow V.heap.size 3 1 out k (ints (wInts L k)) ∧ Below V.heap.size V wr) (fun _ i _ => m - (intOf i).toNat)
  case atStart => exact ⟨0, Nat.zero_le _, rfl, World.ownsRow_nil _ _ _ _, Below.refl _ _⟩
  case round =>
    obtain ⟨k, hk, rfl, ho, hB⟩ := hrel
    have hzr := hB.size
    have ho' := Lib.hid ho
    clear ho
    by_cases hlt : k < m
    · obtain ⟨g, off, rfl, hg, hc⟩ := hx3'.out (by omega)
      have c0 := carry hB (hc k _ (hcells.out k hlt))
      have hB' := Lib.hid hB
      have hsn := Lib.hid (wInts_succ L k)
      have hx := wrap64_word (word L k)
      clear hc hB
      generalize (word L k).toInt = x at *
      generalize (word L k).toNat = xn at *
      go_wp2_with (at_builtin; refine wpList_append_own _ rfl _ _ 22 rfl V.heap.size 3 i0 _ 1 8 Try.underlying22 hi0 hz0 hz1 hz2 rfl (by decide) u6 k _ rfl (ho'.out.alloc _) ⟨wr.heap.size, 0, none⟩ 1 1 (ints [x]) rfl rfl (fun j u hu => by rw [add_plain, Nat.zero_add, World.cell?_alloc_new, ← hx]; simpa [ints, hx] using hu) (ints_one' _) (by unfold maxLen; omega) (by omega) (by simp; omega) ?_; intro v' w1 hown' hgrow _)
      go_roundw
      case rel => exact ⟨k + 1, by omega, by go_num, by rw [hsn.out, ints_append]; exact hown', (hB'.out.alloc hB'.out.size _).grown hgrow (by simp; omega) fun r e => (ho'.out.lt r e).1⟩
      case measure => simp [intOf]; omega
    · have hkm : k = m := by omega
      rw [← hkm] at hsum hlen
      clear hkm
      have hB1 := below_step hB0'.out hB
      have hB' := Lib.hid hB
      have hB1' := Lib.hid hB1
      clear hB hB1
      go_wp2_with (first
        | (at_builtin; refine wpList_append_own _ rfl _ _ 22 rfl V.heap.size 3 i0 _ 1 8 Try.underlying22 hi0 hz0 hz1 hz2 rfl (by decide) u6 k _ rfl (ho'.out.alloc _) ⟨wr.heap.size, 0, none⟩ 1 1 (ints [(n : Int)]) rfl rfl (fun j u hu => by rw [add_plain, Nat.zero_add, World.cell?_alloc_new]; simpa [ints] using hu) (ints_one' _) (by unfold maxLen; omega) (by omega) (by simp; omega) ?_; intro v' w1 hown' hgrow _; rw [← ints_append] at hown'; have hI1 := Lib.hid (IL.owned hown'); have hB2 := Lib.hid (hB0'.out.trans (((hB'.out.alloc hB'.out.size (.cells #[.int .i64 (n : Int)] 3)).grown hgrow (by simp; omega) fun r e => (ho'.out.lt r e).1).mono hzV)); clear hown' hgrow)
        | (go_at_call 14; with_reducible refine (refSum_any lab _ _ w1 hI1.out hs hlen.out).mono ?_; rintro e w2 ⟨rfl, hb2⟩; rw [hsum.out]))
      go_ret
      exact ⟨rfl, below_step hB2.out hb2⟩
end Go.Proofs.Ytgbahacodamhjaa
