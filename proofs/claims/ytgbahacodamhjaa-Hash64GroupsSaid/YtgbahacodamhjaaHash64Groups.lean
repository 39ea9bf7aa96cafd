/-
  package hash64, P10.2: for every label (its first 20 bytes) and every byte slice (its first 60), Bytes equals Sum of the slice's little-endian words and its length; a zero byte behind a slice whose length is no multiple of 8 changes the hash, and the section's example holds; whatever the arguments are.
-/
import Derived.Test.YtgbahacodamhjaaRows
import Derived.WalkKit
import Derived.ProofKit
import Derived.OpenShut
import Derived.Test.YtgbahacodamhjaaOpen
import Derived.Test.YtgbahacodamhjaaOpenD
import Derived.ChangeMaps5
import Derived.Test.YtgbahacodamhjaaHaM
namespace Go.Proofs.Ytgbahacodamhjaa.hash64Groups
open Go.ChangeShapes Go.WideShapes Go.ChangeAt Go.RowKit
set_option linter.unusedVariables false
set_option linter.unusedSimpArgs false


theorem own : ownKnob Try.prog.godebug = none := by kernel_rfl
theorem laid : laidOutB Try.prog = true := by kernel_rfl

set_option maxRecDepth 100000 in
set_option maxHeartbeats 8000000 in
theorem walk (w : World) (str0 : ByteArray) (m0 : str0.size ≤ maxLen) (s1 : Value) (L1 : List Nat) (H1 : BytsAt w s1 L1) :
    Calls Try.prog 8 #[.string str0, s1] w fun e w' => e = .returned (.bool true) ∧ Below w.heap.size w w' := by
  obtain ⟨i0, hi0, hz0, hz1, hz2⟩ := info_parts info_int
  obtain ⟨i1, hi1, hy0, hy1, hy2⟩ := info_parts info_byte
  obtain ⟨a, cap, rfl, hR, hna⟩ := H1.shape'
  have kf := Lib.hid (few60 a _ cap L1 w hR hna)
  have hBC : Byt (L1.take 60) := fun b hb => hR.byt b (List.mem_of_mem_take hb)
  have hC60 : (L1.take 60).take 60 = L1.take 60 := List.take_of_length_le (by rw [List.length_take]; omega)
  have hCl : (L1.take 60).length ≤ 60 := by rw [List.length_take]; omega
  generalize L1.take 60 = C at *
  obtain ⟨n, hn⟩ : ∃ n, n = C.length := ⟨_, rfl⟩
  have hF := Lib.hid (And.intro hn.symm (And.intro hC60 hBC))
  rw [← hn] at kf hCl
  clear H1 hR hna hBC hC60 hn
  go_enter Try.func8, Try.ntmps8
  go_wp2_with (first
    | (go_at_call 11; with_reducible refine (short20 str0 w m0).mono ?_; rintro e u1 ⟨⟨r, rfl, hr⟩, rfl⟩; have hs := Lib.hid (size_small hr (by decide)); clear hr)
    | (go_at_call 16; with_reducible refine kf.out.mono ?_; rintro e u1 ⟨⟨v, rfl, ho⟩, hb⟩; obtain ⟨a1, c1, rfl, hR, hna⟩ := ByRow.owned ho hF.out.2.2; have hR1 := Lib.hid hR; have hN1 := Lib.hid hna; have hB1 := Lib.hid hb; clear ho hb hR hna)
    | (go_at_call 23; with_reducible refine (refWords_any a1 n c1 C u1 hR1.out (by omega)).mono ?_; rintro e V ⟨x, rfl, ho, hb⟩; obtain ⟨xa, xc, rfl, hx1, hx2, hx3⟩ := (VL.owned ho).shape; have hxl : (u64s (wordsN C (nw n))).length = nw n := (u64s_len _).trans (wordsN_len _ _); rw [hxl] at hx1 hx3 ⊢; have hx3' := Lib.hid hx3; have hR2 := Lib.hid (hR1.out.up hb); have hB2 := Lib.hid (below_step hB1.out hb); clear hx3 ho hxl hb))
  have hnws : nw n ≤ 20 := by unfold nw; omega
  have hcells := Lib.hid (fun (k : Nat) (hk : k < nw n) => (u64s_at (wordsN_at C hk) : (u64s (wordsN C (nw n)))[k]? = some (.int .u64 ((word C k).toNat : Int))))
  have hsum := Lib.hid (show sumW (labL r) ((wInts C (nw n) ++ [(n : Int)]).map (BitVec.ofInt 64)) = bytesW (labL r) C from by rw [wInts_word C n hF.out.1]; rfl)
  have hlen := Lib.hid (show (wInts C (nw n) ++ [(n : Int)]).length ≤ 1000 from by rw [List.length_append, wInts_len]; simp only [List.length_singleton]; omega)
  have hn1 : n ≤ 1000 := by omega
  have kB := Lib.hid (fun a c W (h : ByRow W (fun r => r < W.heap.size) a n c C) => bytes_any r a n c C W h hs.out hn1)
  have kZ := Lib.hid (fun a c W (h : ByRow W (fun r => r < W.heap.size) a (n + 1) c (C ++ [0])) => bytes_any r a (n + 1) c (C ++ [0]) W h hs.out (by omega))
  have hzero := Lib.hid (fun (h : ¬ n % 8 = 0) => (bytesW_zero (labL r) hF.out.2.2 (by rw [hF.out.1]; exact h) (by rw [hF.out.1]; omega) : bytesW (labL r) (C ++ [0]) ≠ bytesW (labL r) C))
  generalize nw n = m at *
  unfold maxLen at hx2
  clear kf
  go_loopw [8, 9] (fun out i wr => ∃ k : Nat, k ≤ m ∧ i = .int .i64 (k : Nat) ∧ wr.ownsRow V.heap.size 3 1 out k (ints (wInts C k)) ∧ Below V.heap.size V wr) (fun _ i _ => m - (intOf i).toNat)
  case atStart => exact ⟨0, Nat.zero_le _, rfl, World.ownsRow_nil _ _ _ _, Below.refl _ _⟩
  case round =>
    obtain ⟨k, hk, rfl, ho, hB⟩ := hrel
    have hzr := hB.size
    have ho' := Lib.hid ho
    clear ho
    by_cases hlt : k < m
    · obtain ⟨g, off, rfl, hg, hc⟩ := hx3'.out (by omega)
      have c0 := carry hB (hc k _ (hcells.out k hlt))
      have hB' := Lib.hid hB
      have hsn := Lib.hid (wInts_succ C k)
      have hx := wrap64_word (word C k)
      clear hc hB
      generalize (word C k).toInt = x at *
      generalize (word C k).toNat = xn at *
      go_wp2_with (at_builtin; refine wpList_append_own _ rfl _ _ 22 rfl V.heap.size 3 i0 _ 1 8 Try.underlying22 hi0 hz0 hz1 hz2 rfl (by decide) u8 k _ rfl (ho'.out.alloc _) ⟨wr.heap.size, 0, none⟩ 1 1 (ints [x]) rfl rfl (fun j u hu => by rw [add_plain, Nat.zero_add, World.cell?_alloc_new, ← hx]; simpa [ints, hx] using hu) (ints_one' _) (by unfold maxLen; omega) (by omega) (by simp; omega) ?_; intro v' w1 hown' hgrow _)
      go_roundw
      case rel => exact ⟨k + 1, by omega, by go_num, by rw [hsn.out, ints_append]; exact hown', (hB'.out.alloc hB'.out.size _).grown hgrow (by simp; omega) fun r e => (ho'.out.lt r e).1⟩
      case measure => simp [intOf]; omega
    · have hkm : k = m := by omega
      rw [← hkm] at hsum hlen
      clear hkm
      have hV4 := Lib.hid hB
      have hR4 := Lib.hid (hR2.out.up hB)
      have hzz := beq_self_int ((bytesW (labL r) C).toNat : Int)
      have kS := Lib.hid (fun v W (h : IL W v (wInts C k ++ [(n : Int)])) => (hsum.out ▸ sum_any r v (wInts C k ++ [(n : Int)]) W h hs.out hlen.out : Calls Try.prog 13 #[.string r, v] W fun e w' => e = .returned (.int .u64 ((bytesW (labL r) C).toNat : Int)) ∧ Below W.heap.size W w'))
      have hCB0 : Byt (C ++ [0]) := by
        intro z hz
        rcases List.mem_append.1 hz with h | h
        · exact hF.out.2.2 z h
        · obtain rfl : z = 0 := by simpa using h
          omega
      have hCB := Lib.hid hCB0
      have hnz : ¬ n % 8 = 0 → ¬ ((bytesW (labL r) (C ++ [0])).toNat : Int) = ((bytesW (labL r) C).toNat : Int) := fun h e => hzero.out h (toNat_inj'.1 e)
      generalize ((bytesW (labL r) C).toNat : Int) = z1 at *
      generalize ((bytesW (labL r) (C ++ [0])).toNat : Int) = z2 at *
      clear hzero hsum hlen hB hCB0
      by_cases h8 : n % 8 = 0
      · have h8' : (n : Int) % 8 = 0 := by omega
        clear hnz h8
        go_wp2_with (first
          | (go_at_call 17; with_reducible refine (kB.out _ _ wr hR4.out).mono ?_; rintro e y1 ⟨rfl, hb⟩; have ho5 := Lib.hid (own_other ho'.out (grown_of_below hb) fun r e => by cases e); have hV5 := Lib.hid (below_step hV4.out hb); have hz5 := Lib.hid (Nat.le_trans hV4.out.size hb.size); clear hb)
          | (at_builtin; refine wpList_append_own _ rfl _ _ 22 rfl V.heap.size 3 i0 _ 1 8 Try.underlying22 hi0 hz0 hz1 hz2 rfl (by decide) u8 k _ rfl (ho5.out.alloc _) ⟨y1.heap.size, 0, none⟩ 1 1 (ints [(n : Int)]) rfl rfl (fun j u hu => by rw [add_plain, Nat.zero_add, World.cell?_alloc_new]; simpa [ints] using hu) (ints_one' _) (by unfold maxLen; omega) (by omega) (by have := hz5.out; simp; omega) ?_; intro v' y2 hown' hgrow _; rw [← ints_append] at hown'; have hI6 := Lib.hid (IL.owned hown'); have hV6 := Lib.hid ((hV5.out.alloc hz5.out (.cells #[.int .i64 (n : Int)] 3)).grown hgrow (by have := hz5.out; simp; omega) fun r e => (ho5.out.lt r e).1); clear hown' hgrow)
          | (go_at_call 13; with_reducible refine (kS.out _ y2 hI6.out).mono ?_; rintro e y3 ⟨rfl, hb⟩; have hR7 := Lib.hid (hR2.out.up (below_step hV6.out hb)); have hB7 := Lib.hid (below_step hB2.out (below_step hV6.out hb)); clear hb)
          | (go_at_call 16; with_reducible refine (few60 a1 n c1 C y3 hR7.out hN1.out).mono ?_; rintro e y4 ⟨⟨vc, rfl, ho⟩, hb⟩; rw [hF.out.2.1, hF.out.1] at ho; have ho8 := Lib.hid ho; have hz8 := Lib.hid hb.size; have hV8 := Lib.hid hb; clear ho hb)
          | (at_builtin; refine wpList_append_own _ rfl _ _ 30 rfl y3.heap.size 5 i1 _ 1 1 Try.underlying30 hi1 hy0 hy1 hy2 rfl (by decide) vc n _ rfl (ho8.out.alloc _) ⟨y4.heap.size, 0, none⟩ 1 1 (byts [0]) rfl rfl (fun j u hu => by rw [add_plain, Nat.zero_add, World.cell?_alloc_new]; simpa [byts] using hu) (byts_one _) (by unfold maxLen; omega) (by omega) (by have := hz8.out; simp; omega) ?_; intro v' y5 hown' hgrow _; rw [← byts_append] at hown'; obtain ⟨al, cl, rfl, hRl, -⟩ := ByRow.owned hown' hCB.out; have hR9 := Lib.hid hRl; have hV9 := Lib.hid ((hV8.out.alloc hz8.out (.cells #[.int .u8 0] 5)).grown hgrow (by have := hz8.out; simp; omega) fun r e => (ho8.out.lt r e).1); clear hown' hgrow hRl)
          | (go_at_call 15; with_reducible refine (lives10_any y5).mono ?_; rintro e y6 ⟨rfl, hb⟩; have hD := Lib.hid (below_step (below_step hB7.out hV9.out) hb); clear hb))
        go_ret
        exact ⟨rfl, hD.out⟩
      · have h8' : ¬ (n : Int) % 8 = 0 := by omega
        replace hnz := hnz h8
        clear h8
        go_wp2_with (first
          | (go_at_call 17; with_reducible refine (kB.out _ _ wr hR4.out).mono ?_; rintro e y1 ⟨rfl, hb⟩; have ho5 := Lib.hid (own_other ho'.out (grown_of_below hb) fun r e => by cases e); have hV5 := Lib.hid (below_step hV4.out hb); have hz5 := Lib.hid (Nat.le_trans hV4.out.size hb.size); clear hb)
          | (at_builtin; refine wpList_append_own _ rfl _ _ 22 rfl V.heap.size 3 i0 _ 1 8 Try.underlying22 hi0 hz0 hz1 hz2 rfl (by decide) u8 k _ rfl (ho5.out.alloc _) ⟨y1.heap.size, 0, none⟩ 1 1 (ints [(n : Int)]) rfl rfl (fun j u hu => by rw [add_plain, Nat.zero_add, World.cell?_alloc_new]; simpa [ints] using hu) (ints_one' _) (by unfold maxLen; omega) (by omega) (by have := hz5.out; simp; omega) ?_; intro v' y2 hown' hgrow _; rw [← ints_append] at hown'; have hI6 := Lib.hid (IL.owned hown'); have hV6 := Lib.hid ((hV5.out.alloc hz5.out (.cells #[.int .i64 (n : Int)] 3)).grown hgrow (by have := hz5.out; simp; omega) fun r e => (ho5.out.lt r e).1); clear hown' hgrow)
          | (go_at_call 13; with_reducible refine (kS.out _ y2 hI6.out).mono ?_; rintro e y3 ⟨rfl, hb⟩; have hR7 := Lib.hid (hR2.out.up (below_step hV6.out hb)); have hB7 := Lib.hid (below_step hB2.out (below_step hV6.out hb)); clear hb)
          | (go_at_call 16; with_reducible refine (few60 a1 n c1 C y3 hR7.out hN1.out).mono ?_; rintro e y4 ⟨⟨vc, rfl, ho⟩, hb⟩; rw [hF.out.2.1, hF.out.1] at ho; have ho8 := Lib.hid ho; have hz8 := Lib.hid hb.size; have hV8 := Lib.hid hb; clear ho hb)
          | (at_builtin; refine wpList_append_own _ rfl _ _ 30 rfl y3.heap.size 5 i1 _ 1 1 Try.underlying30 hi1 hy0 hy1 hy2 rfl (by decide) vc n _ rfl (ho8.out.alloc _) ⟨y4.heap.size, 0, none⟩ 1 1 (byts [0]) rfl rfl (fun j u hu => by rw [add_plain, Nat.zero_add, World.cell?_alloc_new]; simpa [byts] using hu) (byts_one _) (by unfold maxLen; omega) (by omega) (by have := hz8.out; simp; omega) ?_; intro v' y5 hown' hgrow _; rw [← byts_append] at hown'; obtain ⟨al, cl, rfl, hRl, -⟩ := ByRow.owned hown' hCB.out; have hR9 := Lib.hid hRl; have hV9 := Lib.hid ((hV8.out.alloc hz8.out (.cells #[.int .u8 0] 5)).grown hgrow (by have := hz8.out; simp; omega) fun r e => (ho8.out.lt r e).1); have hC9 := Lib.hid (hR7.out.up hV9.out); clear hown' hgrow hRl)
          | (go_at_call 17; with_reducible refine (kZ.out _ _ y5 hR9.out).mono ?_; rintro e y6 ⟨rfl, hb⟩; have hC10 := Lib.hid (hC9.out.up hb); have hV10 := Lib.hid (below_step hV9.out hb); clear hb)
          | (go_at_call 17; with_reducible refine (kB.out _ _ y6 hC10.out).mono ?_; rintro e y7 ⟨rfl, hb⟩; have hV11 := Lib.hid (below_step hV10.out hb); clear hb)
          | (go_at_call 15; with_reducible refine (lives10_any y7).mono ?_; rintro e y8 ⟨rfl, hb⟩; have hD := Lib.hid (below_step (below_step hB7.out hV11.out) hb); clear hb))
        go_ret
        exact ⟨by show Ending.returned (Value.bool ((n : Int) % 8 == 0 || z2 != z1)) = _; simp [hnz], hD.out⟩

set_option maxRecDepth 100000 in
theorem lifted (os : Os) (started : os.Started) (H : Type) (enc : TypeId × Value → H) :
    ReturnsInHanded {} Try.checked os 8 .any (Rows.hash64GroupsSpec.pre6 enc Try.prog Try.f8 Rows.hash64GroupsRow.domain false) (Rows.hash64GroupsSpec.post enc Try.prog Try.f8 false true false false) := by
  refine returnsInHanded_of_change (C := Try.checked) own started (by kernel_rfl) Try.func8
    (ChangeSpec.witness6 (enc := enc) (C := Try.checked) false ⟨#[], #[.string ⟨#[]⟩, .slice none 0 0], []⟩ 8 (by kernel_rfl) (by kernel_rfl) (by kernel_rfl) (by kernel_rfl)) ?_
  intro W base args ds gs before hval0 hW hcnd _
  have hval : ∀ (j : Nat) t v, Try.f8.params[j]? = some t → args[j]? = some v → Value.okWide Try.prog W .any base t v := hval0
  have hW' := hW
  obtain ⟨p, q, hA0, hV, rfl, hfz, hnd⟩ := hW
  have hA : DataW.TrodAll enc Try.prog W 0 (fun _ => true) true Try.f8.params.toList args.toList ds p := hA0
  rw [Try.params8] at hA hval
  have hAk := hA
  obtain ⟨v0, vs0, d0, ds0, p0, q0, hargs, rfl, hp0, h0, r0⟩ := trodAll_cons hA
  obtain ⟨v1, vs1, d1, ds1, p1, q1, rfl, rfl, hp1, h1, r1⟩ := trodAll_cons r0
  obtain ⟨rfl, rfl, -⟩ := trodAll_nil r1
  obtain rfl : args = #[v0, v1] := by cases args; simp_all
  obtain ⟨rfl, rfl⟩ := trodVars_none hV
  obtain ⟨str0, rfl, -, -, m0⟩ := Go.ChangeMaps.open_string Try.underlying9 (hval 0 9 v0 rfl rfl) h0
  obtain ⟨x1, q1, c1, rfl⟩ := okWide_slice Try.underlying30 (hval 1 30 v1 rfl rfl)
  obtain ⟨fu1, fh1⟩ := h1
  obtain ⟨s1, L1, e1, H1⟩ := open_byte_cells Try.underlying30 Try.underlying5 (by kernel_rfl) fh1
  simp only [Value.cells, List.cons.injEq, and_true] at e1
  obtain rfl := e1.symm
  clear hA0 hval0
  simp only [List.append_nil] at hW'
  refine (walk W str0 m0 _ L1 H1).mono fun e W' ⟨he, hb⟩ => ?_
  subst he
  exact ⟨_, rfl, kept_post (pa := p) hW' (fun _ _ _ => (trodAll_cons_mk (shut_bool Try.underlying4 _) trodAll_mk0)) (fun sp hsp => trodAll_stays laid hb (by rw [Try.params8]; decide +kernel) hAk (fun x hx => hW'.lt x hx) hsp) (fun _ => rfl) hb (ok_one (by kernel_rfl) rfl (okWide_bool_mk Try.underlying4 _))⟩

theorem over : Rows.hash64GroupsRow.holds Try.pinned (OpenSpec.ofChange Rows.hash64GroupsSpec) :=
  OpenClaim.holds_of_wide 8 Try.f8 rfl rfl rfl rfl rfl rfl rfl ⟨rfl, rfl, rfl, rfl, rfl⟩ rfl rfl rfl rfl rfl (by kernel_rfl) Try.func8 (by kernel_rfl)
    (of_decide_eq_true (by kernel_rfl)) (by unfold Func.isWrapper; first | (rw [if_pos (by decide +kernel)]; kernel_rfl) | (rw [if_neg (by decide +kernel)]; exact ⟨rfl, rfl⟩))
    (fun os started H enc _ => lifted os started H enc)

theorem proved : Rows.Hash64GroupsSaid :=
  over
#print axioms proved
end Go.Proofs.Ytgbahacodamhjaa.hash64Groups
