/-
  package hash64, P10.3: for every label (its first 20 bytes) and every byte slice (its first 39, and a 65), Bytes changes exactly where the slice does, if it is changed within a single group of 8 bytes, and the section's example holds; whatever the arguments are.
-/
import Derived.Test.YtgbahacodamhjaaRows
import Derived.WalkKit
import Derived.ProofKit
import Derived.OpenShut
import Derived.Test.YtgbahacodamhjaaOpen
import Derived.Test.YtgbahacodamhjaaOpenD
import Derived.ChangeMaps5
import Derived.Test.YtgbahacodamhjaaHaM
namespace Go.Proofs.Ytgbahacodamhjaa.hash64OneGroup
open Go.ChangeShapes Go.WideShapes Go.ChangeAt Go.RowKit
set_option linter.unusedVariables false
set_option linter.unusedSimpArgs false

theorem bits_xor_u8 {b o : Nat} (hb : b < 256) (ho : o < 256) : bits .xor .u8 (b : Int) (o : Int) = ((b ^^^ o : Nat) : Int) := by
  show IntKind.u8.wrap (((BitVec.ofInt 8 (b : Int)) ^^^ (BitVec.ofInt 8 (o : Int))).toNat : Int) = _
  rw [BitVec.toNat_xor, BitVec.ofInt_natCast, BitVec.ofInt_natCast, BitVec.toNat_ofNat, BitVec.toNat_ofNat, Nat.mod_eq_of_lt (show b < 2 ^ 8 from hb), Nat.mod_eq_of_lt (show o < 2 ^ 8 from ho)]
  have h : b ^^^ o < 2 ^ 8 := Nat.xor_lt_two_pow hb ho
  generalize b ^^^ o = m at *
  simp only [IntKind.wrap, IntKind.bits, IntKind.signed, Bool.false_and, Bool.false_eq_true, if_false]
  omega
theorem Byt.set {L : List Nat} (h : Byt L) {k b : Nat} (hb : b < 256) : Byt (L.set k b) := fun x hx => by
  rcases List.mem_or_eq_of_mem_set hx with h1 | rfl
  · exact h x h1
  · exact hb
theorem group_one (lab : List Nat) {X Y : List Nat} (hX : Byt X) (hY : Byt Y) (e : X.length = Y.length) {k : Nat} (hk : k < X.length) (h : ∀ i, i / 8 ≠ k / 8 → X[i]? = Y[i]?) :
    ((((bytesW lab X).toNat : Int) == ((bytesW lab Y).toNat : Int)) == decide (X = Y)) = true := by
  have h' := bytesW_group lab hX hY e (k := k / 8) (by omega) h
  rw [beq_toNat]
  by_cases e2 : X = Y
  · rw [decide_eq_true e2, decide_eq_true (h'.2 e2)]; rfl
  · rw [decide_eq_false e2, decide_eq_false (fun q => e2 (h'.1 q))]; rfl
theorem own : ownKnob Try.prog.godebug = none := by kernel_rfl
theorem laid : laidOutB Try.prog = true := by kernel_rfl

set_option maxRecDepth 100000 in
set_option maxHeartbeats 8000000 in
theorem walk (w : World) (str0 : ByteArray) (m0 : str0.size ≤ maxLen) (s1 : Value) (L1 : List Nat) (H1 : BytsAt w s1 L1) (a2 : Int) (w2 : (Lit.int .i64 a2).wf = true) (a3 : Int) (w3 : (Lit.int .u8 a3).wf = true) (a4 : Int) (w4 : (Lit.int .u8 a4).wf = true) :
    Calls Try.prog 6 #[.string str0, s1, .int .i64 a2, .int .u8 a3, .int .u8 a4] w fun e w' => e = .returned (.bool true) ∧ Below w.heap.size w w' := by
  obtain ⟨i0, hi0, hz0, hz1, hz2⟩ := info_parts info_byte
  have b2 := lit_i64 w2
  obtain ⟨o, rfl, ho⟩ := lit_u8 w3
  obtain ⟨t, rfl, ht⟩ := lit_u8 w4
  obtain ⟨a, cap, rfl, hR, hna⟩ := H1.shape'
  have kf := Lib.hid (few39 a _ cap L1 w hR hna)
  have hBM : Byt (L1.take 39) := fun b hb => hR.byt b (List.mem_of_mem_take hb)
  have hM39 : (L1.take 39).length ≤ 39 := by rw [List.length_take]; omega
  generalize L1.take 39 = M at *
  obtain ⟨X, hX⟩ : ∃ X, X = M ++ [65] := ⟨_, rfl⟩
  obtain ⟨n0, hn0⟩ : ∃ n0, n0 = M.length := ⟨_, rfl⟩
  have hXl : X.length = n0 + 1 := by rw [hX, hn0, List.length_append]; rfl
  have hX40 : X.take 40 = X := List.take_of_length_le (by omega)
  have hXB : Byt X := by
    intro z hz
    rw [hX] at hz
    rcases List.mem_append.1 hz with h | h
    · exact hBM z h
    · obtain rfl : z = 65 := by simpa using h
      omega
  rw [← hn0] at kf hM39
  have hF := Lib.hid (And.intro hX (And.intro hXl (And.intro hX40 hXB)))
  clear H1 hR hna hBM hX hn0 hXl hX40 hXB w2 w3 w4
  go_enter Try.func6, Try.ntmps6
  go_upto_region 6 with (first
    | (go_at_call 11; with_reducible refine (short20 str0 w m0).mono ?_; rintro e u1 ⟨⟨r, rfl, hr⟩, rfl⟩; have hs := Lib.hid (size_small hr (by decide)); clear hr)
    | (go_at_call 16; with_reducible refine kf.out.mono ?_; rintro e u1 ⟨⟨v, rfl, ho⟩, hb⟩; have ho1 := Lib.hid ho; have hB1 := Lib.hid hb; clear ho hb)
    | (at_builtin; refine wpList_append_own _ rfl _ _ 30 rfl w.heap.size 5 i0 _ 1 1 Try.underlying30 hi0 hz0 hz1 hz2 rfl (by decide) v n0 _ rfl (ho1.out.alloc _) ⟨u1.heap.size, 0, none⟩ 1 1 (byts [65]) rfl rfl (fun j u hu => by rw [add_plain, Nat.zero_add, World.cell?_alloc_new]; simpa [byts] using hu) (byts_one _) (by unfold maxLen; omega) (by omega) (by have := hB1.out.size; simp; omega) ?_; intro v' u2 hown hgrow _; rw [← byts_append, ← hF.out.1] at hown; obtain ⟨ga, ca, rfl, hga, hga2, hca, hca2, hcA, -⟩ := own_form hown (Nat.succ_pos _); have hA2 := Lib.hid hcA; have hB2 := Lib.hid ((hB1.out.alloc hB1.out.size (.cells #[.int .u8 65] 5)).grown hgrow (by have := hB1.out.size; simp; omega) fun r e => (ho1.out.lt r e).1); clear hown hgrow hcA)
    | (go_at_call 16; with_reducible refine (few40 _ _ _ X u2 (CellsAt.row hA2.out hga2 hF.out.2.1 hca hca2 hF.out.2.2.2) (fun e => by cases e)).mono ?_; rintro e u3 ⟨⟨vb, rfl, ho⟩, hb⟩; rw [hF.out.2.2.1, hF.out.2.1] at ho; obtain ⟨gb, cb, rfl, hgb, hgb2, hcb, hcb2, hcB, hfB⟩ := own_form ho (Nat.succ_pos _); have hA3 := Lib.hid (hA2.out.carry hb); have hB3 := Lib.hid (below_step hB2.out hb); have hb3 := Lib.hid hcB; have hf3 := Lib.hid hfB; have hsz := hb.size; clear ho hb hcB hfB)
    | (go_at_call 21; with_reducible refine (aroundx_any a2 _ u3 b2.1 b2.2 (by omega)).mono ?_; rintro e u4 ⟨⟨x, hx0, hx1, rfl⟩, rfl⟩; obtain ⟨k, rfl⟩ : ∃ k : Nat, x = (k : Int) := ⟨x.toNat, by omega⟩; obtain ⟨x, hx⟩ : ∃ x, X[k]? = some x := ⟨_, List.getElem?_eq_getElem (by rw [hF.out.2.1]; omega)⟩; have hx' := Lib.hid hx; have c1 := hb3.out.at (byts_at hx); have f1 := hf3.out k; clear hx))
  have hxb : x < 256 := hF.out.2.2.2 x (List.mem_of_getElem? hx'.out)
  rw [bits_xor_u8 hxb ho]
  obtain ⟨V, hV⟩ : ∃ V, V = u3.setCell ⟨gb, k, none⟩ (.int .u8 ((x ^^^ o : Nat) : Int)) := ⟨_, rfl⟩
  have hzV : V.heap.size = u3.heap.size := by rw [hV]; simp
  have hBV := Lib.hid (show Below w.heap.size w V from by rw [hV]; exact hB3.out.setCell (by have := hB2.out.size; simp only; omega) _)
  have hAV : CellsAt V ga (byts X) := by rw [hV]; exact hA3.out.other (by omega) _
  have hbV : CellsAt V gb (byts (X.set k (x ^^^ o))) := by rw [hV, ← byts_set]; exact hb3.out.set (byts_at hx'.out) _
  have hfV : ∀ i, V.frozen? ⟨gb, i, none⟩ = false := fun i => by rw [hV, World.frozen?_setCell]; exact hf3.out i
  have hYB : Byt (X.set k (x ^^^ o)) := Byt.set hF.out.2.2.2 (show x ^^^ o < 2 ^ 8 from Nat.xor_lt_two_pow hxb ho)
  have hYl : (X.set k (x ^^^ o)).length = n0 + 1 := by rw [List.length_set]; exact hF.out.2.1
  have hYe : ∀ i, i / 8 ≠ k / 8 → X[i]? = (X.set k (x ^^^ o))[i]? := fun i hi => by rw [List.getElem?_set, if_neg (fun e => hi (by rw [e]))]
  rw [← hV]
  clear hV
  generalize X.set k (x ^^^ o) = Y at *
  have hAV' := Lib.hid hAV
  have hbV' := Lib.hid hbV
  have hfV' := Lib.hid hfV
  have hY := Lib.hid (And.intro hYB (And.intro hYl hYe))
  clear hAV hbV hfV hYB hYl hYe hx' c1 f1 hA2 hA3 hb3 hf3 hB3 hxb
  by_cases g1 : (k : Int) + 1 < (n0 : Int) + 1
  · by_cases g2 : ((k : Int) + 1) % 8 = 0
    · go_upto_region 8 with fail
      have hAU := hAV'.out
      have hbU := hbV'.out
      have hBU := hBV
      have hZ := hY
      have hIa := Lib.hid (CellsAt.row hAU (show ga < (V).heap.size by omega) hF.out.2.1 hca hca2 hF.out.2.2.2)
      have hIb := Lib.hid (CellsAt.row hbU (show gb < (V).heap.size by omega) hZ.out.2.1 hcb hcb2 hZ.out.1)
      have e1 : (((bytesW (labL r) X).toNat : Int) == ((bytesW (labL r) (Y)).toNat : Int)) = decide (X = Y) := by simpa using group_one (labL r) hF.out.2.2.2 hZ.out.1 (by rw [hF.out.2.1, hZ.out.2.1]) (k := k) (by rw [hF.out.2.1]; omega) hZ.out.2.2
      have K1 := fun W (hW : Below (V).heap.size (V) W) => bytes_any r _ _ _ X W (hIa.out.up hW) hs.out (by omega)
      have K2 := fun W (hW : Below (V).heap.size (V) W) => bytes_any r _ _ _ (Y) W (hIb.out.up hW) hs.out (by omega)
      have K3 := fun W (hW : Below (V).heap.size (V) W) => sameB_any _ _ _ _ _ _ X (Y) W (hIa.out.up hW) (hIb.out.up hW)
      generalize ((bytesW (labL r) X).toNat : Int) = zx at *
      generalize ((bytesW (labL r) (Y)).toNat : Int) = zy at *
      generalize decide (X = Y) = dd at *
      have k1 := Lib.hid K1
      have k2 := Lib.hid K2
      have k3 := Lib.hid K3
      clear K1 K2 K3 hIa hIb hAU hbU
      cases dd
      all_goals
        go_wp2_with (first
          | (go_at_call 17; with_reducible refine (k1.out _ (Below.refl _ _)).mono ?_; rintro e y1 ⟨rfl, hb⟩; have hD1 := Lib.hid hb; clear hb)
          | (go_at_call 17; with_reducible refine (k2.out y1 hD1.out).mono ?_; rintro e y2 ⟨rfl, hb⟩; have hD2 := Lib.hid (below_step hD1.out hb); clear hb)
          | (go_at_call 22; with_reducible refine (k3.out y2 hD2.out).mono ?_; rintro e y3 ⟨rfl, hb⟩; have hD3 := Lib.hid (below_step hD2.out hb); clear hb)
          | (go_at_call 15; with_reducible refine (lives10_any y3).mono ?_; rintro e y4 ⟨rfl, hb⟩; have hD4 := Lib.hid (below_step hD3.out hb); clear hb))
        go_ret
        exact ⟨rfl, below_step hBU.out hD4.out⟩
    · obtain ⟨y, hy⟩ : ∃ y, Y[k + 1]? = some y := ⟨_, List.getElem?_eq_getElem (by rw [hY.out.2.1]; omega)⟩
      have c2 := hbV'.out.at (byts_at hy)
      have f2 := hfV'.out (k + 1)
      have hy' := Lib.hid hy
      clear hy
      go_upto_region 8 with fail
      have hyb : y < 256 := hY.out.1 y (List.mem_of_getElem? hy'.out)
      rw [bits_xor_u8 hyb ht]
      obtain ⟨U, hU⟩ : ∃ U, U = V.setCell ⟨gb, k + 1, none⟩ (.int .u8 ((y ^^^ t : Nat) : Int)) := ⟨_, rfl⟩
      have hzU : U.heap.size = V.heap.size := by rw [hU]; simp
      have hBU := Lib.hid (show Below w.heap.size w U from by rw [hU]; exact hBV.out.setCell (by have := hB2.out.size; simp only; omega) _)
      have hAU : CellsAt U ga (byts X) := by rw [hU]; exact hAV'.out.other (by omega) _
      have hbU : CellsAt U gb (byts (Y.set (k + 1) (y ^^^ t))) := by rw [hU, ← byts_set]; exact hbV'.out.set (byts_at hy'.out) _
      have hg8 : (k + 1) / 8 = k / 8 := by omega
      have hZ := Lib.hid (And.intro (Byt.set (k := k + 1) hY.out.1 (show y ^^^ t < 2 ^ 8 from Nat.xor_lt_two_pow hyb ht)) (And.intro (show (Y.set (k + 1) (y ^^^ t)).length = n0 + 1 from by rw [List.length_set]; exact hY.out.2.1) (fun i (hi : i / 8 ≠ k / 8) => (by rw [List.getElem?_set, if_neg (fun e => hi (by rw [← e]; exact hg8))]; exact hY.out.2.2 i hi : X[i]? = (Y.set (k + 1) (y ^^^ t))[i]?))))
      rw [← hU]
      clear hU c2 f2 hg8 hyb
      generalize Y.set (k + 1) (y ^^^ t) = Z at *
      have hIa := Lib.hid (CellsAt.row hAU (show ga < (U).heap.size by omega) hF.out.2.1 hca hca2 hF.out.2.2.2)
      have hIb := Lib.hid (CellsAt.row hbU (show gb < (U).heap.size by omega) hZ.out.2.1 hcb hcb2 hZ.out.1)
      have e1 : (((bytesW (labL r) X).toNat : Int) == ((bytesW (labL r) (Z)).toNat : Int)) = decide (X = Z) := by simpa using group_one (labL r) hF.out.2.2.2 hZ.out.1 (by rw [hF.out.2.1, hZ.out.2.1]) (k := k) (by rw [hF.out.2.1]; omega) hZ.out.2.2
      have K1 := fun W (hW : Below (U).heap.size (U) W) => bytes_any r _ _ _ X W (hIa.out.up hW) hs.out (by omega)
      have K2 := fun W (hW : Below (U).heap.size (U) W) => bytes_any r _ _ _ (Z) W (hIb.out.up hW) hs.out (by omega)
      have K3 := fun W (hW : Below (U).heap.size (U) W) => sameB_any _ _ _ _ _ _ X (Z) W (hIa.out.up hW) (hIb.out.up hW)
      generalize ((bytesW (labL r) X).toNat : Int) = zx at *
      generalize ((bytesW (labL r) (Z)).toNat : Int) = zy at *
      generalize decide (X = Z) = dd at *
      have k1 := Lib.hid K1
      have k2 := Lib.hid K2
      have k3 := Lib.hid K3
      clear K1 K2 K3 hIa hIb hAU hbU
      cases dd
      all_goals
        go_wp2_with (first
          | (go_at_call 17; with_reducible refine (k1.out _ (Below.refl _ _)).mono ?_; rintro e y1 ⟨rfl, hb⟩; have hD1 := Lib.hid hb; clear hb)
          | (go_at_call 17; with_reducible refine (k2.out y1 hD1.out).mono ?_; rintro e y2 ⟨rfl, hb⟩; have hD2 := Lib.hid (below_step hD1.out hb); clear hb)
          | (go_at_call 22; with_reducible refine (k3.out y2 hD2.out).mono ?_; rintro e y3 ⟨rfl, hb⟩; have hD3 := Lib.hid (below_step hD2.out hb); clear hb)
          | (go_at_call 15; with_reducible refine (lives10_any y3).mono ?_; rintro e y4 ⟨rfl, hb⟩; have hD4 := Lib.hid (below_step hD3.out hb); clear hb))
        go_ret
        exact ⟨rfl, below_step hBU.out hD4.out⟩
  · go_upto_region 8 with fail
    have hAU := hAV'.out
    have hbU := hbV'.out
    have hBU := hBV
    have hZ := hY
    have hIa := Lib.hid (CellsAt.row hAU (show ga < (V).heap.size by omega) hF.out.2.1 hca hca2 hF.out.2.2.2)
    have hIb := Lib.hid (CellsAt.row hbU (show gb < (V).heap.size by omega) hZ.out.2.1 hcb hcb2 hZ.out.1)
    have e1 : (((bytesW (labL r) X).toNat : Int) == ((bytesW (labL r) (Y)).toNat : Int)) = decide (X = Y) := by simpa using group_one (labL r) hF.out.2.2.2 hZ.out.1 (by rw [hF.out.2.1, hZ.out.2.1]) (k := k) (by rw [hF.out.2.1]; omega) hZ.out.2.2
    have K1 := fun W (hW : Below (V).heap.size (V) W) => bytes_any r _ _ _ X W (hIa.out.up hW) hs.out (by omega)
    have K2 := fun W (hW : Below (V).heap.size (V) W) => bytes_any r _ _ _ (Y) W (hIb.out.up hW) hs.out (by omega)
    have K3 := fun W (hW : Below (V).heap.size (V) W) => sameB_any _ _ _ _ _ _ X (Y) W (hIa.out.up hW) (hIb.out.up hW)
    generalize ((bytesW (labL r) X).toNat : Int) = zx at *
    generalize ((bytesW (labL r) (Y)).toNat : Int) = zy at *
    generalize decide (X = Y) = dd at *
    have k1 := Lib.hid K1
    have k2 := Lib.hid K2
    have k3 := Lib.hid K3
    clear K1 K2 K3 hIa hIb hAU hbU
    cases dd
    all_goals
      go_wp2_with (first
        | (go_at_call 17; with_reducible refine (k1.out _ (Below.refl _ _)).mono ?_; rintro e y1 ⟨rfl, hb⟩; have hD1 := Lib.hid hb; clear hb)
        | (go_at_call 17; with_reducible refine (k2.out y1 hD1.out).mono ?_; rintro e y2 ⟨rfl, hb⟩; have hD2 := Lib.hid (below_step hD1.out hb); clear hb)
        | (go_at_call 22; with_reducible refine (k3.out y2 hD2.out).mono ?_; rintro e y3 ⟨rfl, hb⟩; have hD3 := Lib.hid (below_step hD2.out hb); clear hb)
        | (go_at_call 15; with_reducible refine (lives10_any y3).mono ?_; rintro e y4 ⟨rfl, hb⟩; have hD4 := Lib.hid (below_step hD3.out hb); clear hb))
      go_ret
      exact ⟨rfl, below_step hBU.out hD4.out⟩

set_option maxRecDepth 100000 in
theorem lifted (os : Os) (started : os.Started) (H : Type) (enc : TypeId × Value → H) :
    ReturnsInHanded {} Try.checked os 6 .any (Rows.hash64OneGroupSpec.pre6 enc Try.prog Try.f6 Rows.hash64OneGroupRow.domain false) (Rows.hash64OneGroupSpec.post enc Try.prog Try.f6 false true false false) := by
  refine returnsInHanded_of_change (C := Try.checked) own started (by kernel_rfl) Try.func6
    (ChangeSpec.witness6 (enc := enc) (C := Try.checked) false ⟨#[], #[.string ⟨#[]⟩, .slice none 0 0, .int .i64 0, .int .u8 0, .int .u8 0], []⟩ 8 (by kernel_rfl) (by kernel_rfl) (by kernel_rfl) (by kernel_rfl)) ?_
  intro W base args ds gs before hval0 hW hcnd _
  have hval : ∀ (j : Nat) t v, Try.f6.params[j]? = some t → args[j]? = some v → Value.okWide Try.prog W .any base t v := hval0
  have hW' := hW
  obtain ⟨p, q, hA0, hV, rfl, hfz, hnd⟩ := hW
  have hA : DataW.TrodAll enc Try.prog W 0 (fun _ => true) true Try.f6.params.toList args.toList ds p := hA0
  rw [Try.params6] at hA hval
  have hAk := hA
  obtain ⟨v0, vs0, d0, ds0, p0, q0, hargs, rfl, hp0, h0, r0⟩ := trodAll_cons hA
  obtain ⟨v1, vs1, d1, ds1, p1, q1, rfl, rfl, hp1, h1, r1⟩ := trodAll_cons r0
  obtain ⟨v2, vs2, d2, ds2, p2, q2, rfl, rfl, hp2, h2, r2⟩ := trodAll_cons r1
  obtain ⟨v3, vs3, d3, ds3, p3, q3, rfl, rfl, hp3, h3, r3⟩ := trodAll_cons r2
  obtain ⟨v4, vs4, d4, ds4, p4, q4, rfl, rfl, hp4, h4, r4⟩ := trodAll_cons r3
  obtain ⟨rfl, rfl, -⟩ := trodAll_nil r4
  obtain rfl : args = #[v0, v1, v2, v3, v4] := by cases args; simp_all
  obtain ⟨rfl, rfl⟩ := trodVars_none hV
  obtain ⟨str0, rfl, -, -, m0⟩ := Go.ChangeMaps.open_string Try.underlying9 (hval 0 9 v0 rfl rfl) h0
  obtain ⟨x1, q1, c1, rfl⟩ := okWide_slice Try.underlying30 (hval 1 30 v1 rfl rfl)
  obtain ⟨fu1, fh1⟩ := h1
  obtain ⟨s1, L1, e1, H1⟩ := open_byte_cells Try.underlying30 Try.underlying5 (by kernel_rfl) fh1
  simp only [Value.cells, List.cons.injEq, and_true] at e1
  obtain rfl := e1.symm
  obtain ⟨a2, rfl, -, -, w2⟩ := open_int Try.underlying3 (hval 2 3 v2 rfl rfl) h2
  obtain ⟨a3, rfl, -, -, w3⟩ := open_int Try.underlying5 (hval 3 5 v3 rfl rfl) h3
  obtain ⟨a4, rfl, -, -, w4⟩ := open_int Try.underlying5 (hval 4 5 v4 rfl rfl) h4
  clear hA0 hval0
  simp only [List.append_nil] at hW'
  refine (walk W str0 m0 _ L1 H1 a2 w2 a3 w3 a4 w4).mono fun e W' ⟨he, hb⟩ => ?_
  subst he
  exact ⟨_, rfl, kept_post (pa := p) hW' (fun _ _ _ => (trodAll_cons_mk (shut_bool Try.underlying4 _) trodAll_mk0)) (fun sp hsp => trodAll_stays laid hb (by rw [Try.params6]; decide +kernel) hAk (fun x hx => hW'.lt x hx) hsp) (fun _ => rfl) hb (ok_one (by kernel_rfl) rfl (okWide_bool_mk Try.underlying4 _))⟩

theorem over : Rows.hash64OneGroupRow.holds Try.pinned (OpenSpec.ofChange Rows.hash64OneGroupSpec) :=
  OpenClaim.holds_of_wide 6 Try.f6 rfl rfl rfl rfl rfl rfl rfl ⟨rfl, rfl, rfl, rfl, rfl⟩ rfl rfl rfl rfl rfl (by kernel_rfl) Try.func6 (by kernel_rfl)
    (of_decide_eq_true (by kernel_rfl)) (by unfold Func.isWrapper; first | (rw [if_pos (by decide +kernel)]; kernel_rfl) | (rw [if_neg (by decide +kernel)]; exact ⟨rfl, rfl⟩))
    (fun os started H enc _ => lifted os started H enc)

theorem proved : Rows.Hash64OneGroupSaid :=
  over
#print axioms proved
end Go.Proofs.Ytgbahacodamhjaa.hash64OneGroup
