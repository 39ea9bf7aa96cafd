/-
  package merkle, P11.1 and P11.8: for every list of cells (its first 20) and every list of assignments (its first 12, also outside of the tree), the root is that of the final values, and assigning the old values in reverse order restores it; the section's example holds; whatever the arguments are.
-/
import Derived.Test.YthpdohfekillkaaRows
import Derived.WalkKit
import Derived.ProofKit
import Derived.OpenShut
import Derived.Test.YthpdohfekillkaaOpen
import Derived.Test.YthpdohfekillkaaOpenB
import Derived.Test.YthpdohfekillkaaMlM
namespace Go.Proofs.Ythpdohfekillkaa.merkleSets
open Go.ChangeShapes Go.WideShapes Go.ChangeAt Go.RowKit
set_option linter.unusedVariables false
set_option linter.unusedSimpArgs false

/-- The assignments taken back, the last one first. -/
def back (L : List (Nat × Int)) (C : List Int) : List Int := L.foldr (fun q C => C.set q.1 q.2) C
theorem back_snoc (L : List (Nat × Int)) (k : Nat) (x : Int) (C : List Int) : back (L ++ [(k, x)]) C = back L (C.set k x) := by unfold back; rw [List.foldr_append]; rfl
def Ps (L : List (Nat × Int)) : List Int := L.map fun q => (q.1 : Int)
def OsOf (L : List (Nat × Int)) : List Int := L.map fun q => q.2
theorem Ps_snoc (L : List (Nat × Int)) (k : Nat) (x : Int) : Ps (L ++ [(k, x)]) = Ps L ++ [(k : Int)] := by unfold Ps; rw [List.map_append]; rfl
theorem OsOf_snoc (L : List (Nat × Int)) (k : Nat) (x : Int) : OsOf (L ++ [(k, x)]) = OsOf L ++ [x] := by unfold OsOf; rw [List.map_append]; rfl
theorem Ps_len (L : List (Nat × Int)) : (Ps L).length = L.length := by unfold Ps; simp
theorem OsOf_len (L : List (Nat × Int)) : (OsOf L).length = L.length := by unfold OsOf; simp
theorem int_news (Y : World) (z : Int) : ∀ j u, (ints [z])[j]? = some u → (Y.alloc (.cells #[.int .i64 z] 3)).cell? ((⟨Y.heap.size, 0, none⟩ : Addr).add j) = some u := fun j u hu => by
  rw [add_plain, Nat.zero_add, World.cell?_alloc_new]; simpa [ints] using hu
theorem own_mv {O : Nat → Prop} {A B : World} {base : Nat} {e : TypeId} {v : Value} {n : Nat} {xs : List Value} (h : A.ownsRow base e 1 v n xs) (hm : Mv O A B) (ho : ∀ r, O r → r < base) : B.ownsRow base e 1 v n xs := by
  refine ⟨h.1, ?_⟩
  rcases h.2 with h1 | ⟨g, cap, cur, h1, h2, h3, h4⟩
  · exact .inl h1
  · exact .inr ⟨g, cap, cur, h1, h2, hm.heap h3 (fun e => by have := ho g e; omega), h4⟩
theorem own_kept {A B : World} {row : Option Nat} {base : Nat} {e : TypeId} {v : Value} {n : Nat} {xs : List Value} (h : A.ownsRow base e 1 v n xs) (hg : A.grownBy B row) (hr : ∀ r, v.ownBlock = some r → row ≠ some r) : B.ownsRow base e 1 v n xs := by
  refine ⟨h.1, ?_⟩
  rcases h.2 with h1 | ⟨g, cap, cur, h1, h2, h3, h4⟩
  · exact .inl h1
  · exact .inr ⟨g, cap, cur, h1, h2, (hg.block g (Array.getElem?_eq_some_iff.1 h3).1 fun e => hr g (by rw [h1]; rfl) e.symm).trans h3, h4⟩
/-- Three rows of the call's own, apart. -/
structure R3 (W : World) (B : Nat) (pv ov nv : Value) (P O C : List Int) : Prop where
  p : W.ownsRow B 3 1 pv P.length (ints P)
  o : W.ownsRow B 3 1 ov O.length (ints O)
  n : W.ownsRow B 3 1 nv C.length (ints C)
  d1 : ∀ r, pv.ownBlock = some r → ov.ownBlock ≠ some r
  d2 : ∀ r, pv.ownBlock = some r → nv.ownBlock ≠ some r
  d3 : ∀ r, ov.ownBlock = some r → nv.ownBlock ≠ some r
theorem R3.mv {T : Nat → Prop} {A W : World} {B : Nat} {pv ov nv : Value} {P O C : List Int} (h : R3 A B pv ov nv P O C) (hm : Mv T A W) (ho : ∀ r, T r → r < B) : R3 W B pv ov nv P O C :=
  ⟨own_mv h.p hm ho, own_mv h.o hm ho, own_mv h.n hm ho, h.d1, h.d2, h.d3⟩
theorem R3.below {A W : World} {B : Nat} {pv ov nv : Value} {P O C : List Int} (h : R3 A B pv ov nv P O C) (hb : Below A.heap.size A W) : R3 W B pv ov nv P O C :=
  h.mv (T := fun _ => False) (Mv.below hb) fun r h => h.elim
theorem R3.pushP {A W : World} {B : Nat} {pv ov nv : Value} {P O C : List Int} (h : R3 A B pv ov nv P O C) {o : Obj} {g c m : Nat} {z : Int} (hm : m = P.length) (hn : W.ownsRow B 3 1 (.slice (some ⟨g, 0, none⟩) (m + 1) c) (m + 1) (ints P ++ ints [z])) (hg : (A.alloc o).grownBy W pv.ownBlock)
    (hl : pv.ownBlock = some g ∨ g = (A.alloc o).heap.size) : R3 W B (.slice (some ⟨g, 0, none⟩) (m + 1) c) ov nv (P ++ [z]) O C := by
  have h1 := h.below (alloc_below A o)
  refine ⟨?_, own_kept h1.o hg fun r hr e => h.d1 r e hr, own_kept h1.n hg fun r hr e => h.d2 r e hr, fun r hr => ?_, fun r hr => ?_, h.d3⟩
  · rw [List.length_append, ints_append, List.length_singleton, ← hm]; exact hn
  · obtain rfl : g = r := by simpa [Value.ownBlock] using hr
    rcases hl with hl | hl
    · exact h.d1 g hl
    · exact fun e => by have := (h1.o.lt g e).2; omega
  · obtain rfl : g = r := by simpa [Value.ownBlock] using hr
    rcases hl with hl | hl
    · exact h.d2 g hl
    · exact fun e => by have := (h1.n.lt g e).2; omega
theorem R3.pushO {A W : World} {B : Nat} {pv ov nv : Value} {P O C : List Int} (h : R3 A B pv ov nv P O C) {o : Obj} {g c m : Nat} {z : Int} (hm : m = O.length) (hn : W.ownsRow B 3 1 (.slice (some ⟨g, 0, none⟩) (m + 1) c) (m + 1) (ints O ++ ints [z])) (hg : (A.alloc o).grownBy W ov.ownBlock)
    (hl : ov.ownBlock = some g ∨ g = (A.alloc o).heap.size) : R3 W B pv (.slice (some ⟨g, 0, none⟩) (m + 1) c) nv P (O ++ [z]) C := by
  have h1 := h.below (alloc_below A o)
  refine ⟨own_kept h1.p hg fun r hr e => h.d1 r hr e, ?_, own_kept h1.n hg fun r hr e => h.d3 r e hr, fun r hr => ?_, h.d2, fun r hr => ?_⟩
  · rw [List.length_append, ints_append, List.length_singleton, ← hm]; exact hn
  · intro e
    obtain rfl : g = r := by simpa [Value.ownBlock] using e
    rcases hl with hl | hl
    · exact h.d1 g hr hl
    · have := (h1.p.lt g hr).2; omega
  · obtain rfl : g = r := by simpa [Value.ownBlock] using hr
    rcases hl with hl | hl
    · exact h.d3 g hl
    · exact fun e => by have := (h1.n.lt g e).2; omega
theorem R3.setN {A : World} {B : Nat} {pv ov : Value} {g n c : Nat} {P O C : List Int} (h : R3 A B pv ov (.slice (some ⟨g, 0, none⟩) n c) P O C) (hn : n = C.length) {k : Nat} (hk : k < n) (v : Int) : R3 (A.setCell ⟨g, k, none⟩ (.int .i64 v)) B pv ov (.slice (some ⟨g, 0, none⟩) n c) P O (C.set k v) := by
  have h3 := h.n
  rw [← hn] at h3
  refine ⟨own_kept h.p (grownBy_set A ⟨g, k, none⟩ _) fun r hr e => h.d2 r hr (by rw [← e]; rfl), own_kept h.o (grownBy_set A ⟨g, k, none⟩ _) fun r hr e => h.d3 r hr (by rw [← e]; rfl), ?_, h.d1, h.d2, h.d3⟩
  rw [List.length_set, ints_put, ← hn]
  exact own_set h3 hk _
theorem tr_turn {A W : World} {b : Nat} {x : TrX} {C : List Int} {R : Nat → List W64} {row : Option Nat} {N : Nat} (h : Tr A b x C R) (hg : A.grownBy W row) (hl : ∀ r, x.all b (ht C.length) r → r < N) (hr : ∀ r, row = some r → N ≤ r) : Tr W b x C R :=
  h.keep fun r hx => hg.block r (h.lt hx) fun e => by have := hr r e.symm; have := hl r hx; omega
theorem own_at {W : World} {B g n c : Nat} {xs : List Value} (h : W.ownsRow B 3 1 (.slice (some ⟨g, 0, none⟩) n c) n xs) {i : Nat} {u : Value} (hi : xs[i]? = some u) : W.cell? ⟨g, i, none⟩ = some u ∧ W.frozen? ⟨g, i, none⟩ = false := by
  rcases h.2 with ⟨h1, _⟩ | ⟨g', cap, cur, h1, _, h3, _, _, _, h8⟩
  · cases h1
  · cases h1
    refine ⟨?_, by simp [World.frozen?, h3]⟩
    rw [← h8, List.getElem?_take] at hi
    split at hi
    · simp only [World.cell?, h3]
      simpa using hi
    · cases hi
theorem ints_at {l : List Int} {i : Nat} {z : Int} (h : l[i]? = some z) : (ints l)[i]? = some (.int .i64 z) := by unfold ints; rw [List.getElem?_map, h]; rfl
theorem own : ownKnob Try.prog.godebug = none := by kernel_rfl
theorem laid : laidOutB Try.prog = true := by kernel_rfl

set_option maxRecDepth 100000 in
set_option maxHeartbeats 8000000 in
theorem walk (w : World) (s0 : Value) (Z0 : Nat → Int) (l0 : Nat) (H0 : IntsAt w s0 1 Z0 l0) (N0 : ∀ n c, s0 = .slice none n c → s0 = .slice none 0 0) (s1 : Value) (Z1 : Nat → Int) (l1 : Nat) (H1 : IntsAt w s1 1 Z1 l1) (N1 : ∀ n c, s1 = .slice none n c → s1 = .slice none 0 0) (s2 : Value) (Z2 : Nat → Int) (l2 : Nat) (H2 : IntsAt w s2 1 Z2 l2) (N2 : ∀ n c, s2 = .slice none n c → s2 = .slice none 0 0) :
    Calls Try.prog 4 #[s0, s1, s2] w fun e w' => e = .returned (.bool true) ∧ Below w.heap.size w w' := by
  obtain ⟨M, hM20, hM64, kC0⟩ := cells11 H0 N0
  have kC := Lib.hid kC0
  clear kC0
  have hM := Lib.hid (show M.length ≤ 1000 from by omega)
  obtain ⟨i0, hi0, hz0, hz1, hz2⟩ := info_parts info_int
  have hi0' := Lib.hid (And.intro hi0 (And.intro hz0 (And.intro hz1 hz2)))
  clear hi0 hz0 hz1 hz2
  have hA := Lib.hid (ints_64 H1)
  have hIA := Lib.hid (IntsAt.il H1)
  have hIB := Lib.hid (IntsAt.il H2)
  obtain ⟨AT, hAT⟩ : ∃ AT, AT = (List.range l1).map Z1 := ⟨_, rfl⟩
  obtain ⟨BY, hBY⟩ : ∃ BY, BY = (List.range l2).map Z2 := ⟨_, rfl⟩
  rw [← hAT] at hA hIA
  rw [← hBY] at hIB
  clear hAT hBY H1 H2
  obtain ⟨aa, ac, rfl, a1, a2, a3⟩ := hIA.out.shape
  obtain ⟨ba, bc, rfl, b1, b2, b3⟩ := hIB.out.shape
  have hca := Lib.hid a3
  have hcb := Lib.hid b3
  unfold maxLen at a2 b2
  obtain ⟨na, hna⟩ : ∃ na, na = AT.length := ⟨_, rfl⟩
  obtain ⟨nb, hnb⟩ : ∃ nb, nb = BY.length := ⟨_, rfl⟩
  rw [← hna] at a1 hca ⊢
  rw [← hnb] at b1 hcb ⊢
  have hna' := Lib.hid hna
  have hnb' := Lib.hid hnb
  clear a3 b3 hIA hIB hna hnb
  go_enter Try.func4, Try.ntmps4
  go_wp2_with fail
  refine (kC.out w (Below.refl _ _)).mono ?_
  rintro e W1 ⟨ca, cc, rfl, hI1, hcn, hb1⟩
  have kN := Lib.hid (new_any _ M W1 hI1 hM.out)
  have hIC := Lib.hid hI1
  obtain ⟨n, hn⟩ : ∃ n, n = M.length := ⟨_, rfl⟩
  have hIS := hI1.shape
  rw [← hn] at kN hIC hM20 hcn hIS ⊢
  have hn' := Lib.hid hn
  have hB1 := Lib.hid hb1
  have hcn' := Lib.hid hcn
  obtain ⟨ca', cc', hcv, d1, d2, d3⟩ := hIS
  simp only [Value.slice.injEq, true_and] at hcv
  obtain ⟨rfl, rfl⟩ := hcv
  unfold maxLen at d2
  have hcc := Lib.hid d3
  clear hn hI1 kC hb1 hcn d3
  go_wp2_with fail
  refine (kN.out).mono ?_
  rintro e W2 ⟨b, x, rfl, hT1, hlow, hb2⟩
  have hT := Lib.hid hT1
  have hB12 := Lib.hid hb2
  have hlt := Lib.hid (fun r hr => hT1.lt (r := r) hr)
  rw [← hn'.out] at hlt
  have hlow' := Lib.hid hlow
  clear hT1 hb2 kN hlow
  have hlw := Lib.hid (show (ints M).length = n * 1 from by rw [ints_length, ← hn'.out, Nat.mul_one])
  have hcx := Lib.hid (fun (ad : Addr) (e : ca = some ad) (j : Nat) (u : Value) (hu : (ints M)[j]? = some u) => (by
    have hj := (List.getElem?_eq_some_iff.1 hu).1
    rw [ints_length, ← hn'.out] at hj
    obtain ⟨g, off, e', _, hc⟩ := hcc.out (by omega)
    rw [e] at e'
    cases e'
    unfold ints at hu
    rw [List.getElem?_map] at hu
    obtain ⟨z, hz, rfl⟩ := Option.map_eq_some_iff.1 hu
    rw [add_plain]
    exact carry (alloc_below W2 _) (carry hB12.out (hc j z hz)) : (W2.alloc (.cells #[] 3)).cell? (ad.add j) = some u))
  go_upto_region 6 with (at_builtin; refine wpList_append_nilable rfl _ _ 22 rfl W2.heap.size 3 i0 _ 1 8 Try.underlying22 hi0'.out.1 hi0'.out.2.1 hi0'.out.2.2.1 hi0'.out.2.2.2 rfl (by decide) (.slice (some ⟨W2.heap.size, 0, none⟩) 0 0) 0 [] rfl (World.ownsRow_made W2 #[] 0 (Nat.le_refl _) (Nat.zero_le _) rfl) ca n cc (ints M) rfl hlw.out hcn'.out hcx.out (ints_one' _) (by unfold maxLen; omega) (by omega) (size_more W2 _ (Nat.le_refl _)) ?_; intro nv W3 hown hgrow; rw [Nat.zero_add, List.nil_append] at hown; have hown' := Lib.hid hown; obtain ⟨nva, nvc, rfl⟩ := own_slice hown; have hgrow' := Lib.hid hgrow; clear hown hgrow)
  have hT3 := tr_turn (hT.out.carry (alloc_below W2 (.cells #[] 3))) hgrow'.out (by rw [← hn'.out]; exact hlt.out) fun r e => by simp [Value.ownBlock] at e; omega
  have hz3 : W2.heap.size ≤ W3.heap.size := by have := hgrow'.out.size; rw [World.size_alloc] at this; omega
  have hB13 : Below W1.heap.size W1 W3 := ((hB12.out.alloc hB12.out.size (.cells #[] 3)).grown hgrow'.out (by rw [World.size_alloc]; have := hB12.out.size; omega) fun r e => by simp [Value.ownBlock] at e; have := hB12.out.size; omega)
  have hR3 : R3 W3 W2.heap.size (.slice none 0 0) (.slice none 0 0) (.slice nva n nvc) (Ps []) (OsOf []) M := ⟨World.ownsRow_nil _ _ _ _, World.ownsRow_nil _ _ _ _, by rw [← hn'.out]; exact hown'.out, fun r h => by simp [Value.ownBlock] at h, fun r h => by simp [Value.ownBlock] at h, fun r h => by simp [Value.ownBlock] at h⟩
  have hlt' := Lib.hid (show ∀ r, x.all b (ht n) r → r < W2.heap.size from hlt.out)
  have hon := Lib.hid (show ∀ r, x.on (ht n) r → W1.heap.size ≤ r ∧ r < W2.heap.size from fun r hr => by
    have h0 : x.all b (ht n) r := by
      rcases hr with h | ⟨t, h, e⟩
      · exact .inr (.inl h)
      · exact .inr (.inr (.inr ⟨t, h, e⟩))
    exact ⟨hlow'.out r h0, hlt.out r h0⟩)
  clear hown' hgrow' hT hlt hlow' hcx hlw hcn' hcc d1 d2
  go_wp2_with fail
  go_loopw [10, 11, 12] (fun pl ol i wr => ∃ (t : Nat) (L : List (Nat × Int)) (C : List Int), t ≤ 12 ∧ i = .int .i64 (t : Nat) ∧ L.length ≤ t ∧ C.length = n ∧ back L C = M ∧ (∀ q ∈ L, q.1 < n) ∧ Tr wr b x C (rowsW C) ∧ R3 wr W2.heap.size pl ol (.slice nva n nvc) (Ps L) (OsOf L) C ∧ Below W1.heap.size W1 wr ∧ W2.heap.size ≤ wr.heap.size) (fun _ _ i _ => 12 - (intOf i).toNat)
  case atStart => exact ⟨0, [], M, by omega, rfl, Nat.le_refl _, hn'.out.symm, rfl, fun q hq => by simp at hq, hT3, hR3, hB13, hz3⟩
  case round =>
    obtain ⟨t, L, C, ht12, rfl, hLt, hCn, hbk, hLn, hTr, hRr, hBr, hzr⟩ := hrel
    have hC := Lib.hid hCn
    have hbk' := Lib.hid hbk
    have hLn' := Lib.hid hLn
    have hT2 := Lib.hid hTr
    have hR2 := Lib.hid hRr
    have hB2 := Lib.hid hBr
    have hL := Lib.hid hLt
    have hL12 : L.length ≤ 12 := by omega
    have hC1000 := Lib.hid (show C.length ≤ 1000 from by rw [hC.out]; omega)
    obtain ⟨pa, pc, rfl⟩ := own_slice hRr.p
    obtain ⟨oa, oc, rfl⟩ := own_slice hRr.o
    rw [Ps_len, OsOf_len] at hR2
    rw [Ps_len, OsOf_len]
    clear hCn hbk hLn hTr hRr hBr hT3 hR3 hB13 hz3 hLt
    obtain ⟨X, hX⟩ : ∃ V, V = wr := ⟨wr, rfl⟩
    subst hX
    by_cases hin : t < na ∧ t < nb ∧ t < 12
    · obtain ⟨j1, j2, j3⟩ := hin
      obtain ⟨z, hz⟩ : ∃ z, AT[t]? = some z := ⟨_, List.getElem?_eq_getElem (by rw [← hna'.out]; exact j1)⟩
      obtain ⟨v, hv⟩ : ∃ v, BY[t]? = some v := ⟨_, List.getElem?_eq_getElem (by rw [← hnb'.out]; exact j2)⟩
      obtain ⟨ga, offa, rfl, _, hga⟩ := hca.out (by omega)
      obtain ⟨gb, offb, rfl, _, hgb⟩ := hcb.out (by omega)
      have hBw := Lib.hid (below_step hB1.out hB2.out)
      have cz := carry hBw.out (hga t z hz)
      have cv := carry hBw.out (hgb t v hv)
      have z64 := hA.out.at hz
      have hcbt := Lib.hid (hgb t v hv)
      have kA := Lib.hid (fun W => around_any z ((n : Int) + 2) W z64.1 z64.2 (by omega))
      have hk := arnd_bd z (m := (n : Int) + 2) (by omega)
      have kS := Lib.hid (treeSet_any X b x C (arnd z ((n : Int) + 2) - 1) v hT2.out hC1000.out)
      generalize arnd z ((n : Int) + 2) = k1 at *
      have q1 : (t : Int) < (na : Int) := by omega
      have q2 : (t : Int) < (nb : Int) := by omega
      have q3 : (t : Int) < 12 := by omega
      clear hz hv hga hgb z64
      go_wp2_with fail
      refine (kA.out _).mono ?_
      rintro e W3 ⟨rfl, rfl⟩
      go_wp2_with fail
      refine (kS.out).mono ?_
      rintro e W4 ⟨⟨u, rfl⟩, hT4, hMv⟩
      rw [hC.out] at hMv
      have hR4 := Lib.hid (hR2.out.mv hMv fun r ho => (hon.out r ho).2)
      have hB4 := Lib.hid (hMv.toBelow hB2.out fun r hr ho => by have := (hon.out r ho).1; omega)
      have hz4 := Lib.hid (Nat.le_trans hzr hMv.size)
      have hT4' := Lib.hid hT4
      have cv4 := carry (below_step hB1.out hB4.out) hcbt.out
      clear hT4 hMv kA kS hT2 hR2 hB2 cz cv hBw
      by_cases hin2 : 0 ≤ k1 - 1 ∧ k1 - 1 < (n : Int)
      · obtain ⟨kn, hkn⟩ : ∃ kn : Nat, k1 - 1 = (kn : Int) := ⟨(k1 - 1).toNat, by omega⟩
        have hknn : kn < n := by omega
        obtain ⟨y, hy⟩ : ∃ y, C[kn]? = some y := ⟨_, List.getElem?_eq_getElem (by rw [hC.out]; exact hknn)⟩
        have hput : putC C (k1 - 1) v = C.set kn v := by unfold putC; rw [hkn, if_pos ⟨by omega, by rw [hC.out]; omega⟩, Int.toNat_natCast]
        rw [hput] at hT4'
        clear hput
        have r1 : decide (0 ≤ k1 - 1) = true := decide_eq_true (by omega)
        have r2 : decide (k1 - 1 < (n : Int)) = true := decide_eq_true hin2.2
        obtain ⟨gn, cn, e, _, _, _, _, hcells, hfz⟩ := own_form hR4.out.n (by rw [hC.out]; omega)
        simp only [Value.slice.injEq] at e
        obtain ⟨rfl, hxx, rfl⟩ := e
        clear hxx
        have hR4p := Lib.hid (show W4.ownsRow W2.heap.size 3 1 (.slice pa L.length pc) L.length (ints (Ps L)) from by have := hR4.out.p; rw [Ps_len] at this; exact this)
        have hall2 := Lib.hid (show ∀ r, x.all b (ht (C.set kn v).length) r → r < W2.heap.size from by rw [List.length_set, hC.out]; exact hlt'.out)
        have ccn := Lib.hid (show (ints C)[kn]? = some (.int .i64 y) from ints_at hy)
        rw [hkn] at r1 r2 hin2 ⊢
        clear hcells hfz hkn hk
        go_upto_region 14 with fail
        go_upto_region 15 with (at_builtin; refine wpList_append_lies _ rfl _ _ 22 rfl W2.heap.size 3 i0 _ 1 8 Try.underlying22 hi0'.out.1 hi0'.out.2.1 hi0'.out.2.2.1 hi0'.out.2.2.2 rfl (by decide) (.slice pa L.length pc) L.length (ints (Ps L)) rfl (hR4p.out.alloc _) ⟨W4.heap.size, 0, none⟩ 1 1 (ints [(kn : Int)]) rfl rfl (int_news W4 _) (ints_one' _) Nat.one_pos (by unfold maxLen; omega) (by omega) (size_more W4 _ hz4.out) _ rfl ?_; intro g1 c1 W5 hown hgrow hloc hlt5; have hR5 := Lib.hid (hR4.out.pushP (Ps_len L).symm hown hgrow hloc); have hT5 := Lib.hid (tr_turn (hT4'.out.carry (alloc_below W4 _)) hgrow hall2.out fun r e => (hR4p.out.lt r e).1); have hB5 := Lib.hid ((hB4.out.alloc hB4.out.size (.cells #[.int .i64 (kn : Int)] 3)).grown hgrow (size_more W4 _ hB4.out.size) fun r e => Nat.le_trans hB12.out.size (hR4p.out.lt r e).1); have hz5 := Lib.hid (Nat.le_trans (size_more W4 (.cells #[.int .i64 (kn : Int)] 3) hz4.out) hgrow.size); have cn5 := (own_at (by have := hR5.out.n; rw [hC.out] at this; exact this) ccn.out).1; clear hown hgrow hloc hlt5)
        have hR5o := Lib.hid (show W5.ownsRow W2.heap.size 3 1 (.slice oa L.length oc) L.length (ints (OsOf L)) from by have := hR5.out.o; rw [OsOf_len] at this; exact this)
        clear hR4 hT4' hB4 hz4 cv4 hR4p
        go_upto_region 16 with (at_builtin; refine wpList_append_lies _ rfl _ _ 22 rfl W2.heap.size 3 i0 _ 1 8 Try.underlying22 hi0'.out.1 hi0'.out.2.1 hi0'.out.2.2.1 hi0'.out.2.2.2 rfl (by decide) (.slice oa L.length oc) L.length (ints (OsOf L)) rfl (hR5o.out.alloc _) ⟨W5.heap.size, 0, none⟩ 1 1 (ints [y]) rfl rfl (int_news W5 _) (ints_one' _) Nat.one_pos (by unfold maxLen; omega) (by omega) (size_more W5 _ hz5.out) _ rfl ?_; intro g6 c6 W6 hown hgrow hloc hlt5; have hR6 := Lib.hid (hR5.out.pushO (OsOf_len L).symm hown hgrow hloc); have hT6 := Lib.hid (tr_turn (hT5.out.carry (alloc_below W5 _)) hgrow hall2.out fun r e => (hR5o.out.lt r e).1); have hB6 := Lib.hid ((hB5.out.alloc hB5.out.size (.cells #[.int .i64 y] 3)).grown hgrow (size_more W5 _ hB5.out.size) fun r e => Nat.le_trans hB12.out.size (hR5o.out.lt r e).1); have hz6 := Lib.hid (Nat.le_trans (size_more W5 (.cells #[.int .i64 y] 3) hz5.out) hgrow.size); clear hown hgrow hloc hlt5)
        obtain ⟨cn6, fn6⟩ := own_at (by have := hR6.out.n; rw [hC.out] at this; exact this) ccn.out
        have cv6 := carry (below_step hB1.out hB6.out) hcbt.out
        have hgn := (hR6.out.n.lt gn rfl).1
        have hR7 := Lib.hid (hR6.out.setN hC.out.symm hknn v)
        have hT7 := Lib.hid (tr_turn hT6.out (grownBy_set W6 ⟨gn, kn, none⟩ (.int .i64 v)) hall2.out fun r e => by cases e; exact hgn)
        have hB7 := Lib.hid (hB6.out.setCell (p := ⟨gn, kn, none⟩) (Nat.le_trans hB12.out.size hgn) (.int .i64 v))
        have hz7 := Lib.hid (show W2.heap.size ≤ (W6.setCell ⟨gn, kn, none⟩ (.int .i64 v)).heap.size from by rw [World.size_setCell]; exact hz6.out)
        have hbk2 := Lib.hid (show back (L ++ [(kn, y)]) (C.set kn v) = M from by rw [back_snoc, set_back v hy]; exact hbk'.out)
        clear hR5 hT5 hB5 hz5 cn5 hR5o hR6 hT6 hB6 hz6 ccn hy
        go_wp2
        go_roundw
        case rel => exact ⟨t + 1, L ++ [(kn, y)], C.set kn v, by omega, by go_num, by rw [List.length_append]; simp; exact hL.out, by rw [List.length_set]; exact hC.out, hbk2.out, fun q hq => by
          rcases List.mem_append.1 hq with h | h
          · exact hLn'.out q h
          · simp at h; rw [h]; exact hknn, hT7.out, by rw [Ps_snoc, OsOf_snoc]; exact hR7.out, hB7.out, hz7.out⟩
        case measure => simp [intOf]; omega
      · have hput : putC C (k1 - 1) v = C := by unfold putC; rw [if_neg (by rw [hC.out]; exact hin2)]
        rw [hput] at hT4'
        by_cases r0 : 0 ≤ k1 - 1
        · have r1 : decide (0 ≤ k1 - 1) = true := decide_eq_true r0
          have r2 : decide (k1 - 1 < (n : Int)) = false := decide_eq_false (by omega)
          go_wp2
          go_roundw
          case rel => exact ⟨t + 1, L, C, by omega, by go_num, Nat.le_succ_of_le hL.out, hC.out, hbk'.out, hLn'.out, hT4'.out, hR4.out, hB4.out, hz4.out⟩
          case measure => simp [intOf]; omega
        · have r1 : decide (0 ≤ k1 - 1) = false := decide_eq_false r0
          go_wp2
          go_roundw
          case rel => exact ⟨t + 1, L, C, by omega, by go_num, Nat.le_succ_of_le hL.out, hC.out, hbk'.out, hLn'.out, hT4'.out, hR4.out, hB4.out, hz4.out⟩
          case measure => simp [intOf]; omega
    · go_upto_region 9 with fail
      go_cut [37] (fun c W => c = .bool false ∧ W = X)
      case first =>
        by_cases j1 : t < na
        · have q1 : (t : Int) < (na : Int) := by omega
          by_cases j2 : t < nb
          · have q2 : (t : Int) < (nb : Int) := by omega
            have q3 : ¬ (t : Int) < 12 := by omega
            go_wp2_with fail
            go_meet
            exact ⟨rfl, rfl⟩
          · have q2 : ¬ (t : Int) < (nb : Int) := by omega
            go_wp2_with fail
            go_meet
            exact ⟨rfl, rfl⟩
        · have q1 : ¬ (t : Int) < (na : Int) := by omega
          go_wp2_with fail
          go_meet
          exact ⟨rfl, rfl⟩
      obtain ⟨hc37, hcW⟩ := hcut
      subst hc37
      obtain ⟨Y, hY⟩ : ∃ V, V = wc := ⟨wc, rfl⟩
      subst hY
      subst hcW
      have kR := Lib.hid (treeRoot_any Y b x C hT2.out hC1000.out)
      have hIn := Lib.hid (show IL Y (.slice nva n nvc) C from IL.owned hR2.out.n)
      have kF := Lib.hid (fun W (hW : Below Y.heap.size Y W) => refRoot_any (.slice nva n nvc) C W (hIn.out.carry hW) (by have := hC1000.out; omega))
      generalize ((rootW C).toNat : Int) = r at *
      have hrr : (r == r) = true := bq_self _
      go_wp2_with fail
      refine (kR.out).mono ?_
      rintro e W3 ⟨rfl, hb3⟩
      go_wp2_with fail
      refine (kF.out _ hb3).mono ?_
      rintro e W4 ⟨rfl, hb4⟩
      replace hb4 := below_step hb3 hb4
      have hT4 := hT2.out.carry hb4
      have hR4 := hR2.out.below hb4
      have hB4 := below_step hB2.out hb4
      have hz4 := Nat.le_trans hzr hb4.size
      obtain ⟨m, hm⟩ : ∃ m, m = L.length := ⟨_, rfl⟩
      have hm' := Lib.hid hm
      rw [← hm] at hR4 hL12 ⊢
      clear hb3 hm kR kF hIn hT2 hR2 hB2
      go_wp2_with fail
      go_loopw [14] (fun i wr => ∃ (j : Nat) (D : List Int), j ≤ m ∧ i = .int .i64 ((j : Int) - 1) ∧ D.length = n ∧ back (L.take j) D = M ∧ Tr wr b x D (rowsW D) ∧ R3 wr W2.heap.size (.slice pa m pc) (.slice oa m oc) (.slice nva n nvc) (Ps L) (OsOf L) C ∧ Below W1.heap.size W1 wr) (fun i _ => (intOf i + 1).toNat)
      case atStart => exact ⟨m, C, Nat.le_refl _, rfl, hC.out, by rw [hm'.out, List.take_length]; exact hbk'.out, hT4, hR4, hB4⟩
      case round =>
        obtain ⟨j, D, hj, rfl, hDn, hbD, hTD, hRD, hBD⟩ := hrel
        have hD := Lib.hid hDn
        have hbD' := Lib.hid hbD
        have hTD' := Lib.hid hTD
        have hRD' := Lib.hid hRD
        have hBD' := Lib.hid hBD
        have hD1000 := Lib.hid (show D.length ≤ 1000 from by rw [hD.out]; omega)
        clear hDn hbD hTD hRD hBD hT4 hR4 hB4
        obtain ⟨Z, hZ⟩ : ∃ V, V = wr := ⟨wr, rfl⟩
        subst hZ
        cases j with
        | zero =>
          have hDM : D = M := hbD'.out
          subst hDM
          have kR := Lib.hid (treeRoot_any Z b x D hTD'.out hM.out)
          have hI2 := Lib.hid (hIC.out.carry hBD'.out)
          have kF := Lib.hid (fun W (hW : Below Z.heap.size Z W) => rootOf_any (.slice ca n cc) D W (hI2.out.carry hW) hM.out)
          generalize ((rootW D).toNat : Int) = r2 at *
          have hrr2 : (r2 == r2) = true := bq_self _
          go_wp2_with fail
          refine (kR.out).mono ?_
          rintro e W5 ⟨rfl, hb5⟩
          go_wp2_with fail
          refine (kF.out _ hb5).mono ?_
          rintro e W6 ⟨rfl, hb6⟩
          go_wp2_with fail
          refine (lives11_any _).mono ?_
          rintro e W7 ⟨rfl, hb7⟩
          go_wp2
          go_ret
          exact ⟨rfl, below_step hB1.out (below_step hBD'.out (below_step hb5 (below_step hb6 hb7)))⟩
        | succ k =>
          have hkm : k < m := hj
          obtain ⟨q, hq⟩ : ∃ q, L[k]? = some q := ⟨_, List.getElem?_eq_getElem (by rw [← hm'.out]; exact hkm)⟩
          have hqn := hLn'.out q (List.mem_of_getElem? hq)
          have e1 : ((k + 1 : Nat) : Int) - 1 = (k : Int) := by omega
          rw [e1]
          have hp1 : (Ps L)[k]? = some (q.1 : Int) := by unfold Ps; rw [List.getElem?_map, hq]; rfl
          have ho1 : (OsOf L)[k]? = some q.2 := by unfold OsOf; rw [List.getElem?_map, hq]; rfl
          have hop := hRD'.out.p
          have hoo := hRD'.out.o
          rw [Ps_len, ← hm'.out] at hop
          rw [OsOf_len, ← hm'.out] at hoo
          obtain ⟨gp, cp, ep, _, _, _, _, _, _⟩ := own_form hop (by omega)
          obtain ⟨go', co, eo, _, _, _, _, _, _⟩ := own_form hoo (by omega)
          simp only [Value.slice.injEq] at ep eo
          obtain ⟨rfl, hxx, rfl⟩ := ep
          obtain ⟨rfl, hxy, rfl⟩ := eo
          clear hxx hxy
          have c1 := (own_at hop (ints_at hp1)).1
          have c2 := (own_at hoo (ints_at ho1)).1
          have hput : putC D (q.1 : Int) q.2 = D.set q.1 q.2 := by unfold putC; rw [if_pos ⟨by omega, by rw [hD.out]; omega⟩, Int.toNat_natCast]
          have hbk3 := Lib.hid (show back (L.take k) (D.set q.1 q.2) = M from by
            have := hbD'.out
            rw [List.take_add_one, hq, Option.toList_some] at this
            rw [← back_snoc]; exact this)
          have kS := fun W (hW : Below Z.heap.size Z W) => treeSet_any W b x D (q.1 : Int) q.2 (hTD'.out.carry hW) hD1000.out
          rw [hput] at kS
          have hlen2 := Lib.hid (show (D.set q.1 q.2).length = n from by rw [List.length_set]; exact hD.out)
          generalize D.set q.1 q.2 = D2 at *
          generalize q.2 = qo at *
          generalize q.1 = qp at *
          have kS' := Lib.hid kS
          clear hop hoo hput kS hq hp1 ho1 e1
          have q1 : (k : Int) < (m : Int) := by omega
          have n1 := block_lt_of_cell c1
          have n2 := block_lt_of_cell c2
          simp only at n1 n2
          go_upto_region 22 with fail
          refine wp_region_tail 9 (by kernel_rfl) (by kernel_rfl) ?_
          intro W hK
          obtain ⟨hc, hf, hz, hb⟩ := hK
          simp only [List.take_succ_cons, List.take_zero, List.drop_succ_cons, List.drop_zero]
          repeat (go_big_quiet_step ((fail)))
          refine wpQuiet_nil ?_
          intro _ hw'
          obtain ⟨xq, hw''⟩ := hw'
          subst hw''
          have hbq := hb xq
          clear hc hf hz hb c1 c2
          have hBq := Lib.hid hbq
          generalize over W xq = W9 at *
          go_wp2_with fail
          refine (kS'.out W9 hBq.out).mono ?_
          rintro e W5 ⟨⟨u, rfl⟩, hT5, hMv⟩
          rw [hD.out] at hMv
          have hR5 := Lib.hid ((hRD'.out.below hBq.out).mv hMv fun r ho => (hon.out r ho).2)
          have hB5 := Lib.hid (hMv.toBelow (below_step hBD'.out hBq.out) fun r hr ho => by have := (hon.out r ho).1; omega)
          have hT5' := Lib.hid hT5
          clear hT5 hMv
          go_wp2
          go_roundw
          case rel => exact ⟨k, D2, by omega, rfl, hlen2.out, hbk3.out, hT5'.out, hR5.out, hB5.out⟩
          case measure => first | (simp [intOf]; done) | (simp [intOf]; omega)

set_option maxRecDepth 100000 in
theorem lifted (os : Os) (started : os.Started) (H : Type) (enc : TypeId × Value → H) :
    ReturnsInHanded {} Try.checked os 4 .any (Rows.merkleSetsSpec.pre6 enc Try.prog Try.f4 Rows.merkleSetsRow.domain false) (Rows.merkleSetsSpec.post enc Try.prog Try.f4 false true false false) := by
  refine returnsInHanded_of_change (C := Try.checked) own started (by kernel_rfl) Try.func4
    (ChangeSpec.witness6 (enc := enc) (C := Try.checked) false ⟨#[], #[.slice none 0 0, .slice none 0 0, .slice none 0 0], []⟩ 8 (by kernel_rfl) (by kernel_rfl) (by kernel_rfl) (by kernel_rfl)) ?_
  intro W base args ds gs before hval0 hW hcnd _
  have hval : ∀ (j : Nat) t v, Try.f4.params[j]? = some t → args[j]? = some v → Value.okWide Try.prog W .any base t v := hval0
  have hW' := hW
  obtain ⟨p, q, hA0, hV, rfl, hfz, hnd⟩ := hW
  have hA : DataW.TrodAll enc Try.prog W 0 (fun _ => true) true Try.f4.params.toList args.toList ds p := hA0
  rw [Try.params4] at hA hval
  have hAk := hA
  obtain ⟨v0, vs0, d0, ds0, p0, q0, hargs, rfl, hp0, h0, r0⟩ := trodAll_cons hA
  obtain ⟨v1, vs1, d1, ds1, p1, q1, rfl, rfl, hp1, h1, r1⟩ := trodAll_cons r0
  obtain ⟨v2, vs2, d2, ds2, p2, q2, rfl, rfl, hp2, h2, r2⟩ := trodAll_cons r1
  obtain ⟨rfl, rfl, -⟩ := trodAll_nil r2
  obtain rfl : args = #[v0, v1, v2] := by cases args; simp_all
  obtain ⟨rfl, rfl⟩ := trodVars_none hV
  obtain ⟨x0, q0, c0, rfl⟩ := okWide_slice Try.underlying22 (hval 0 22 v0 rfl rfl)
  obtain ⟨fu0, fh0⟩ := h0
  obtain ⟨s0, Z0, l0, e0, H0, N0⟩ := open_int_cells2 Try.underlying22 Try.underlying3 (by kernel_rfl) fh0
  simp only [Value.cells, List.cons.injEq, and_true] at e0
  obtain rfl := e0.symm
  obtain ⟨x1, q1, c1, rfl⟩ := okWide_slice Try.underlying22 (hval 1 22 v1 rfl rfl)
  obtain ⟨fu1, fh1⟩ := h1
  obtain ⟨s1, Z1, l1, e1, H1, N1⟩ := open_int_cells2 Try.underlying22 Try.underlying3 (by kernel_rfl) fh1
  simp only [Value.cells, List.cons.injEq, and_true] at e1
  obtain rfl := e1.symm
  obtain ⟨x2, q2, c2, rfl⟩ := okWide_slice Try.underlying22 (hval 2 22 v2 rfl rfl)
  obtain ⟨fu2, fh2⟩ := h2
  obtain ⟨s2, Z2, l2, e2, H2, N2⟩ := open_int_cells2 Try.underlying22 Try.underlying3 (by kernel_rfl) fh2
  simp only [Value.cells, List.cons.injEq, and_true] at e2
  obtain rfl := e2.symm
  clear hA0 hval0
  simp only [List.append_nil] at hW'
  refine (walk W _ Z0 l0 H0 N0 _ Z1 l1 H1 N1 _ Z2 l2 H2 N2).mono fun e W' ⟨he, hb⟩ => ?_
  subst he
  exact ⟨_, rfl, kept_post (pa := p) hW' (fun _ _ _ => (trodAll_cons_mk (shut_bool Try.underlying4 _) trodAll_mk0)) (fun sp hsp => trodAll_stays laid hb (by rw [Try.params4]; decide +kernel) hAk (fun x hx => hW'.lt x hx) hsp) (fun _ => rfl) hb (ok_one (by kernel_rfl) rfl (okWide_bool_mk Try.underlying4 _))⟩

theorem over : Rows.merkleSetsRow.holds Try.pinned (OpenSpec.ofChange Rows.merkleSetsSpec) :=
  OpenClaim.holds_of_wide 4 Try.f4 rfl rfl rfl rfl rfl rfl rfl ⟨rfl, rfl, rfl, rfl, rfl⟩ rfl rfl rfl rfl rfl (by kernel_rfl) Try.func4 (by kernel_rfl)
    (of_decide_eq_true (by kernel_rfl)) (by unfold Func.isWrapper; first | (rw [if_pos (by decide +kernel)]; kernel_rfl) | (rw [if_neg (by decide +kernel)]; exact ⟨rfl, rfl⟩))
    (fun os started H enc _ => lifted os started H enc)

theorem proved : Rows.MerkleSetsSaid :=
  over
#print axioms proved
end Go.Proofs.Ythpdohfekillkaa.merkleSets
