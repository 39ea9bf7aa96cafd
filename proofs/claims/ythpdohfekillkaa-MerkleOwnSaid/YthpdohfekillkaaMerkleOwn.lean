/-
  package merkle, P11.1, P11.3: for every list of cells (its first 20), a change of the argument's slice does not change the tree, a change of a returned proof does not change the partial tree that was made of it, and both agree after the same assignment; whatever the arguments are.
-/
import Derived.Test.YthpdohfekillkaaRows
import Derived.WalkKit
import Derived.ProofKit
import Derived.OpenShut
import Derived.Test.YthpdohfekillkaaOpen
import Derived.Test.YthpdohfekillkaaOpenB
import Derived.Test.YthpdohfekillkaaMlS
namespace Go.Proofs.Ythpdohfekillkaa.merkleOwn
open Go.ChangeShapes Go.WideShapes Go.ChangeAt Go.RowKit
set_option linter.unusedVariables false
set_option linter.unusedSimpArgs false

theorem okL_of {C : List Int} {ls : List Lf} (hof : ∀ (k : Nat) (f : Lf), ls[k]? = some f → Of C f) : okL (rootW C) C.length ls := by
  intro t f hf
  obtain ⟨j, y, hy, e1, e2, e3⟩ := hof t f hf
  refine ⟨by rw [e1, e2, e3]; exact ver_proof hy, fun k h hk hh => ?_⟩
  obtain ⟨j', y', hy', e1', e2', e3'⟩ := hof k h hh
  unfold clash
  by_cases e : h.i = f.i
  · have : j' = j := by rw [e1, e1'] at e; omega
    subst this
    rw [hy] at hy'
    cases hy'
    simp [e2, e2']
  · simp [e]
theorem ints_at' {l : List Int} {i : Nat} {z : Int} (h : l[i]? = some z) : (ints l)[i]? = some (.int .i64 z) := by unfold ints; rw [List.getElem?_map, h]; rfl
theorem on_all {x : TrX} {b H r : Nat} (h : x.on H r) : x.all b H r := by
  rcases h with h | ⟨t, h, e⟩
  · exact .inr (.inl h)
  · exact .inr (.inr (.inr ⟨t, h, e⟩))
theorem ge3 {m n a b c : Nat} (h : m ≤ n) (g : n ≤ a ∧ n ≤ b ∧ n ≤ c) : m ≤ a ∧ m ≤ b ∧ m ≤ c := by omega
theorem one_ll (Y : World) (f : Lf) {a : Option Addr} {m c : Nat} (e : f.pv = .slice a m c) (h : VL Y f.pv (u64s f.l)) (hl : f.l.length ≤ 1000) :
    LL (Y.alloc (.cells #[.int .i64 f.i, .int .i64 f.v, f.pv] 33)) (.slice (some ⟨Y.heap.size, 0, none⟩) 1 1) [f] := by
  refine ⟨some ⟨Y.heap.size, 0, none⟩, 1, rfl, Nat.le_refl _, by decide, fun _ => ⟨Y.heap.size, 0, rfl, by simp, fun k g hk => ?_⟩⟩
  cases k with
  | succ k => cases hk
  | zero =>
    cases hk
    refine ⟨?_, ?_, ?_, h.carry (alloc_below _ _), hl⟩
    · rw [World.cell?_alloc_new]; rfl
    · rw [World.cell?_alloc_new]; rfl
    · rw [World.cell?_alloc_new]; rfl
theorem own : ownKnob Try.prog.godebug = none := by kernel_rfl
theorem laid : laidOutB Try.prog = true := by kernel_rfl

set_option maxRecDepth 100000 in
set_option maxHeartbeats 8000000 in
theorem walk (w : World) (s0 : Value) (Z0 : Nat → Int) (l0 : Nat) (H0 : IntsAt w s0 1 Z0 l0) (N0 : ∀ n c, s0 = .slice none n c → s0 = .slice none 0 0) (a1 : Int) (w1 : (Lit.int .i64 a1).wf = true) :
    Calls Try.prog 10 #[s0, .int .i64 a1] w fun e w' => e = .returned (.bool true) ∧ Below w.heap.size w w' := by
  obtain ⟨M, hM20, hM64, kC0⟩ := cells11 H0 N0
  have kC := Lib.hid kC0
  have i1 := lit_i64 w1
  clear kC0 H0 N0
  have hM := Lib.hid (show M.length ≤ 1000 from by omega)
  obtain ⟨i0, hi0, hz0, hz1, hz2⟩ := info_parts info_int
  have hi0' := Lib.hid (And.intro hi0 (And.intro hz0 (And.intro hz1 hz2)))
  clear hi0 hz0 hz1 hz2
  go_enter Try.func10, Try.ntmps10
  go_wp2_with fail
  refine (kC.out w (Below.refl _ _)).mono ?_
  rintro e W1 ⟨ca, cc, rfl, hI1, hcn, hb1⟩
  have hB1 := Lib.hid hb1
  obtain ⟨n, hn⟩ : ∃ n, n = M.length := ⟨_, rfl⟩
  rw [← hn] at hI1 hcn hM20 ⊢
  have hn' := Lib.hid hn
  have hIS := hI1.shape
  rw [← hn] at hIS
  obtain ⟨ca', cc', hcv, d1, d2, d3⟩ := hIS
  simp only [Value.slice.injEq, true_and] at hcv
  obtain ⟨rfl, rfl⟩ := hcv
  unfold maxLen at d2
  have hcc := Lib.hid d3
  have hcn' := Lib.hid hcn
  clear hn hI1 kC hb1 hcn d3
  by_cases h0 : n = 0
  · subst h0
    have hz : (((0 : Nat) : Int) == 0) = true := rfl
    go_wp2_with fail
    refine (lives11_any _).mono ?_
    rintro e W2 ⟨rfl, hb2⟩
    go_wp2
    go_ret
    exact ⟨rfl, below_step hB1.out hb2⟩
  · have hz : ((n : Int) == 0) = false := by simp only [beq_eq_false_iff_ne, ne_eq]; omega
    have hz2 : ¬ (n : Int) = 0 := by omega
    have hlw := Lib.hid (show (ints M).length = n * 1 from by rw [ints_length, ← hn'.out, Nat.mul_one])
    have hcx := Lib.hid (fun (ad : Addr) (e : ca = some ad) (j : Nat) (u : Value) (hu : (ints M)[j]? = some u) => (by
      have hj := (List.getElem?_eq_some_iff.1 hu).1
      rw [ints_length, ← hn'.out] at hj
      obtain ⟨g, off, e', _, hc⟩ := hcc.out (by omega)
      rw [e] at e'
      cases e'
      unfold ints at hu
      rw [List.getElem?_map] at hu
      obtain ⟨z, hz, rfl⟩ := Option.map_eq_some_iff.1 hu
      rw [add_plain]
      exact carry (alloc_below W1 _) (hc j z hz) : (W1.alloc (.cells #[] 3)).cell? (ad.add j) = some u))
    go_upto_region 4 with fail
    go_upto_region 5 with (at_builtin; refine wpList_append_nilable rfl _ _ 22 rfl W1.heap.size 3 i0 _ 1 8 Try.underlying22 hi0'.out.1 hi0'.out.2.1 hi0'.out.2.2.1 hi0'.out.2.2.2 rfl (by decide) (.slice (some ⟨W1.heap.size, 0, none⟩) 0 0) 0 [] rfl (World.ownsRow_made W1 #[] 0 (Nat.le_refl _) (Nat.zero_le _) rfl) ca n cc (ints M) rfl hlw.out hcn'.out hcx.out (ints_one' _) (by unfold maxLen; omega) (by omega) (size_more W1 _ (Nat.le_refl _)) ?_; intro nv W2 hown hgrow; rw [Nat.zero_add, List.nil_append] at hown; have hown' := Lib.hid hown; obtain ⟨nva, nvc, rfl⟩ := own_slice hown; have hgrow' := Lib.hid hgrow; clear hown hgrow)
    have hz3 : W1.heap.size ≤ W2.heap.size := by have := hgrow'.out.size; rw [World.size_alloc] at this; omega
    have hB2 := Lib.hid (((hB1.out.alloc hB1.out.size (.cells #[] 3)).grown hgrow'.out (by rw [World.size_alloc]; have := hB1.out.size; omega) fun r e => by simp [Value.ownBlock] at e; have := hB1.out.size; omega))
    have hIO := Lib.hid (show IL W2 (.slice nva n nvc) M from by have := hown'.out; rw [hn'.out] at this ⊢; exact IL.owned this)
    obtain ⟨y0, hy0⟩ : ∃ y, M[0]? = some y := ⟨_, List.getElem?_eq_getElem (by rw [← hn'.out]; omega)⟩
    obtain ⟨gn, cn, e, gB, gS, _, _, hcells, hfz⟩ := own_form hown'.out (by omega)
    simp only [Value.slice.injEq] at e
    obtain ⟨rfl, hxx, rfl⟩ := e
    clear hxx
    have kN := Lib.hid (new_any _ M W2 hIO.out hM.out)
    have cy0 := CellsAt.at hcells (ints_at' hy0)
    have fy0 := hfz 0
    have hfz' := Lib.hid hfz
    clear hcells hfz hgrow' hcx hlw hIO
    go_wp2_with fail
    refine (kN.out).mono ?_
    rintro e W3 ⟨b, x, rfl, hT1, hlow, hb3⟩
    have cy := carry hb3 cy0
    have fy := (hb3.frozen (p := ⟨gn, 0, none⟩) gS).trans fy0
    have hgn : gn < W2.heap.size := gS
    have hT4 := Lib.hid (hT1.keep (w' := W3.setCell ⟨gn, 0, none⟩ (.int .i64 (wrap64 (y0 + 1)))) fun r hr => Below.heap_setCell _ _ _ _ (by have := hlow r hr; simp only; omega))
    have hlow' := Lib.hid hlow
    have hB4 := Lib.hid ((below_step hB2.out hb3).setCell (p := ⟨gn, 0, none⟩) (Nat.le_trans hB1.out.size gB) (.int .i64 (wrap64 (y0 + 1))))
    have hW24 := hb3.size
    clear hT1 hlow hb3 kN cy0 fy0
    go_upto_region 9 with fail
    generalize W3.setCell ⟨gn, 0, none⟩ (.int .i64 (wrap64 (y0 + 1))) = W4 at *
    clear cy fy
    go_wp2_with fail
    refine (around_any a1 (n : Int) W4 i1.1 i1.2 (by omega)).mono ?_
    rintro e W5 ⟨rfl, rfl⟩
    have hk := arnd_bd a1 (m := (n : Int)) (by omega)
    generalize arnd a1 (n : Int) = k0 at *
    obtain ⟨k, rfl⟩ : ∃ k : Nat, k0 = (k : Int) := ⟨k0.toNat, by omega⟩
    obtain ⟨y, hy⟩ : ∃ y, M[k]? = some y := ⟨_, List.getElem?_eq_getElem (by rw [← hn'.out]; omega)⟩
    have kP := treeProve_any W4 b x M (k : Int) hT4.out hM.out
    obtain ⟨q1, q2, q3⟩ := pr_in hy
    rw [q1, q2, q3] at kP
    clear q1 q2 q3
    have hkn : k < n := by omega
    have hfew := Lib.hid (show (proofW M k (ht M.length)).length ≤ 16 from by rw [proofW_len]; exact ht_small (by rw [← hn'.out]; omega))
    have hxl := Lib.hid (show (proofW M k (ht M.length)).length = ht M.length from proofW_len _ _ _)
    have hof0 := Lib.hid (fun pv => show Of M ⟨(k : Int), y, pv, proofW M k (ht M.length)⟩ from ⟨k, y, hy, rfl, rfl, rfl⟩)
    generalize proofW M k (ht M.length) = xl at *
    have hy' := Lib.hid hy
    have kP' := Lib.hid kP
    clear hk kP hy
    go_wp2_with fail
    refine (kP'.out).mono ?_
    rintro e W5 ⟨xp, rfl, hoX, hb5⟩
    have hXV := Lib.hid (VL.owned hoX)
    have hXo := Lib.hid hoX
    have hXlt0 := Lib.hid (fun r hr => hoX.lt r hr)
    have hT4lt := Lib.hid (fun r hr => hT4.out.lt (r := r) hr)
    obtain ⟨xa, xc, rfl⟩ := own_slice hoX
    have hXlt := Lib.hid (show ∀ r, (Value.slice xa xl.length xc).ownBlock = some r → W4.heap.size ≤ r ∧ r < W5.heap.size from hXlt0.out)
    clear hXlt0
    go_upto_region 11 with fail
    obtain ⟨W6, hW6⟩ : ∃ V, V = W5.alloc (.cells #[.int .i64 (k : Int), .int .i64 y, .slice xa xl.length xc] 33) := ⟨_, rfl⟩
    have hb6 : Below W5.heap.size W5 W6 := by rw [hW6]; exact alloc_below _ _
    have hLx : LfB W6 W5.heap.size (k : Int) y (.slice xa xl.length xc) := by rw [hW6]; exact LfB.new _ _ _ _
    have hz6 : W6.heap.size = W5.heap.size + 1 := by rw [hW6]; simp
    rw [← hW6]
    clear hW6
    have hb46 := below_step hb5 hb6
    have hT6 := Lib.hid (hT4.out.carry hb46)
    have hB6 := Lib.hid (below_step hB4.out hb46)
    have hXV6 := Lib.hid (hXV.out.carry hb6)
    have hXo6 := Lib.hid (own_other hXo.out (grown_of_below hb6) fun r e => by cases e)
    have hL6 := Lib.hid hLx
    have e0 := hLx.c0
    have e1 := hLx.c1
    have e2 := hLx.c2
    have hz46 := hb5.size
    generalize W5.heap.size = xb at *
    clear hb5 hb6 hb46 hLx hXV hXo hoX hT4 kP'
    obtain ⟨xn, hxn⟩ : ∃ xn, xn = xl.length := ⟨_, rfl⟩
    rw [← hxn] at hXV6 hXo6 hL6 e2 hxl hfew hXlt ⊢
    have hxn' := Lib.hid hxn
    have kR := Lib.hid (fun Z (hZ : Below W6.heap.size W6 Z) => treeRoot_any Z b x M (hT6.out.carry hZ) hM.out)
    obtain ⟨f, hf⟩ : ∃ f : Lf, f = ⟨(k : Int), y, .slice xa xn xc, xl⟩ := ⟨_, rfl⟩
    have hofs := Lib.hid (show ∀ (k : Nat) (g : Lf), [f][k]? = some g → Of M g from fun j g hg => by
      cases j with
      | succ j => cases hg
      | zero => cases hg; rw [hf]; exact hof0.out _)
    have h64f := Lib.hid (show ∀ (k : Nat) (g : Lf), [f][k]? = some g → (Lit.int .i64 g.i).wf = true ∧ (Lit.int .i64 g.v).wf = true from fun j g hg => by
      cases j with
      | succ j => cases hg
      | zero => cases hg; rw [hf]; exact ⟨wf_nat (by omega), i64_lit (hM64.at hy'.out)⟩)
    have kNP := Lib.hid (fun Z v (hZ : LL Z v [f]) => show Calls Try.prog 26 #[.int .u64 ((rootW M).toNat : Int), .int .i64 (n : Nat), v] Z fun e w' => ∃ pb b1 b2, e = .returned (.tuple #[.pointer (some ⟨pb, 0, none⟩), .int .i64 0]) ∧ Pa w' pb b1 b2 (ht M.length) (valD [f] 1) (hashD (rootW M) (ht M.length) [f] 1) (1 + 1 * (1 + ht M.length)) ∧ (Z.heap.size ≤ pb ∧ Z.heap.size ≤ b1 ∧ Z.heap.size ≤ b2) ∧ Below Z.heap.size Z w' from by
      refine (newPartial_any (rootW M) n v [f] Z hZ (by omega) (by simp) h64f.out).mono ?_
      rintro e w' (⟨_, pb, b1, b2, he, hp, hge, hb⟩ | ⟨hno, _⟩)
      · rw [hn'.out] at hp
        exact ⟨pb, b1, b2, he, hp, hge, hb⟩
      · exact absurd (by rw [hn'.out]; exact okL_of hofs.out) hno)
    have hone := Lib.hid (fun Y (hY : Below W6.heap.size W6 Y) => show LL (Y.alloc (.cells #[.int .i64 (k : Int), .int .i64 y, .slice xa xn xc] 33)) (.slice (some ⟨Y.heap.size, 0, none⟩) 1 1) [f] from by
      have := one_ll Y f (a := xa) (m := xn) (c := xc) (by rw [hf]) (by rw [hf]; exact hXV6.out.carry hY) (by rw [hf]; simp only; rw [← hxn]; have := hfew.out; omega)
      rw [hf] at this ⊢
      exact this)
    have hf' := Lib.hid hf
    generalize hrr : ((rootW M).toNat : Int) = r at *
    have hrr' := Lib.hid hrr
    have n0 := block_lt_of_cell e0
    simp only at n0
    have hz6' := Lib.hid hz6
    clear hf hxn hrr hz6
    go_cut [10, 11] (fun v1 v2 W => ∃ pb b1 b2, v1 = .pointer (some ⟨pb, 0, none⟩) ∧ v2 = .int .i64 0 ∧ Pa W pb b1 b2 (ht M.length) (valD [f] 1) (hashD (rootW M) (ht M.length) [f] 1) (1 + 1 * (1 + ht M.length)) ∧ (W6.heap.size ≤ pb ∧ W6.heap.size ≤ b1 ∧ W6.heap.size ≤ b2) ∧ Below W6.heap.size W6 W)
    case first =>
      have bD : Below W6.heap.size W6 W6.drew := (Below.refl _ W6).drew
      have bE : Below W6.heap.size W6 (W6.alloc (.cells #[.int .i64 (k : Int), .int .i64 y, .slice xa xn xc] 33)).drew := (alloc_below W6 _).drew
      have hLE := Lib.hid (show LL (W6.alloc (.cells #[.int .i64 (k : Int), .int .i64 y, .slice xa xn xc] 33)).drew (.slice (some ⟨W6.heap.size, 0, none⟩) 1 1) [f] from (hone.out W6 (Below.refl _ _)).carry (Below.refl _ _).drew)
      go_region_with (first
        | (go_at_call 14; with_reducible refine (kR.out _ bD).mono ?_; rintro e y1 ⟨rfl, hb1⟩; have hY := Lib.hid (below_step bD hb1); have l0 := carry hY.out e0; have l1 := carry hY.out e1; have l2 := carry hY.out e2; have hN := Lib.hid (hone.out y1 hY.out); clear hb1)
        | (go_at_call 14; with_reducible refine (kR.out _ bE).mono ?_; rintro e y1 ⟨rfl, hb1⟩; have hY := Lib.hid (below_step bE hb1); have hN := Lib.hid (hLE.out.carry hb1); clear hb1)
        | (go_at_call 26; with_reducible refine (kNP.out _ _ hN.out).mono ?_; rintro e y2 ⟨pb, b1, b2, rfl, hP2, hge, hb2⟩))
      all_goals
        go_wp2_with fail
        go_meet
        first
          | exact ⟨_, _, _, rfl, rfl, hP2, ge3 hY.out.size hge, below_step hY.out hb2⟩
          | exact ⟨_, _, _, rfl, rfl, hP2, ge3 (Nat.le_trans hY.out.size (by rw [World.size_alloc]; omega)) hge, below_step hY.out (below_step (alloc_below _ _) hb2)⟩
    obtain ⟨pb, b1, b2, h10, h11, hPa, ⟨ge0, ge1, ge2⟩, hbX⟩ := hcut
    subst h10
    subst h11
    obtain ⟨X, hX⟩ : ∃ V, V = wc := ⟨wc, rfl⟩
    subst hX
    have hPX := Lib.hid hPa
    have hTX := Lib.hid (hT6.out.carry hbX)
    have hBX := Lib.hid (below_step hB6.out hbX)
    have hLX := Lib.hid (hL6.out.below hbX)
    have hXX := Lib.hid (own_other hXo6.out (grown_of_below hbX) fun r e => by cases e)
    have hTlt := Lib.hid (fun r hr => hT6.out.lt (r := r) hr)
    have hX6 := hbX.size
    clear hPa hbX hT6 hB6 hL6 hXo6 hXV6 kR kNP hone e0 e1 e2
    have hw4 : w.heap.size ≤ W4.heap.size := hB4.out.size
    have hz6s : W6.heap.size = xb + 1 := hz6'.out
    have hz6t := Lib.hid hz6s
    clear hz6s hB4
    go_wp2_with fail
    go_loopw [12] (fun i wr => ∃ (t : Nat) (xs : List Value), t ≤ xn ∧ i = .int .i64 (t : Nat) ∧ Pa wr pb b1 b2 (ht M.length) (valD [f] 1) (hashD (rootW M) (ht M.length) [f] 1) (1 + 1 * (1 + ht M.length)) ∧ Tr wr b x M (rowsW M) ∧ LfB wr xb (k : Int) y (.slice xa xn xc) ∧ wr.ownsRow W4.heap.size 27 1 (.slice xa xn xc) xn xs ∧ (∀ u ∈ xs, ∃ z, u = .int .u64 z) ∧ Below w.heap.size w wr) (fun i _ => xn - (intOf i).toNat)
    case atStart => exact ⟨0, _, Nat.zero_le _, rfl, hPX.out, hTX.out, hLX.out, hXX.out, fun u hu => by obtain ⟨z, _, rfl⟩ := List.mem_map.1 hu; exact ⟨_, rfl⟩, hBX.out⟩
    case round =>
      obtain ⟨t, xs, htt, rfl, hP, hT, hL, hR, hxs, hB⟩ := hrel
      have hx16 := hfew.out
      have hP' := Lib.hid hP
      have hT' := Lib.hid hT
      have hL' := Lib.hid hL
      have hR' := Lib.hid hR
      have hB' := Lib.hid hB
      have hxs' := Lib.hid hxs
      have l2 := hL.c2
      clear hP hT hL hR hB hxs hPX hTX hLX hXX hBX
      by_cases hlt : t < xn
      · obtain ⟨gx, cx, e, _, gxS, _, _, hcells, hfz⟩ := own_form hR'.out (by omega)
        simp only [Value.slice.injEq] at e
        obtain ⟨rfl, hxx, rfl⟩ := e
        clear hxx
        obtain ⟨u, hu⟩ : ∃ u, xs[t]? = some u := ⟨_, List.getElem?_eq_getElem (by rw [hR'.out.1]; omega)⟩
        obtain ⟨z, rfl⟩ := hxs'.out u (List.mem_of_getElem? hu)
        have ct := CellsAt.at hcells hu
        have ft := hfz t
        obtain ⟨gx1, gx2⟩ := hXlt.out gx rfl
        have hP2 := Lib.hid (hP'.out.kept (grownBy_set wr ⟨gx, t, none⟩ (.int .u64 7)) fun r e => by have := hz6t.out; cases e; simp only; omega)
        have hT2 := Lib.hid (hT'.out.keep (w' := wr.setCell ⟨gx, t, none⟩ (.int .u64 7)) fun r hr => Below.heap_setCell _ _ _ _ (by have := hT4lt.out r hr; simp only; omega))
        have hL2 := Lib.hid (hL'.out.other (p := ⟨gx, t, none⟩) (by simp only; omega) (.int .u64 7))
        have hR2 := Lib.hid (own_set hR'.out hlt (.int .u64 7))
        have hB2 := Lib.hid (hB'.out.setCell (p := ⟨gx, t, none⟩) (by simp only; omega) (.int .u64 7))
        have hxs2 := Lib.hid (show ∀ u ∈ xs.set t (.int .u64 7), ∃ z, u = Value.int .u64 z from fun u hu => by
          rcases List.mem_or_eq_of_mem_set hu with h1 | h1
          · exact hxs'.out u h1
          · exact ⟨_, h1⟩)
        have hlt2 : (t : Int) < (xn : Int) := by omega
        clear hcells hfz hu
        go_wp2_with fail
        go_roundw
        case rel => exact ⟨t + 1, _, hlt, by go_num, hP2.out, hT2.out, hL2.out, hR2.out, hxs2.out, hB2.out⟩
        case measure => simp [intOf]; omega
      · obtain rfl : t = xn := by omega
        obtain ⟨Y, hY⟩ : ∃ V, V = wr := ⟨wr, rfl⟩
        subst hY
        have hkM : k < M.length := by rw [← hn'.out]; exact hkn
        obtain ⟨v1, v2, v3⟩ := valD_inv (root := rootW M) (n := M.length) (ls := [f]) 1 fun q _ => okL_of hofs.out q
        have hat := v3 0 f Nat.one_pos rfl (.lit (.int .i64 0))
        have hhas := (v2 (k : Int)).2 ⟨0, f, Nat.one_pos, rfl, by rw [hf'.out]⟩
        have hknown := hash_known hM.out hofs.out 1 (Nat.le_refl _)
        have hside := hknown.2 0 f Nat.one_pos rfl
        rw [hf'.out] at hat hside
        simp only [Int.toNat_natCast] at hat hside
        rw [← hf'.out] at hat hside
        have hh16 := ht_small (n := M.length) (by have := hM.out; omega)
        have hDm := hashD_map (rootW M) (ht M.length) [f] 1
        have kS := Lib.hid (partSet_any pb b1 b2 (ht M.length) _ _ _ k 5 y (fun t => nodeW M t (sib (k / 2 ^ t))) Y hP'.out (Nat.lt_of_lt_of_le hkM (ht_self _)) hh16 (by decide) (by omega) hat hhas hside)
        have hroot := Lib.hid (rse_known (v := 5) hDm hkM hM.out).1
        have hDm' := Lib.hid hDm
        have hwH := Lib.hid (wf_nat (k := ht M.length) (by omega))
        have hkM' := Lib.hid hkM
        generalize rse (hashD (rootW M) (ht M.length) [f] 1) k 5 (fun t => nodeW M t (sib (k / 2 ^ t))) (ht M.length + 1) = E2 at *
        clear v1 v2 v3 hat hhas hknown hside hDm hkM
        go_upto_region 18 with fail
        go_wp2_with fail
        refine (kS.out).mono ?_
        rintro e Y2 ⟨rfl, hP2, hM2⟩
        have hT2 := Lib.hid (hT'.out.keep (w' := Y2) fun r hr => hM2.block r (hT'.out.lt hr) (by have := hT4lt.out r hr; have := hz6t.out; omega))
        have hB2 := Lib.hid (hM2.toBelow hB'.out fun r hr ho => by have := hz6t.out; omega)
        have hP2' := Lib.hid hP2
        have hput : putC M (k : Int) 5 = M.set k 5 := by unfold putC; rw [if_pos ⟨by omega, by have := hkM'.out; omega⟩, Int.toNat_natCast]
        have kT := treeSet_any Y2 b x M (k : Int) 5 hT2.out hM.out
        rw [hput] at kT
        have kT' := Lib.hid kT
        clear hP2 hM2 hput kT kS l2
        go_wp2_with fail
        refine (kT'.out).mono ?_
        rintro e Y3 ⟨⟨u, rfl⟩, hT3, hM3⟩
        have hP3 := Lib.hid (hP2'.out.keep (w' := Y3) fun r hr => hM3.block r (by have := hP2'.out.lt; rcases hr with rfl | rfl | rfl <;> omega) (fun ho => by
          have h1 : r < W4.heap.size := hT4lt.out r (on_all ho)
          have := hz6t.out
          rcases hr with rfl | rfl | rfl <;> omega))
        have hB3 := Lib.hid (hM3.toBelow hB2.out fun r hr ho => by
          have h1 := hlow'.out r (on_all ho)
          have := hB1.out.size
          omega)
        have hT3' := Lib.hid hT3
        clear hT3 hM3
        have hl2 : (M.set k 5).length = M.length := List.length_set
        have hy2 : (M.set k 5)[k]? = some 5 := by rw [List.getElem?_set]; simp [hkM'.out]
        have kA := Lib.hid (partRoot_any pb b1 b2 (ht M.length) _ _ _ _ hwH.out Y3 hP3.out hroot.out)
        have kB := Lib.hid (fun Z (hZ : Below Y3.heap.size Y3 Z) => treeRoot_any Z b x (M.set k 5) (hT3'.out.carry hZ) (by rw [hl2]; exact hM.out))
        have hver := ver_proof hy2
        have hle : (proofW (M.set k 5) k (ht (M.set k 5).length)).length ≤ 1000 := by rw [proofW_len, hl2]; have := hh16; omega
        obtain ⟨q1, q2, q3⟩ := pr_in hy2
        have kQ := Lib.hid (fun Z (hZ : Below Y3.heap.size Y3 Z) => by
          have := treeProve_any Z b x (M.set k 5) (k : Int) (hT3'.out.carry hZ) (by rw [hl2]; exact hM.out)
          rw [q1, q2, q3] at this
          exact this)
        rw [hl2, ← hn'.out] at hver
        rw [hl2] at hle kQ
        rw [← hn'.out] at hle kQ
        generalize proofW (M.set k 5) k (ht n) = xl2 at *
        have kV := Lib.hid (fun Z pv (hZ : VL Z pv (u64s xl2)) => verify_any (rootW (M.set k 5)) n (k : Int) 5 pv xl2 Z hZ (by omega) hle)
        rw [hver] at kV
        generalize ((rootW (M.set k 5)).toNat : Int) = r2 at *
        have hr2 : (r2 == r2) = true := bq_self _
        clear hver hy2 hl2 q1 q2 q3 hle kT'
        go_wp2_with fail
        refine (kA.out).mono ?_
        rintro e z1 ⟨rfl, hb1⟩
        go_wp2_with fail
        refine (kB.out z1 hb1).mono ?_
        rintro e z2 ⟨rfl, hb2⟩
        have hc2 := Lib.hid (below_step hb1 hb2)
        clear hb1 hb2
        go_wp2_with fail
        refine (kB.out z2 hc2.out).mono ?_
        rintro e z3 ⟨rfl, hb3⟩
        have hc3 := Lib.hid (below_step hc2.out hb3)
        clear hb3
        go_wp2_with fail
        refine (kQ.out z3 hc3.out).mono ?_
        rintro e z4 ⟨pv, rfl, ho4, hb4⟩
        have hv4 := Lib.hid (VL.owned ho4)
        have hc4 := Lib.hid (below_step hc3.out hb4)
        obtain ⟨va, vc, rfl⟩ := own_slice ho4
        clear ho4 hb4
        go_wp2_with fail
        refine (kV.out z4 _ hv4.out).mono ?_
        rintro e z5 ⟨rfl, hb5⟩
        have hc5 := Lib.hid (below_step hc4.out hb5)
        clear hb5
        go_wp2_with fail
        refine (lives11_any _).mono ?_
        rintro e z6 ⟨rfl, hb6⟩
        go_wp2
        go_ret
        exact ⟨rfl, below_step hB3.out (below_step hc5.out hb6)⟩

set_option maxRecDepth 100000 in
theorem lifted (os : Os) (started : os.Started) (H : Type) (enc : TypeId × Value → H) :
    ReturnsInHanded {} Try.checked os 10 .any (Rows.merkleOwnSpec.pre6 enc Try.prog Try.f10 Rows.merkleOwnRow.domain false) (Rows.merkleOwnSpec.post enc Try.prog Try.f10 false true false false) := by
  refine returnsInHanded_of_change (C := Try.checked) own started (by kernel_rfl) Try.func10
    (ChangeSpec.witness6 (enc := enc) (C := Try.checked) false ⟨#[], #[.slice none 0 0, .int .i64 0], []⟩ 8 (by kernel_rfl) (by kernel_rfl) (by kernel_rfl) (by kernel_rfl)) ?_
  intro W base args ds gs before hval0 hW hcnd _
  have hval : ∀ (j : Nat) t v, Try.f10.params[j]? = some t → args[j]? = some v → Value.okWide Try.prog W .any base t v := hval0
  have hW' := hW
  obtain ⟨p, q, hA0, hV, rfl, hfz, hnd⟩ := hW
  have hA : DataW.TrodAll enc Try.prog W 0 (fun _ => true) true Try.f10.params.toList args.toList ds p := hA0
  rw [Try.params10] at hA hval
  have hAk := hA
  obtain ⟨v0, vs0, d0, ds0, p0, q0, hargs, rfl, hp0, h0, r0⟩ := trodAll_cons hA
  obtain ⟨v1, vs1, d1, ds1, p1, q1, rfl, rfl, hp1, h1, r1⟩ := trodAll_cons r0
  obtain ⟨rfl, rfl, -⟩ := trodAll_nil r1
  obtain rfl : args = #[v0, v1] := by cases args; simp_all
  obtain ⟨rfl, rfl⟩ := trodVars_none hV
  obtain ⟨x0, q0, c0, rfl⟩ := okWide_slice Try.underlying22 (hval 0 22 v0 rfl rfl)
  obtain ⟨fu0, fh0⟩ := h0
  obtain ⟨s0, Z0, l0, e0, H0, N0⟩ := open_int_cells2 Try.underlying22 Try.underlying3 (by kernel_rfl) fh0
  simp only [Value.cells, List.cons.injEq, and_true] at e0
  obtain rfl := e0.symm
  obtain ⟨a1, rfl, -, -, w1⟩ := open_int Try.underlying3 (hval 1 3 v1 rfl rfl) h1
  clear hA0 hval0
  simp only [List.append_nil] at hW'
  refine (walk W _ Z0 l0 H0 N0 a1 w1).mono fun e W' ⟨he, hb⟩ => ?_
  subst he
  exact ⟨_, rfl, kept_post (pa := p) hW' (fun _ _ _ => (trodAll_cons_mk (shut_bool Try.underlying4 _) trodAll_mk0)) (fun sp hsp => trodAll_stays laid hb (by rw [Try.params10]; decide +kernel) hAk (fun x hx => hW'.lt x hx) hsp) (fun _ => rfl) hb (ok_one (by kernel_rfl) rfl (okWide_bool_mk Try.underlying4 _))⟩

theorem over : Rows.merkleOwnRow.holds Try.pinned (OpenSpec.ofChange Rows.merkleOwnSpec) :=
  OpenClaim.holds_of_wide 10 Try.f10 rfl rfl rfl rfl rfl rfl rfl ⟨rfl, rfl, rfl, rfl, rfl⟩ rfl rfl rfl rfl rfl (by kernel_rfl) Try.func10 (by kernel_rfl)
    (of_decide_eq_true (by kernel_rfl)) (by unfold Func.isWrapper; first | (rw [if_pos (by decide +kernel)]; kernel_rfl) | (rw [if_neg (by decide +kernel)]; exact ⟨rfl, rfl⟩))
    (fun os started H enc _ => lifted os started H enc)

theorem proved : Rows.MerkleOwnSaid :=
  over
#print axioms proved
end Go.Proofs.Ythpdohfekillkaa.merkleOwn
