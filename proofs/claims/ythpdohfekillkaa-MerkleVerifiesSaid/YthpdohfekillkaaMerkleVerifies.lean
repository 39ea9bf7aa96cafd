/-
  package merkle, P11.2: for every root, number of cells and leaf (the first 8 elements of its proof), and for a valid proof over every list of cells (its first 20) of which one element is replaced, Verify answers as the definition says; whatever the arguments are.
-/
import Derived.Test.YthpdohfekillkaaRows
import Derived.WalkKit
import Derived.ProofKit
import Derived.OpenShut
import Derived.Test.YthpdohfekillkaaOpen
import Derived.Test.YthpdohfekillkaaOpenE
import Derived.Test.YthpdohfekillkaaOpenB
import Derived.Test.YthpdohfekillkaaMlM
namespace Go.Proofs.Ythpdohfekillkaa.merkleVerifies
open Go.ChangeShapes Go.WideShapes Go.ChangeAt Go.RowKit
set_option linter.unusedVariables false
set_option linter.unusedSimpArgs false

/-- What the copy leaves. -/
theorem raw_copy {w V w1 : World} {i v : Int} {pv : Value} {n : Nat} {a' : Option Addr} {c' : Nat} {xs : List Value} (hV : Below w.heap.size w V) (hzV : V.heap.size = w.heap.size + 1) (hA : LfB V w.heap.size i v pv)
    (ho : w1.ownsRow V.heap.size 27 1 (.slice a' n c') n xs) (hg : (V.alloc (.cells #[] 27)).grownBy w1 (Value.slice (some ⟨V.heap.size, 0, none⟩) 0 0).ownBlock) :
    LfB w1 w.heap.size i v pv ∧ LfB (w1.setCell ⟨w.heap.size, 2, none⟩ (.slice a' n c')) w.heap.size i v (.slice a' n c') ∧
    (w1.setCell ⟨w.heap.size, 2, none⟩ (.slice a' n c')).ownsRow V.heap.size 27 1 (.slice a' n c') n xs ∧ Below w.heap.size w (w1.setCell ⟨w.heap.size, 2, none⟩ (.slice a' n c')) := by
  have h1 := (hA.below (alloc_below V (.cells #[] 27))).grown hg (by simp [Value.ownBlock]; omega)
  have h3 := (hV.alloc hV.size (.cells #[] 27)).grown hg (by rw [World.size_alloc]; have := hV.size; omega) fun r e => by simp [Value.ownBlock] at e; omega
  exact ⟨h1, h1.set2 _, own_other ho (grownBy_set w1 _ _) (fun r e => by cases e; simp only; omega), h3.setCell (Nat.le_refl _) _⟩
theorem own : ownKnob Try.prog.godebug = none := by kernel_rfl
theorem laid : laidOutB Try.prog = true := by kernel_rfl

set_option maxRecDepth 100000 in
set_option maxHeartbeats 8000000 in
theorem walk (w : World) (a0 : Int) (w0 : (Lit.int .u64 a0).wf = true) (a1 : Int) (w1 : (Lit.int .i64 a1).wf = true) (a2_0 a2_1 : Int) (w2_0 : (Lit.int .i64 a2_0).wf = true) (w2_1 : (Lit.int .i64 a2_1).wf = true) (s2 : Value) (L2 : List W64) (H2 : VL w s2 (u64s L2)) (N2 : ∀ n c, s2 = .slice none n c → s2 = .slice none 0 0) (s3 : Value) (Z3 : Nat → Int) (l3 : Nat) (H3 : IntsAt w s3 1 Z3 l3) (N3 : ∀ n c, s3 = .slice none n c → s3 = .slice none 0 0) (a4 : Int) (w4 : (Lit.int .i64 a4).wf = true) (a5 : Int) (w5 : (Lit.int .i64 a5).wf = true) (a6 : Int) (w6 : (Lit.int .i64 a6).wf = true) :
    Calls Try.prog 5 #[.int .u64 a0, .int .i64 a1, .agg #[.int .i64 a2_0, .int .i64 a2_1, s2], s3, .int .i64 a4, .int .i64 a5, .int .i64 a6] w fun e w' => e = .returned (.bool true) ∧ Below w.heap.size w w' := by
  obtain ⟨rt, rfl⟩ := lit_word w0
  have hIL := IntsAt.il H3
  obtain ⟨M, hM⟩ : ∃ M, M = ((List.range l3).map Z3).take 20 := ⟨_, rfl⟩
  have hM20 : M.length ≤ 20 := by rw [hM, List.length_take]; omega
  have hM64 : All64 M := by rw [hM]; exact (ints_64 H3).take 20
  have hM' := Lib.hid hM
  have hIL' := Lib.hid hIL
  have N3' := N3
  clear hM hIL H3 N3
  obtain ⟨a, cap, rfl, p1, p2, p3⟩ := WL.shape H2
  have hN2 := Lib.hid (fun (e : a = none) => (by subst e; have := N2 _ _ rfl; simp only [Value.slice.injEq, true_and] at this; exact this : L2.length = 0 ∧ cap = 0))
  obtain ⟨n, hn⟩ : ∃ n, n = L2.length := ⟨_, rfl⟩
  rw [← hn] at p1 p3 hN2 ⊢
  have hn' := Lib.hid hn
  have hc := Lib.hid (fun (ad : Addr) (e : a = some ad) => (fun j u hu => by
    have hj := (List.getElem?_eq_some_iff.1 hu).1
    rw [u64s_len, ← hn'.out] at hj
    obtain ⟨g, off, e', _, hcc⟩ := p3 (by omega)
    rw [e] at e'
    cases e'
    rw [add_plain]
    unfold u64s at hu
    rw [List.getElem?_map] at hu
    obtain ⟨z, hz, rfl⟩ := Option.map_eq_some_iff.1 hu
    exact hcc j z hz : ∀ j u, (u64s L2)[j]? = some u → w.cell? (ad.add j) = some u))
  unfold maxLen at p2
  clear p3 H2 N2 hn
  obtain ⟨i0, hi0, hz0, hz1, hz2⟩ := info_parts info_word
  have hi0' := Lib.hid (And.intro hi0 (And.intro hz0 (And.intro hz1 hz2)))
  clear hi0 hz0 hz1 hz2
  have i2 := lit_i64 w2_0
  have v2 := lit_i64 w2_1
  have i4 := lit_i64 w4
  have i5 := lit_i64 w5
  have i6 := lit_i64 w6
  have i1 := lit_i64 w1
  go_enter Try.func5, Try.ntmps5
  go_upto_region 1 with fail
  obtain ⟨V, hV⟩ : ∃ V, V = w.alloc (.cells #[.int .i64 a2_0, .int .i64 a2_1, .slice a n cap] 33) := ⟨_, rfl⟩
  have hbV : Below w.heap.size w V := by rw [hV]; exact alloc_below _ _
  have hLV : LfB V w.heap.size a2_0 a2_1 (.slice a n cap) := by rw [hV]; exact LfB.new _ _ _ _
  rw [← hV]
  have hzV : V.heap.size = w.heap.size + 1 := by rw [hV]; simp
  clear hV
  have c0 := hLV.c0
  have c1 := hLV.c1
  have c2 := hLV.c2
  have f2 := hLV.fz 2
  have hq := Lib.hid (show (L2.take 8).length = (min (n : Int) 8).toNat from by rw [List.length_take, ← hn'.out]; omega)
  have hlw := Lib.hid (show (u64s (L2.take 8)).length = (min (n : Int) 8).toNat * 1 from by rw [u64s_len, hq.out, Nat.mul_one])
  have hmn := Lib.hid (show (min (n : Int) 8).toNat ≤ 8 from by omega)
  have h0 := Lib.hid (fun (e : a = none) => (by have := hN2.out e; exact ⟨by omega, this.2⟩ : (min (n : Int) 8).toNat = 0 ∧ cap = 0))
  have hcut := Lib.hid (fun (ad : Addr) (e : a = some ad) j u (hu : (u64s (L2.take 8))[j]? = some u) => hc.out ad e j u (by
    unfold u64s at hu ⊢
    rw [List.getElem?_map, List.getElem?_take] at hu
    split at hu
    · rw [List.getElem?_map]; exact hu
    · cases hu))
  have hL0 := Lib.hid hLV
  have hb0 := Lib.hid hbV
  have hz0 := Lib.hid hzV
  clear hLV hbV hc hN2
  go_upto_region 2 with (at_builtin; refine wpList_append_nilable rfl _ _ 31 rfl V.heap.size 27 i0 _ 1 8 Try.underlying31 hi0'.out.1 hi0'.out.2.1 hi0'.out.2.2.1 hi0'.out.2.2.2 rfl (by decide) (.slice (some ⟨V.heap.size, 0, none⟩) 0 0) 0 [] (by rw [hz0.out]; rfl) (World.ownsRow_made V #[] 0 (Nat.le_refl _) (Nat.zero_le _) rfl) a (min (n : Int) 8).toNat cap (u64s (L2.take 8)) rfl hlw.out h0.out (fun ad e j u hu => carry (below_step hb0.out (alloc_below V _)) (hcut.out ad e j u hu)) (u64s_one _) (by unfold maxLen; omega) (by omega) (size_more V _ (Nat.le_refl _)) ?_; intro v' u1 hown hgrow; rw [Nat.zero_add, List.nil_append] at hown; obtain ⟨a', c', rfl⟩ := own_slice hown; obtain ⟨r1, r2, r3, r4⟩ := raw_copy hb0.out hz0.out hL0.out hown hgrow; have d2 := r1.c2; have df := r1.fz 2; have hR := Lib.hid (And.intro r2 (And.intro r3 r4)); clear r1 r2 r3 r4 hown hgrow)
  generalize (min (n : Int) 8).toNat = q at *
  generalize u1.setCell ⟨w.heap.size, 2, none⟩ (.slice a' q c') = W1 at *
  clear c0 c1 c2 f2 d2 df hcut hL0 hb0 hz0 h0 hlw hzV
  obtain ⟨RL, hRL⟩ : ∃ RL, RL = L2.take 8 := ⟨_, rfl⟩
  rw [← hRL] at hq hR
  clear hRL
  have hV1 := Lib.hid (VL.owned hR.out.2.1)
  have hLf1 := Lib.hid hR.out.1
  have hB1 := Lib.hid hR.out.2.2
  clear hR
  have kC2 := Lib.hid (refCells_any s3 _ W1 (hIL'.out.carry hB1.out) N3')
  rw [← hM'.out] at kC2
  clear hM' hIL' N3'
  go_wp2_with fail
  refine (kC2.out).mono ?_
  rintro e W2 ⟨⟨cv, rfl, hoC⟩, hb2⟩
  have hIC := Lib.hid (IL.owned hoC)
  obtain ⟨ca, cc, rfl⟩ := own_slice hoC
  have hLf2 := Lib.hid (hLf1.out.below hb2)
  have hV2 := Lib.hid (hV1.out.carry hb2)
  have hB2 := Lib.hid (below_step hB1.out hb2)
  obtain ⟨nm, hnm⟩ : ∃ nm, nm = M.length := ⟨_, rfl⟩
  rw [← hnm] at hM20 hIC ⊢
  have hnm' := Lib.hid hnm
  clear hoC hb2 kC2 hLf1 hV1 hB1 hnm
  go_wp2_with fail
  refine (around_any a4 ((nm : Int) + 1) W2 i4.1 i4.2 (by omega)).mono ?_
  rintro e W3 ⟨rfl, rfl⟩
  have hk64 := Lib.hid (arnd_64 a4 (m := (nm : Int) + 1) (by omega) (by omega))
  generalize arnd a4 ((nm : Int) + 1) = k at *
  have hM1000 := Lib.hid (show M.length ≤ 1000 from by rw [← hnm'.out]; omega)
  have kP := Lib.hid (refProve_any (.slice ca nm cc) M k W2 hIC.out hM1000.out hk64.out)
  have x64 := Lib.hid (prI_64 hM1000.out k)
  have y64 := Lib.hid (prV_64 hM64 k)
  have zfew := Lib.hid (prL_few hM1000.out k)
  generalize prI M k = xi at *
  generalize prV M k = xv at *
  generalize prL M k = xl at *
  go_wp2_with fail
  refine (kP.out).mono ?_
  rintro e W4 ⟨xp, rfl, hoX, hb4⟩
  obtain ⟨xa, xc, rfl⟩ := own_slice hoX
  have hXn := Lib.hid (own_nil hoX)
  have hXV := Lib.hid (VL.owned hoX)
  go_upto_region 5 with fail
  obtain ⟨W5, hW5⟩ : ∃ W5, W5 = W4.alloc (.cells #[.int .i64 xi, .int .i64 xv, .slice xa xl.length xc] 33) := ⟨_, rfl⟩
  have hb5 : Below W4.heap.size W4 W5 := by rw [hW5]; exact alloc_below _ _
  have hLx : LfB W5 W4.heap.size xi xv (.slice xa xl.length xc) := by rw [hW5]; exact LfB.new _ _ _ _
  rw [← hW5]
  clear hW5
  have hb24 := below_step hb4 hb5
  have hLf5 := Lib.hid (hLf2.out.below hb24)
  have hV5 := Lib.hid (hV2.out.carry hb24)
  have hIC5 := Lib.hid (hIC.out.carry hb24)
  have hB5 := Lib.hid (below_step hB2.out hb24)
  have hXV5 := Lib.hid (hXV.out.carry hb5)
  have e0 := hLx.c0
  have e1 := hLx.c1
  have e2 := hLx.c2
  have hLx' := Lib.hid hLx
  generalize W4.heap.size = xb at *
  clear hoX hb4 hb5 hb24 hLf2 hV2 hIC hB2 hXV kP hLx
  have kBt := Lib.hid (refBent_any xi xv _ xl a5 a6 W5 hXV5.out hXn.out (by have := zfew.out; omega) x64.out y64.out i5 i6)
  go_wp2_with fail
  refine (kBt.out).mono ?_
  rintro e W6 ⟨yp, rfl, hoY, hb6⟩
  have hblen := Lib.hid (show (bL xl a5 a6).length = xl.length from by have := hoY.1; rw [u64s_len] at this; omega)
  have hYV := Lib.hid (VL.owned hoY)
  obtain ⟨ya, yc, rfl⟩ := own_slice hoY
  generalize bI xi xl a5 a6 = yi at *
  generalize bV xv xl a5 a6 = yv at *
  generalize bL xl a5 a6 = yl at *
  clear e0 e1 e2 kBt hoY
  go_upto_region 6 with fail
  obtain ⟨W7, hW7⟩ : ∃ W7, W7 = W6.alloc (.cells #[.int .i64 yi, .int .i64 yv, .slice ya xl.length yc] 33) := ⟨_, rfl⟩
  have hb7 : Below W6.heap.size W6 W7 := by rw [hW7]; exact alloc_below _ _
  have hLy : LfB W7 W6.heap.size yi yv (.slice ya xl.length yc) := by rw [hW7]; exact LfB.new _ _ _ _
  rw [← hW7]
  clear hW7
  have hb67 := below_step hb6 hb7
  have hLf7 := Lib.hid (hLf5.out.below hb67)
  have hLx7 := Lib.hid (hLx'.out.below hb67)
  have hV7 := Lib.hid (hV5.out.carry hb67)
  have hIC7 := Lib.hid (hIC5.out.carry hb67)
  have hB7 := Lib.hid (below_step hB5.out hb67)
  have hXV7 := Lib.hid (hXV5.out.carry hb67)
  have hYV7 := Lib.hid (hYV.out.carry hb7)
  have hLy' := Lib.hid hLy
  generalize W6.heap.size = yb at *
  clear hb6 hb7 hb67 hLf5 hLx' hV5 hIC5 hB5 hXV5 hYV hLy
  have kR := Lib.hid (refRoot_any _ M W7 hIC7.out (by have := hM1000.out; omega))
  generalize rootW M = rw at *
  go_wp2_with fail
  refine (kR.out).mono ?_
  rintro e W8 ⟨rfl, hb8⟩
  go_wp2_with fail
  refine (around_any a1 65537 W8 i1.1 i1.2 (by decide)).mono ?_
  rintro e W9 ⟨rfl, rfl⟩
  have hm := arnd_bd a1 (m := 65537) (by decide)
  generalize arnd a1 65537 = mm at *
  obtain ⟨m, rfl⟩ : ∃ m : Nat, mm = (m : Int) := ⟨mm.toNat, by omega⟩
  have hm2 : m ≤ 65536 := by omega
  have hLf8 := hLf7.out.below hb8
  have hLx8 := hLx7.out.below hb8
  have hLy8 := hLy'.out.below hb8
  have hV8 := Lib.hid (hV7.out.carry hb8)
  have hXV8 := Lib.hid (hXV7.out.carry hb8)
  have hYV8 := Lib.hid (hYV7.out.carry hb8)
  have hB8 := Lib.hid (below_step hB7.out hb8)
  clear hLf7 hLx7 hLy' hV7 hIC7 hB7 hXV7 hYV7 kR hb8
  have r0 := hLf8.c0
  have r1 := hLf8.c1
  have r2 := hLf8.c2
  have s0 := hLx8.c0
  have s1 := hLx8.c1
  have s2 := hLx8.c2
  have t0 := hLy8.c0
  have t1 := hLy8.c1
  have t2 := hLy8.c2
  have nmle : nm ≤ 65536 := by omega
  have k1 := Lib.hid (fun Z (hZ : VL Z (.slice a' q c') (u64s RL)) => And.intro (verify_any rt m a2_0 a2_1 _ RL Z hZ hm2 (by rw [hq.out]; have := hmn.out; omega)) (refVerify_any rt m a2_0 a2_1 _ RL Z hZ hm2 (by rw [hq.out]; have := hmn.out; omega)))
  have k2 := Lib.hid (fun Z (hZ : VL Z (.slice xa xl.length xc) (u64s xl)) => And.intro (verify_any rw nm xi xv _ xl Z hZ nmle (by have := zfew.out; omega)) (refVerify_any rw nm xi xv _ xl Z hZ nmle (by have := zfew.out; omega)))
  have k3 := Lib.hid (fun Z (hZ : VL Z (.slice ya xl.length yc) (u64s yl)) => And.intro (verify_any rw nm yi yv _ yl Z hZ nmle (by have := zfew.out; have := hblen.out; omega)) (refVerify_any rw nm yi yv _ yl Z hZ nmle (by have := zfew.out; have := hblen.out; omega)))
  have k4 := Lib.hid (fun Z (hZ : VL Z (.slice xa xl.length xc) (u64s xl)) => And.intro (verify_any rw m xi xv _ xl Z hZ hm2 (by have := zfew.out; omega)) (refVerify_any rw m xi xv _ xl Z hZ hm2 (by have := zfew.out; omega)))
  have k5 := Lib.hid lives11_any
  generalize verW rt m a2_0 a2_1 RL = z1 at *
  generalize verW rw nm xi xv xl = z2 at *
  generalize verW rw nm yi yv yl = z3 at *
  generalize verW rw m xi xv xl = z4 at *
  generalize (rw.toNat : Int) = rwn at *
  generalize xl.length = xn at *
  go_upto_region 8 with fail
  have n0 := block_lt_of_cell r0
  have n1 := block_lt_of_cell s0
  have n2 := block_lt_of_cell t0
  simp only at n0 n1 n2
  have zz1 : (z1 == z1) = true := beq_self_eq_true _
  have zz2 : (z2 == z2) = true := beq_self_eq_true _
  have zz3 : (z3 == z3) = true := beq_self_eq_true _
  have zz4 : (z4 == z4) = true := beq_self_eq_true _
  refine wp_region_made (by kernel_rfl) (by kernel_rfl) ?_
  intro W hK
  have g_r0 := fun x => carry ((hK.below x)) r0
  have g_r1 := fun x => carry ((hK.below x)) r1
  have g_r2 := fun x => carry ((hK.below x)) r2
  have g_s0 := fun x => carry ((hK.below x)) s0
  have g_s1 := fun x => carry ((hK.below x)) s1
  have g_s2 := fun x => carry ((hK.below x)) s2
  have g_t0 := fun x => carry ((hK.below x)) t0
  have g_t1 := fun x => carry ((hK.below x)) t1
  have g_t2 := fun x => carry ((hK.below x)) t2
  repeat (go_big_quiet_step ((first | (go_at_call 23; with_reducible exact met_made (k1.out _ (hV8.out.carry (hK.below _))).1) | (go_at_call 23; with_reducible exact met_made (k2.out _ (hXV8.out.carry (hK.below _))).1) | (go_at_call 24; with_reducible exact met_made (k1.out _ (hV8.out.carry (hK.below _))).2) | (go_at_call 24; with_reducible exact met_made (k2.out _ (hXV8.out.carry (hK.below _))).2))))
  refine wpQuiet_nil ?_
  intro wq hw'
  have hbq := kept_in hK hw'
  clear g_r0 g_r1 g_r2 g_s0 g_s1 g_s2 g_t0 g_t1 g_t2
  clear hw' hK W
  replace r0 := carry (hbq) r0
  replace r1 := carry (hbq) r1
  replace r2 := carry (hbq) r2
  replace s0 := carry (hbq) s0
  replace s1 := carry (hbq) s1
  replace s2 := carry (hbq) s2
  replace t0 := carry (hbq) t0
  replace t1 := carry (hbq) t1
  replace t2 := carry (hbq) t2
  have hB9 := Lib.hid (below_step hB8.out hbq)
  have hXV9 := Lib.hid (hXV8.out.carry hbq)
  have hYV9 := Lib.hid (hYV8.out.carry hbq)
  have hq8 := hbq.size
  clear hbq hV8 hXV8 hYV8 hB8 hLf8 hLx8 hLy8
  obtain ⟨U, hU⟩ : ∃ V, V = wq := ⟨wq, rfl⟩
  subst hU
  go_upto_region 10 with fail
  have n3 := block_lt_of_cell s0
  have n4 := block_lt_of_cell t0
  simp only at n3 n4
  refine wp_region_made (by kernel_rfl) (by kernel_rfl) ?_
  intro W hK
  have g_s0 := fun x => carry ((hK.below x)) s0
  have g_s1 := fun x => carry ((hK.below x)) s1
  have g_s2 := fun x => carry ((hK.below x)) s2
  have g_t0 := fun x => carry ((hK.below x)) t0
  have g_t1 := fun x => carry ((hK.below x)) t1
  have g_t2 := fun x => carry ((hK.below x)) t2
  repeat (go_big_quiet_step ((first | (go_at_call 23; with_reducible exact met_made (k3.out _ (hYV9.out.carry (hK.below _))).1) | (go_at_call 23; with_reducible exact met_made (k4.out _ (hXV9.out.carry (hK.below _))).1) | (go_at_call 24; with_reducible exact met_made (k3.out _ (hYV9.out.carry (hK.below _))).2) | (go_at_call 24; with_reducible exact met_made (k4.out _ (hXV9.out.carry (hK.below _))).2) | (go_at_call 20; with_reducible exact met_made (k5.out _)))))
  refine wpQuiet_nil ?_
  intro wq hw'
  have hbq := kept_in hK hw'
  clear g_s0 g_s1 g_s2 g_t0 g_t1 g_t2
  clear hw' hK W
  replace s0 := carry (hbq) s0
  replace s1 := carry (hbq) s1
  replace s2 := carry (hbq) s2
  replace t0 := carry (hbq) t0
  replace t1 := carry (hbq) t1
  replace t2 := carry (hbq) t2
  go_wp2
  go_ret
  exact ⟨rfl, below_step hB9.out hbq⟩

set_option maxRecDepth 100000 in
theorem lifted (os : Os) (started : os.Started) (H : Type) (enc : TypeId × Value → H) :
    ReturnsInHanded {} Try.checked os 5 .any (Rows.merkleVerifiesSpec.pre6 enc Try.prog Try.f5 Rows.merkleVerifiesRow.domain false) (Rows.merkleVerifiesSpec.post enc Try.prog Try.f5 false true false false) := by
  refine returnsInHanded_of_change (C := Try.checked) own started (by kernel_rfl) Try.func5
    (ChangeSpec.witness6 (enc := enc) (C := Try.checked) false ⟨#[], #[.int .u64 0, .int .i64 0, .agg #[.int .i64 0, .int .i64 0, .slice none 0 0], .slice none 0 0, .int .i64 0, .int .i64 0, .int .i64 0], []⟩ 8 (by kernel_rfl) (by kernel_rfl) (by kernel_rfl) (by kernel_rfl)) ?_
  intro W base args ds gs before hval0 hW hcnd _
  have hval : ∀ (j : Nat) t v, Try.f5.params[j]? = some t → args[j]? = some v → Value.okWide Try.prog W .any base t v := hval0
  have hW' := hW
  obtain ⟨p, q, hA0, hV, rfl, hfz, hnd⟩ := hW
  have hA : DataW.TrodAll enc Try.prog W 0 (fun _ => true) true Try.f5.params.toList args.toList ds p := hA0
  rw [Try.params5] at hA hval
  have hAk := hA
  obtain ⟨v0, vs0, d0, ds0, p0, q0, hargs, rfl, hp0, h0, r0⟩ := trodAll_cons hA
  obtain ⟨v1, vs1, d1, ds1, p1, q1, rfl, rfl, hp1, h1, r1⟩ := trodAll_cons r0
  obtain ⟨v2, vs2, d2, ds2, p2, q2, rfl, rfl, hp2, h2, r2⟩ := trodAll_cons r1
  obtain ⟨v3, vs3, d3, ds3, p3, q3, rfl, rfl, hp3, h3, r3⟩ := trodAll_cons r2
  obtain ⟨v4, vs4, d4, ds4, p4, q4, rfl, rfl, hp4, h4, r4⟩ := trodAll_cons r3
  obtain ⟨v5, vs5, d5, ds5, p5, q5, rfl, rfl, hp5, h5, r5⟩ := trodAll_cons r4
  obtain ⟨v6, vs6, d6, ds6, p6, q6, rfl, rfl, hp6, h6, r6⟩ := trodAll_cons r5
  obtain ⟨rfl, rfl, -⟩ := trodAll_nil r6
  obtain rfl : args = #[v0, v1, v2, v3, v4, v5, v6] := by cases args; simp_all
  obtain ⟨rfl, rfl⟩ := trodVars_none hV
  obtain ⟨a0, rfl, -, -, w0⟩ := open_int Try.underlying27 (hval 0 27 v0 rfl rfl) h0
  obtain ⟨a1, rfl, -, -, w1⟩ := open_int Try.underlying3 (hval 1 3 v1 rfl rfl) h1
  obtain ⟨a2_0, a2_1, s2, L2, rfl, w2_0, w2_1, H2, N2⟩ := open_leaf Try.underlying33 (by kernel_rfl) (by kernel_rfl) Try.underlying3 Try.underlying3 Try.underlying31 Try.underlying27 (by kernel_rfl) (hval 2 33 v2 rfl rfl) h2
  obtain ⟨x3, q3, c3, rfl⟩ := okWide_slice Try.underlying22 (hval 3 22 v3 rfl rfl)
  obtain ⟨fu3, fh3⟩ := h3
  obtain ⟨s3, Z3, l3, e3, H3, N3⟩ := open_int_cells2 Try.underlying22 Try.underlying3 (by kernel_rfl) fh3
  simp only [Value.cells, List.cons.injEq, and_true] at e3
  obtain rfl := e3.symm
  obtain ⟨a4, rfl, -, -, w4⟩ := open_int Try.underlying3 (hval 4 3 v4 rfl rfl) h4
  obtain ⟨a5, rfl, -, -, w5⟩ := open_int Try.underlying3 (hval 5 3 v5 rfl rfl) h5
  obtain ⟨a6, rfl, -, -, w6⟩ := open_int Try.underlying3 (hval 6 3 v6 rfl rfl) h6
  clear hA0 hval0
  simp only [List.append_nil] at hW'
  refine (walk W a0 w0 a1 w1 a2_0 a2_1 w2_0 w2_1 _ L2 H2 N2 _ Z3 l3 H3 N3 a4 w4 a5 w5 a6 w6).mono fun e W' ⟨he, hb⟩ => ?_
  subst he
  exact ⟨_, rfl, kept_post (pa := p) hW' (fun _ _ _ => (trodAll_cons_mk (shut_bool Try.underlying4 _) trodAll_mk0)) (fun sp hsp => trodAll_stays laid hb (by rw [Try.params5]; decide +kernel) hAk (fun x hx => hW'.lt x hx) hsp) (fun _ => rfl) hb (ok_one (by kernel_rfl) rfl (okWide_bool_mk Try.underlying4 _))⟩

theorem over : Rows.merkleVerifiesRow.holds Try.pinned (OpenSpec.ofChange Rows.merkleVerifiesSpec) :=
  OpenClaim.holds_of_wide 5 Try.f5 rfl rfl rfl rfl rfl rfl rfl ⟨rfl, rfl, rfl, rfl, rfl⟩ rfl rfl rfl rfl rfl (by kernel_rfl) Try.func5 (by kernel_rfl)
    (of_decide_eq_true (by kernel_rfl)) (by unfold Func.isWrapper; first | (rw [if_pos (by decide +kernel)]; kernel_rfl) | (rw [if_neg (by decide +kernel)]; exact ⟨rfl, rfl⟩))
    (fun os started H enc _ => lifted os started H enc)

theorem proved : Rows.MerkleVerifiesSaid :=
  over
#print axioms proved
end Go.Proofs.Ythpdohfekillkaa.merkleVerifies
