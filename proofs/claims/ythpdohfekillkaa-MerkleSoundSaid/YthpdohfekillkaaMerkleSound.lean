/-
  package merkle, P11.6: for every list of cells (its first 20), the proof of any of its cells verifies, and no longer does when its value, or one of its hashes, is replaced by a different one; the section's example holds; whatever the arguments are.
-/
import Derived.Test.YthpdohfekillkaaRows
import Derived.WalkKit
import Derived.ProofKit
import Derived.OpenShut
import Derived.Test.YthpdohfekillkaaOpen
import Derived.Test.YthpdohfekillkaaOpenB
import Derived.Test.YthpdohfekillkaaMlM
namespace Go.Proofs.Ythpdohfekillkaa.merkleSound
open Go.ChangeShapes Go.WideShapes Go.ChangeAt Go.RowKit
set_option linter.unusedVariables false
set_option linter.unusedSimpArgs false


theorem own : ownKnob Try.prog.godebug = none := by kernel_rfl
theorem laid : laidOutB Try.prog = true := by kernel_rfl

set_option maxRecDepth 100000 in
set_option maxHeartbeats 8000000 in
theorem walk (w : World) (s0 : Value) (Z0 : Nat → Int) (l0 : Nat) (H0 : IntsAt w s0 1 Z0 l0) (N0 : ∀ n c, s0 = .slice none n c → s0 = .slice none 0 0) (a1 : Int) (w1 : (Lit.int .i64 a1).wf = true) (a2 : Int) (w2 : (Lit.int .i64 a2).wf = true) (a3 : Int) (w3 : (Lit.int .i64 a3).wf = true) :
    Calls Try.prog 7 #[s0, .int .i64 a1, .int .i64 a2, .int .i64 a3] w fun e w' => e = .returned (.bool true) ∧ Below w.heap.size w w' := by
  obtain ⟨M, hM20, hM64, kC0⟩ := cells11 H0 N0
  have kC := Lib.hid kC0
  have i1 := lit_i64 w1
  have i2 := lit_i64 w2
  have i3 := lit_i64 w3
  clear kC0
  have hM := Lib.hid (show M.length ≤ 1000 from by omega)
  go_enter Try.func7, Try.ntmps7
  go_wp2_with fail
  refine (kC.out w (Below.refl _ _)).mono ?_
  rintro e W1 ⟨ca, cc, rfl, hI1, _, hb1⟩
  have kN := Lib.hid (new_any _ M W1 hI1 hM.out)
  have hI := Lib.hid hI1
  obtain ⟨n, hn⟩ : ∃ n, n = M.length := ⟨_, rfl⟩
  rw [← hn] at hI kN hM20 ⊢
  have hn' := Lib.hid hn
  clear hn hI1 kC
  by_cases h0 : n = 0
  · subst h0
    have hz : (((0 : Nat) : Int) == 0) = true := rfl
    go_wp2_with fail
    refine (lives11_any _).mono ?_
    rintro e W2 ⟨rfl, hb2⟩
    go_wp2
    go_ret
    exact ⟨rfl, below_step hb1 hb2⟩
  · have hz : ((n : Int) == 0) = false := by simp only [beq_eq_false_iff_ne, ne_eq]; omega
    have hz2 : ¬ (n : Int) = 0 := by omega
    go_wp2_with fail
    refine (kN.out).mono ?_
    rintro e W2 ⟨b, x, rfl, hT1, _, hb2⟩
    have hT := Lib.hid hT1
    have hB2 := Lib.hid (below_step hb1 hb2)
    clear hT1 hb2 hb1 kN hI
    go_wp2_with fail
    refine (around_any a1 (n : Int) W2 i1.1 i1.2 (by omega)).mono ?_
    rintro e W3 ⟨rfl, rfl⟩
    have hk := arnd_bd a1 (m := (n : Int)) (by omega)
    generalize arnd a1 (n : Int) = k0 at *
    obtain ⟨k, rfl⟩ : ∃ k : Nat, k0 = (k : Int) := ⟨k0.toNat, by omega⟩
    obtain ⟨y, hy⟩ : ∃ y, M[k]? = some y := ⟨_, List.getElem?_eq_getElem (by rw [← hn'.out]; omega)⟩
    have kP := treeProve_any W2 b x M (k : Int) hT.out hM.out
    obtain ⟨q1, q2, q3⟩ := pr_in hy
    rw [q1, q2, q3] at kP
    clear q1 q2 q3
    have hver := ver_proof hy
    have hy64 := Lib.hid (hM64.at hy)
    have hfew := (show (proofW M k (ht M.length)).length ≤ 16 from by rw [proofW_len]; exact ht_small (by rw [← hn'.out]; omega))
    rw [← hn'.out] at hver kP hfew
    generalize proofW M k (ht n) = xl at *
    replace hver := hver
    have hkl := Lib.hid (show (k : Int) < (n : Int) from by omega)
    have kP' := Lib.hid kP
    clear hk kP hy
    go_wp2_with fail
    refine (kP'.out).mono ?_
    rintro e W4 ⟨xp, rfl, hoX, hb4⟩
    have hXn := Lib.hid (own_nil hoX)
    have hXV := Lib.hid (VL.owned hoX)
    obtain ⟨xa, xc, rfl⟩ := own_slice hoX
    go_upto_region 8 with fail
    obtain ⟨W5, hW5⟩ : ∃ W5, W5 = W4.alloc (.cells #[.int .i64 (k : Int), .int .i64 y, .slice xa xl.length xc] 33) := ⟨_, rfl⟩
    have hb5 : Below W4.heap.size W4 W5 := by rw [hW5]; exact alloc_below _ _
    have hLx : LfB W5 W4.heap.size (k : Int) y (.slice xa xl.length xc) := by rw [hW5]; exact LfB.new _ _ _ _
    rw [← hW5]
    clear hW5
    have hb24 := below_step hb4 hb5
    have hT5 := Lib.hid (hT.out.carry hb24)
    have hB5 := Lib.hid (below_step hB2.out hb24)
    have hXV5 := Lib.hid (hXV.out.carry hb5)
    have e0 := hLx.c0
    have e1 := hLx.c1
    have e2 := hLx.c2
    have hLx' := Lib.hid hLx
    generalize W4.heap.size = xb at *
    clear hoX hb4 hb5 hb24 hT hB2 hXV kP' hLx
    obtain ⟨xn, hxn⟩ : ∃ xn, xn = xl.length := ⟨_, rfl⟩
    rw [← hxn] at hfew hXn hXV5 hLx' e2 ⊢
    have hXn2 := hXn
    have hxn' := Lib.hid hxn
    have hf16 := hfew
    have hh := arnd_bd a2 (m := 1 + (xn : Int)) (by omega)
    have kA := Lib.hid (fun W => around_any a2 (1 + (xn : Int)) W i2.1 i2.2 (by omega))
    have hsb := Lib.hid (sound_bent (h := 1 + arnd a2 (1 + (xn : Int))) a3 hver hy64.out (by omega) (by rw [← hxn]; omega))
    generalize arnd a2 (1 + (xn : Int)) = h0 at *
    have hh0 : 0 ≤ h0 := hh.1
    have hh1 : h0 < 1 + (xn : Int) := hh.2
    have hXV6 : VL W5 (.slice xa xn xc) (u64s xl) := hXV5.out
    have hXV5' := Lib.hid hXV6
    have kB := Lib.hid (fun Z (hZ : Below W5.heap.size W5 Z) => refBent_any (k : Int) y (.slice xa xn xc) xl (1 + h0) a3 Z (hXV6.carry hZ) hXn.out (by rw [← hxn]; omega) (by have := hkl.out; unfold I64; omega) hy64.out (by unfold I64; omega) i3)
    have hyl := Lib.hid (show ∀ l : List W64, True from fun _ => trivial)
    generalize bI (k : Int) xl (1 + h0) a3 = yi at *
    generalize bV y xl (1 + h0) a3 = yv at *
    generalize hylq : bL xl (1 + h0) a3 = yl at *
    have hylen := Lib.hid (show yl.length = xn from by rw [← hylq]; unfold bL; split <;> simp [hxn'.out])
    have n0 := block_lt_of_cell e0
    simp only at n0
    have hwr1 : IntKind.i64.wrap (1 + (xn : Int)) = 1 + (xn : Int) := by rw [IntKind.wrap_i64]; omega
    have hwr2 : IntKind.i64.wrap (1 + h0) = 1 + h0 := by rw [IntKind.wrap_i64]; omega
    clear hylq hyl hxn hXV5 hXV6
    go_cut [12] (fun v W => ∃ B pv, v = .pointer (some ⟨B, 0, none⟩) ∧ LfB W B yi yv pv ∧ VL W pv (u64s yl) ∧ Below W5.heap.size W5 W)
    case first =>
      have bD : Below W5.heap.size W5 W5.drew := (Below.refl _ W5).drew
      have bE : Below W5.heap.size W5 (W5.alloc (.cells #[.int .i64 0, .int .i64 0, .slice none 0 0] 33)).drew := (alloc_below W5 _).drew
      have hZ0 := Lib.hid (show LfB (W5.alloc (.cells #[.int .i64 0, .int .i64 0, .slice none 0 0] 33)).drew W5.heap.size 0 0 (.slice none 0 0) from LfB.new W5 0 0 _)
      go_region_with (first
        | (go_at_call 13; with_reducible refine (kA.out _).mono ?_; rintro e y1 ⟨rfl, rfl⟩)
        | (go_at_call 22; with_reducible refine (kB.out _ bD).mono ?_; rintro e y2 ⟨yp, rfl, ho2, hb2⟩; have hY := Lib.hid (below_step bD hb2); have hYV := Lib.hid (VL.owned ho2); obtain ⟨ya, yc, rfl⟩ := own_slice ho2; clear hb2 ho2)
        | (go_at_call 22; with_reducible refine (kB.out _ bE).mono ?_; rintro e y2 ⟨yp, rfl, ho2, hb2⟩; have hY := Lib.hid (below_step bE hb2); have hYV := Lib.hid (VL.owned ho2); have hZ := Lib.hid (hZ0.out.below hb2); have hne := Lib.hid (own_after ho2); obtain ⟨ya, yc, rfl⟩ := own_slice ho2; have z0 := hZ.out.c0; have z1 := hZ.out.c1; have z2 := hZ.out.c2; have z3 := hZ.out.fz 0; have z4 := hZ.out.fz 1; have z5 := hZ.out.fz 2; clear hb2 ho2))
      all_goals
        go_wp2_with fail
        go_meet
        first
          | exact ⟨_, _, rfl, LfB.new _ _ _ _, hYV.out.carry (alloc_below _ _), below_step hY.out (alloc_below _ _)⟩
          | exact ⟨_, _, rfl, hZ.out.put3 _ _ _, ((hYV.out.set _ hne.out).set _ hne.out).set _ hne.out, ((hY.out.setCell (Nat.le_refl _) _).setCell (Nat.le_refl _) _).setCell (Nat.le_refl _) _⟩
    obtain ⟨B, pv, rfl, hLy, hVy, hb6⟩ := hcut
    obtain ⟨X, hX⟩ : ∃ V, V = wc := ⟨wc, rfl⟩
    subst hX
    have hTX := Lib.hid (hT5.out.carry hb6)
    have hBX := Lib.hid (below_step hB5.out hb6)
    have hLX := hLx'.out.below hb6
    have hXVX := Lib.hid (hXV5'.out.carry hb6)
    have hVy' := Lib.hid hVy
    obtain ⟨ya, yc, rfl, _, _, _⟩ := WL.shape hVy
    rw [hylen.out] at hVy' hLy
    have r0 := hLX.c0
    have r1 := hLX.c1
    have r2 := hLX.c2
    have s0' := hLy.c0
    have s1' := hLy.c1
    have s2' := hLy.c2
    have m0 := block_lt_of_cell r0
    have m1 := block_lt_of_cell s0'
    simp only at m0 m1
    have nle : n ≤ 65536 := by omega
    have k1 := Lib.hid (fun Z (hZ : Below X.heap.size X Z) => treeRoot_any Z b x M (hTX.out.carry hZ) hM.out)
    have k2 := Lib.hid (fun Z (hZ : Below X.heap.size X Z) => verify_any (rootW M) n (k : Int) y (.slice xa xn xc) xl Z (hXVX.out.carry hZ) nle (by rw [← hxn'.out]; omega))
    have k3 := Lib.hid (fun Z (hZ : Below X.heap.size X Z) => verify_any (rootW M) n yi yv (.slice ya xn yc) yl Z (hVy'.out.carry hZ) nle (by rw [hylen.out]; omega))
    rw [hver] at k2
    rw [hsb.out] at k3
    have k5 := Lib.hid lives11_any
    generalize ((rootW M).toNat : Int) = r at *
    clear e0 e1 e2 hLX hLy hVy hver kA kB hsb
    go_upto_region 9 with fail
    refine wp_region_made (by kernel_rfl) (by kernel_rfl) ?_
    intro W hK
    have g_r0 := fun x => carry ((hK.below x)) r0
    have g_r1 := fun x => carry ((hK.below x)) r1
    have g_r2 := fun x => carry ((hK.below x)) r2
    have g_s0' := fun x => carry ((hK.below x)) s0'
    have g_s1' := fun x => carry ((hK.below x)) s1'
    have g_s2' := fun x => carry ((hK.below x)) s2'
    repeat (go_big_quiet_step ((first | (go_at_call 14; with_reducible exact met_made (k1.out _ (hK.below _))) | (go_at_call 23; with_reducible exact met_made (k2.out _ (hK.below _))) | (go_at_call 23; with_reducible exact met_made (k3.out _ (hK.below _))) | (go_at_call 20; with_reducible exact met_made (k5.out _)))))
    refine wpQuiet_nil ?_
    intro wq hw'
    have hbq := kept_in hK hw'
    clear g_r0 g_r1 g_r2 g_s0' g_s1' g_s2'
    clear hw' hK W
    replace r0 := carry (hbq) r0
    replace r1 := carry (hbq) r1
    replace r2 := carry (hbq) r2
    replace s0' := carry (hbq) s0'
    replace s1' := carry (hbq) s1'
    replace s2' := carry (hbq) s2'
    go_wp2
    go_ret
    exact ⟨rfl, below_step hBX.out hbq⟩

set_option maxRecDepth 100000 in
theorem lifted (os : Os) (started : os.Started) (H : Type) (enc : TypeId × Value → H) :
    ReturnsInHanded {} Try.checked os 7 .any (Rows.merkleSoundSpec.pre6 enc Try.prog Try.f7 Rows.merkleSoundRow.domain false) (Rows.merkleSoundSpec.post enc Try.prog Try.f7 false true false false) := by
  refine returnsInHanded_of_change (C := Try.checked) own started (by kernel_rfl) Try.func7
    (ChangeSpec.witness6 (enc := enc) (C := Try.checked) false ⟨#[], #[.slice none 0 0, .int .i64 0, .int .i64 0, .int .i64 0], []⟩ 8 (by kernel_rfl) (by kernel_rfl) (by kernel_rfl) (by kernel_rfl)) ?_
  intro W base args ds gs before hval0 hW hcnd _
  have hval : ∀ (j : Nat) t v, Try.f7.params[j]? = some t → args[j]? = some v → Value.okWide Try.prog W .any base t v := hval0
  have hW' := hW
  obtain ⟨p, q, hA0, hV, rfl, hfz, hnd⟩ := hW
  have hA : DataW.TrodAll enc Try.prog W 0 (fun _ => true) true Try.f7.params.toList args.toList ds p := hA0
  rw [Try.params7] at hA hval
  have hAk := hA
  obtain ⟨v0, vs0, d0, ds0, p0, q0, hargs, rfl, hp0, h0, r0⟩ := trodAll_cons hA
  obtain ⟨v1, vs1, d1, ds1, p1, q1, rfl, rfl, hp1, h1, r1⟩ := trodAll_cons r0
  obtain ⟨v2, vs2, d2, ds2, p2, q2, rfl, rfl, hp2, h2, r2⟩ := trodAll_cons r1
  obtain ⟨v3, vs3, d3, ds3, p3, q3, rfl, rfl, hp3, h3, r3⟩ := trodAll_cons r2
  obtain ⟨rfl, rfl, -⟩ := trodAll_nil r3
  obtain rfl : args = #[v0, v1, v2, v3] := by cases args; simp_all
  obtain ⟨rfl, rfl⟩ := trodVars_none hV
  obtain ⟨x0, q0, c0, rfl⟩ := okWide_slice Try.underlying22 (hval 0 22 v0 rfl rfl)
  obtain ⟨fu0, fh0⟩ := h0
  obtain ⟨s0, Z0, l0, e0, H0, N0⟩ := open_int_cells2 Try.underlying22 Try.underlying3 (by kernel_rfl) fh0
  simp only [Value.cells, List.cons.injEq, and_true] at e0
  obtain rfl := e0.symm
  obtain ⟨a1, rfl, -, -, w1⟩ := open_int Try.underlying3 (hval 1 3 v1 rfl rfl) h1
  obtain ⟨a2, rfl, -, -, w2⟩ := open_int Try.underlying3 (hval 2 3 v2 rfl rfl) h2
  obtain ⟨a3, rfl, -, -, w3⟩ := open_int Try.underlying3 (hval 3 3 v3 rfl rfl) h3
  clear hA0 hval0
  simp only [List.append_nil] at hW'
  refine (walk W _ Z0 l0 H0 N0 a1 w1 a2 w2 a3 w3).mono fun e W' ⟨he, hb⟩ => ?_
  subst he
  exact ⟨_, rfl, kept_post (pa := p) hW' (fun _ _ _ => (trodAll_cons_mk (shut_bool Try.underlying4 _) trodAll_mk0)) (fun sp hsp => trodAll_stays laid hb (by rw [Try.params7]; decide +kernel) hAk (fun x hx => hW'.lt x hx) hsp) (fun _ => rfl) hb (ok_one (by kernel_rfl) rfl (okWide_bool_mk Try.underlying4 _))⟩

theorem over : Rows.merkleSoundRow.holds Try.pinned (OpenSpec.ofChange Rows.merkleSoundSpec) :=
  OpenClaim.holds_of_wide 7 Try.f7 rfl rfl rfl rfl rfl rfl rfl ⟨rfl, rfl, rfl, rfl, rfl⟩ rfl rfl rfl rfl rfl (by kernel_rfl) Try.func7 (by kernel_rfl)
    (of_decide_eq_true (by kernel_rfl)) (by unfold Func.isWrapper; first | (rw [if_pos (by decide +kernel)]; kernel_rfl) | (rw [if_neg (by decide +kernel)]; exact ⟨rfl, rfl⟩))
    (fun os started H enc _ => lifted os started H enc)

theorem proved : Rows.MerkleSoundSaid :=
  over
#print axioms proved
end Go.Proofs.Ythpdohfekillkaa.merkleSound
