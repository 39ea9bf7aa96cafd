/-
  package merkle, P11.5: for every list of cells (its first 20), every proof that Prove returns verifies for the root, before and after an assignment to any cell, has as many elements as the tree has levels below the root, and bears its index; the section's example holds; whatever the arguments are.
-/
import Derived.Test.YthpdohfekillkaaRows
import Derived.WalkKit
import Derived.ProofKit
import Derived.OpenShut
import Derived.Test.YthpdohfekillkaaOpen
import Derived.Test.YthpdohfekillkaaOpenB
import Derived.Test.YthpdohfekillkaaMlM
namespace Go.Proofs.Ythpdohfekillkaa.merkleComplete
open Go.ChangeShapes Go.WideShapes Go.ChangeAt Go.RowKit
set_option linter.unusedVariables false
set_option linter.unusedSimpArgs false


theorem own : ownKnob Try.prog.godebug = none := by kernel_rfl
theorem laid : laidOutB Try.prog = true := by kernel_rfl

set_option maxRecDepth 100000 in
set_option maxHeartbeats 8000000 in
theorem walk (w : World) (s0 : Value) (Z0 : Nat → Int) (l0 : Nat) (H0 : IntsAt w s0 1 Z0 l0) (N0 : ∀ n c, s0 = .slice none n c → s0 = .slice none 0 0) (a1 : Int) (w1 : (Lit.int .i64 a1).wf = true) (a2 : Int) (w2 : (Lit.int .i64 a2).wf = true) :
    Calls Try.prog 6 #[s0, .int .i64 a1, .int .i64 a2] w fun e w' => e = .returned (.bool true) ∧ Below w.heap.size w w' := by
  obtain ⟨M, hM20, hM64, kC0⟩ := cells11 H0 N0
  have kC := Lib.hid kC0
  have i1 := lit_i64 w1
  clear kC0
  have hM := Lib.hid (show M.length ≤ 1000 from by omega)
  go_enter Try.func6, Try.ntmps6
  go_wp2_with fail
  refine (kC.out w (Below.refl _ _)).mono ?_
  rintro e W1 ⟨ca, cc, rfl, hI1, _, hb1⟩
  have kN := Lib.hid (new_any _ M W1 hI1 hM.out)
  obtain ⟨n, hn⟩ : ∃ n, n = M.length := ⟨_, rfl⟩
  rw [← hn] at kN hM20 ⊢
  have hn' := Lib.hid hn
  clear hn hI1 kC
  go_wp2_with fail
  refine (kN.out).mono ?_
  rintro e W2 ⟨b, x, rfl, hT1, hlow, hb2⟩
  have hT := Lib.hid hT1
  have hB2 := Lib.hid (below_step hb1 hb2)
  have hon := Lib.hid (show ∀ r, x.on (ht n) r → w.heap.size ≤ r from fun r hr => by
    have h1 := hlow r (by rcases hr with h | ⟨t, h, e⟩
                          · exact .inr (.inl h)
                          · exact .inr (.inr (.inr ⟨t, h, e⟩)))
    have h2 := hb1.size
    omega)
  clear hT1 hb2 hb1 kN hlow
  go_wp2_with fail
  go_loopw [9] (fun i wr => ∃ (t : Nat) (C : List Int), t ≤ 2 ∧ i = .int .i64 (t : Nat) ∧ C.length = n ∧ Tr wr b x C (rowsW C) ∧ Below w.heap.size w wr) (fun i _ => 2 - (intOf i).toNat)
  case atStart => exact ⟨0, M, by omega, rfl, hn'.out.symm, hT.out, hB2.out⟩
  case round =>
    obtain ⟨t, C, ht2, rfl, hCn, hTr, hBr⟩ := hrel
    have hC := Lib.hid hCn
    have hT2 := Lib.hid hTr
    have hB3 := Lib.hid hBr
    clear hCn hTr hBr hT hB2
    by_cases hlt : t < 2
    · have hlt' : (t : Int) < 2 := by omega
      obtain ⟨X, hX⟩ : ∃ V, V = wr := ⟨wr, rfl⟩
      subst hX
      have hC1000 := Lib.hid (show C.length ≤ 1000 from by rw [hC.out]; omega)
      have k1 := Lib.hid (fun Z (hZ : Below X.heap.size X Z) => treeRoot_any Z b x C (hT2.out.carry hZ) hC1000.out)
      have k3 := Lib.hid (fun Z => refHeight_any n Z (by omega))
      generalize hrt : ((rootW C).toNat : Int) = r at *
      have hrt' := Lib.hid hrt
      clear hrt
      go_wp2_with fail
      go_loopw [10] (fun j wr => ∃ (k : Nat), k ≤ n ∧ j = .int .i64 (k : Nat) ∧ Below X.heap.size X wr) (fun j _ => n - (intOf j).toNat)
      case atStart => exact ⟨0, Nat.zero_le _, rfl, Below.refl _ _⟩
      case round =>
        obtain ⟨k, hk, rfl, hb⟩ := hrel
        have hb' := Lib.hid hb
        clear hb
        by_cases hkn : k < n
        · obtain ⟨y, hy⟩ : ∃ y, C[k]? = some y := ⟨_, List.getElem?_eq_getElem (by rw [hC.out]; exact hkn)⟩
          have kP := treeProve_any wr b x C (k : Int) (hT2.out.carry hb'.out) hC1000.out
          obtain ⟨q1, q2, q3⟩ := pr_in hy
          rw [q1, q2, q3] at kP
          clear q1 q2 q3
          have hver := ver_proof hy
          have hlen : (proofW C k (ht C.length)).length = ht n := by rw [proofW_len, hC.out]
          rw [hC.out] at hver kP hlen
          generalize proofW C k (ht n) = xl at *
          rw [hlen] at kP
          have hlen' := Lib.hid hlen
          have h16 := ht_small (n := n) (by omega)
          generalize ht n = H at *
          have hHH : ((H : Int) == (H : Int)) = true := bq_self _
          have hkk : ((k : Int) == (k : Int)) = true := bq_self _
          have kP' := Lib.hid kP
          clear kP hlen hy
          go_wp2_with fail
          refine (kP'.out).mono ?_
          rintro e W4 ⟨xp, rfl, hoX, hb4⟩
          have hXV := Lib.hid (VL.owned hoX)
          obtain ⟨xa, xc, rfl⟩ := own_slice hoX
          go_upto_region 12 with fail
          obtain ⟨W5, hW5⟩ : ∃ W5, W5 = W4.alloc (.cells #[.int .i64 (k : Int), .int .i64 y, .slice xa H xc] 33) := ⟨_, rfl⟩
          have hb5 : Below W4.heap.size W4 W5 := by rw [hW5]; exact alloc_below _ _
          have hLx : LfB W5 W4.heap.size (k : Int) y (.slice xa H xc) := by rw [hW5]; exact LfB.new _ _ _ _
          rw [← hW5]
          clear hW5
          have hb6 := Lib.hid (below_step hb'.out (below_step hb4 hb5))
          have hXV5 := Lib.hid (hXV.out.carry hb5)
          have e0 := hLx.c0
          have e1 := hLx.c1
          have e2 := hLx.c2
          have n0 := block_lt_of_cell e0
          simp only at n0
          have k2 := Lib.hid (fun Z (hZ : Below W5.heap.size W5 Z) => verify_any (rootW C) n (k : Int) y (.slice xa H xc) xl Z (hXV5.out.carry hZ) (by omega) (by rw [hlen'.out]; omega))
          rw [hver, hrt'.out] at k2
          generalize W4.heap.size = xb at *
          clear hLx hb4 hb5 hXV hoX hver kP'
          refine wp_region_made (by kernel_rfl) (by kernel_rfl) ?_
          intro W hK
          have g_e0 := fun x => carry ((hK.below x)) e0
          have g_e1 := fun x => carry ((hK.below x)) e1
          have g_e2 := fun x => carry ((hK.below x)) e2
          repeat (go_big_quiet_step ((first | (go_at_call 14; with_reducible exact met_made (k1.out _ (below_step hb6.out (hK.below _)))) | (go_at_call 23; with_reducible exact met_made (k2.out _ (hK.below _))) | (go_at_call 25; with_reducible exact met_same (k3.out _)))))
          refine wpQuiet_nil ?_
          intro wq hw'
          have hbq := kept_in hK hw'
          clear g_e0 g_e1 g_e2
          clear hw' hK W
          replace e0 := carry (hbq) e0
          replace e1 := carry (hbq) e1
          replace e2 := carry (hbq) e2
          go_wp2
          go_roundw
          case rel => exact ⟨k + 1, hkn, by go_num, below_step hb6.out hbq⟩
          case measure => simp [intOf]; omega
        · obtain rfl : k = n := by omega
          have hT4 := Lib.hid (hT2.out.carry hb'.out)
          have hB4 := Lib.hid (below_step hB3.out hb'.out)
          go_wp2_with fail
          refine (around_any a1 ((k : Int) + 1) wr i1.1 i1.2 (by omega)).mono ?_
          rintro e W3 ⟨rfl, rfl⟩
          generalize arnd a1 ((k : Int) + 1) = i at *
          go_wp2_with fail
          refine (treeSet_any wr b x C i a2 hT4.out hC1000.out).mono ?_
          rintro e W3 ⟨⟨u, rfl⟩, hT5, hMv⟩
          rw [hC.out] at hMv
          have hB5 := hMv.toBelow hB4.out fun r hr ho => by have := hon.out r ho; omega
          go_wp2
          go_roundw
          case rel => exact ⟨t + 1, _, by omega, by go_num, by rw [putC_len]; exact hC.out, hT5, hB5⟩
          case measure => simp [intOf]; omega
    · have hlt' : ¬ (t : Int) < 2 := by omega
      go_wp2_with fail
      refine (lives11_any _).mono ?_
      rintro e W3 ⟨rfl, hb3⟩
      go_wp2
      go_ret
      exact ⟨rfl, below_step hB3.out hb3⟩

set_option maxRecDepth 100000 in
theorem lifted (os : Os) (started : os.Started) (H : Type) (enc : TypeId × Value → H) :
    ReturnsInHanded {} Try.checked os 6 .any (Rows.merkleCompleteSpec.pre6 enc Try.prog Try.f6 Rows.merkleCompleteRow.domain false) (Rows.merkleCompleteSpec.post enc Try.prog Try.f6 false true false false) := by
  refine returnsInHanded_of_change (C := Try.checked) own started (by kernel_rfl) Try.func6
    (ChangeSpec.witness6 (enc := enc) (C := Try.checked) false ⟨#[], #[.slice none 0 0, .int .i64 0, .int .i64 0], []⟩ 8 (by kernel_rfl) (by kernel_rfl) (by kernel_rfl) (by kernel_rfl)) ?_
  intro W base args ds gs before hval0 hW hcnd _
  have hval : ∀ (j : Nat) t v, Try.f6.params[j]? = some t → args[j]? = some v → Value.okWide Try.prog W .any base t v := hval0
  have hW' := hW
  obtain ⟨p, q, hA0, hV, rfl, hfz, hnd⟩ := hW
  have hA : DataW.TrodAll enc Try.prog W 0 (fun _ => true) true Try.f6.params.toList args.toList ds p := hA0
  rw [Try.params6] at hA hval
  have hAk := hA
  obtain ⟨v0, vs0, d0, ds0, p0, q0, hargs, rfl, hp0, h0, r0⟩ := trodAll_cons hA
  obtain ⟨v1, vs1, d1, ds1, p1, q1, rfl, rfl, hp1, h1, r1⟩ := trodAll_cons r0
  obtain ⟨v2, vs2, d2, ds2, p2, q2, rfl, rfl, hp2, h2, r2⟩ := trodAll_cons r1
  obtain ⟨rfl, rfl, -⟩ := trodAll_nil r2
  obtain rfl : args = #[v0, v1, v2] := by cases args; simp_all
  obtain ⟨rfl, rfl⟩ := trodVars_none hV
  obtain ⟨x0, q0, c0, rfl⟩ := okWide_slice Try.underlying22 (hval 0 22 v0 rfl rfl)
  obtain ⟨fu0, fh0⟩ := h0
  obtain ⟨s0, Z0, l0, e0, H0, N0⟩ := open_int_cells2 Try.underlying22 Try.underlying3 (by kernel_rfl) fh0
  simp only [Value.cells, List.cons.injEq, and_true] at e0
  obtain rfl := e0.symm
  obtain ⟨a1, rfl, -, -, w1⟩ := open_int Try.underlying3 (hval 1 3 v1 rfl rfl) h1
  obtain ⟨a2, rfl, -, -, w2⟩ := open_int Try.underlying3 (hval 2 3 v2 rfl rfl) h2
  clear hA0 hval0
  simp only [List.append_nil] at hW'
  refine (walk W _ Z0 l0 H0 N0 a1 w1 a2 w2).mono fun e W' ⟨he, hb⟩ => ?_
  subst he
  exact ⟨_, rfl, kept_post (pa := p) hW' (fun _ _ _ => (trodAll_cons_mk (shut_bool Try.underlying4 _) trodAll_mk0)) (fun sp hsp => trodAll_stays laid hb (by rw [Try.params6]; decide +kernel) hAk (fun x hx => hW'.lt x hx) hsp) (fun _ => rfl) hb (ok_one (by kernel_rfl) rfl (okWide_bool_mk Try.underlying4 _))⟩

theorem over : Rows.merkleCompleteRow.holds Try.pinned (OpenSpec.ofChange Rows.merkleCompleteSpec) :=
  OpenClaim.holds_of_wide 6 Try.f6 rfl rfl rfl rfl rfl rfl rfl ⟨rfl, rfl, rfl, rfl, rfl⟩ rfl rfl rfl rfl rfl (by kernel_rfl) Try.func6 (by kernel_rfl)
    (of_decide_eq_true (by kernel_rfl)) (by unfold Func.isWrapper; first | (rw [if_pos (by decide +kernel)]; kernel_rfl) | (rw [if_neg (by decide +kernel)]; exact ⟨rfl, rfl⟩))
    (fun os started H enc _ => lifted os started H enc)

theorem proved : Rows.MerkleCompleteSaid :=
  over
#print axioms proved
end Go.Proofs.Ythpdohfekillkaa.merkleComplete
