/-
  package merkle, P11.1: for every list of cells (its first 20) and every index, the tree's root and its proofs are the specified ones, a missing cell has a zero leaf, and the section's example holds; whatever the arguments are.
-/
import Derived.Test.YthpdohfekillkaaRows
import Derived.WalkKit
import Derived.ProofKit
import Derived.OpenShut
import Derived.Test.YthpdohfekillkaaOpen
import Derived.Test.YthpdohfekillkaaOpenB
import Derived.Test.YthpdohfekillkaaMlM
namespace Go.Proofs.Ythpdohfekillkaa.merkleRoots
open Go.ChangeShapes Go.WideShapes Go.ChangeAt Go.RowKit
set_option linter.unusedVariables false
set_option linter.unusedSimpArgs false


theorem own : ownKnob Try.prog.godebug = none := by kernel_rfl
theorem laid : laidOutB Try.prog = true := by kernel_rfl

set_option maxRecDepth 100000 in
set_option maxHeartbeats 8000000 in
theorem walk (w : World) (s0 : Value) (Z0 : Nat → Int) (l0 : Nat) (H0 : IntsAt w s0 1 Z0 l0) (N0 : ∀ n c, s0 = .slice none n c → s0 = .slice none 0 0) (a1 : Int) (w1 : (Lit.int .i64 a1).wf = true) :
    Calls Try.prog 3 #[s0, .int .i64 a1] w fun e w' => e = .returned (.bool true) ∧ Below w.heap.size w w' := by
  obtain ⟨M, hM20, hM64, kC0⟩ := cells11 H0 N0
  have kC := Lib.hid kC0
  have i1 := lit_i64 w1
  clear kC0
  have hM := Lib.hid (show M.length ≤ 1000 from by omega)
  go_enter Try.func3, Try.ntmps3
  go_wp2_with fail
  refine (kC.out w (Below.refl _ _)).mono ?_
  rintro e W1 ⟨ca, cc, rfl, hI1, _, hb1⟩
  have kN := Lib.hid (new_any _ M W1 hI1 hM.out)
  have hI := Lib.hid hI1
  obtain ⟨n, hn⟩ : ∃ n, n = M.length := ⟨_, rfl⟩
  rw [← hn] at hI kN hM20 ⊢
  clear hn hI1 kC
  go_wp2_with fail
  refine (kN.out).mono ?_
  rintro e W2 ⟨b, x, rfl, hT1, _, hb2⟩
  have hT := Lib.hid hT1
  have hI2 := Lib.hid (hI.out.carry hb2)
  have hB2 := Lib.hid (below_step hb1 hb2)
  clear hT1 hb2 hb1 kN hI
  go_wp2_with fail
  refine (around_any a1 22 W2 i1.1 i1.2 (by decide)).mono ?_
  rintro e W3 ⟨rfl, rfl⟩
  have hk := arnd_bd a1 (m := 22) (by decide)
  generalize arnd a1 22 = k at *
  have k1 := Lib.hid (fun Z (hZ : Below W2.heap.size W2 Z) => treeRoot_any Z b x M (hT.out.carry hZ) hM.out)
  have k2 := Lib.hid (fun Z (hZ : Below W2.heap.size W2 Z) => refRoot_any (.slice ca n cc) M Z (hI2.out.carry hZ) (by have := hM.out; omega))
  have k3 := Lib.hid (fun Z (hZ : Below W2.heap.size W2 Z) => rootOf_any (.slice ca n cc) M Z (hI2.out.carry hZ) hM.out)
  have k4 := Lib.hid (fun Z (hZ : Below W2.heap.size W2 Z) i => treeProve_any Z b x M i (hT.out.carry hZ) hM.out)
  have k5 := Lib.hid (fun Z (hZ : Below W2.heap.size W2 Z) i (hi : I64 i) => refProve_any (.slice ca n cc) M i Z (hI2.out.carry hZ) hM.out hi)
  generalize ((rootW M).toNat : Int) = r at *
  have hrr : (r == r) = true := bq_self _
  have hka := Lib.hid (show I64 (k - 1) from by unfold I64; omega)
  have hkb := Lib.hid (show I64 a1 from i1)
  clear hM20
  have hw := Lib.hid (show -1 ≤ k - 1 ∧ k - 1 ≤ 20 from by omega)
  go_wp2_with fail
  refine (k1.out _ (Below.refl _ _)).mono ?_
  rintro e W3 ⟨rfl, hb3⟩
  go_wp2_with fail
  refine (k2.out _ hb3).mono ?_
  rintro e W4 ⟨rfl, hb4⟩
  replace hb4 := below_step hb3 hb4
  go_wp2_with fail
  refine (k3.out _ hb4).mono ?_
  rintro e W5 ⟨rfl, hb5⟩
  replace hb5 := below_step hb4 hb5
  go_wp2_with fail
  refine (k1.out _ hb5).mono ?_
  rintro e W6 ⟨rfl, hb6⟩
  replace hb6 := below_step hb5 hb6
  clear hb3 hb4 hb5
  go_wp2_with fail
  refine (k4.out _ hb6 (k - 1)).mono ?_
  rintro e W7 ⟨pv, rfl, ho7, hb7⟩
  have hV7 := Lib.hid (VL.owned ho7)
  obtain ⟨pa, pc, rfl⟩ := own_slice ho7
  replace hb7 := below_step hb6 hb7
  go_wp2_with fail
  refine (k5.out _ hb7 (k - 1) hka.out).mono ?_
  rintro e W8 ⟨qv, rfl, ho8, hb8⟩
  have hV8 := Lib.hid (VL.owned ho8)
  obtain ⟨qa, qc, rfl⟩ := own_slice ho8
  have kS := Lib.hid (refSame_any (prI M (k - 1)) (prV M (k - 1)) (prI M (k - 1)) (prV M (k - 1)) _ _ _ _ W8 (hV7.out.carry hb8) hV8.out)
  replace hb8 := below_step hb7 hb8
  have hdec := Lib.hid (show decide (prI M (k - 1) = prI M (k - 1) ∧ prV M (k - 1) = prV M (k - 1) ∧ prL M (k - 1) = prL M (k - 1)) = true from by simp)
  rw [hdec.out] at kS
  clear hdec ho7 ho8
  generalize prI M (k - 1) = xi at *
  generalize prV M (k - 1) = xv at *
  generalize prL M (k - 1) = xl at *
  generalize xl.length = xn at *
  go_wp2_with fail
  refine (kS.out).mono ?_
  rintro e W9 ⟨rfl, hb9⟩
  replace hb9 := below_step hb8 hb9
  clear hb6 hb7 hb8 kS hV7 hV8
  go_wp2_with fail
  refine (k4.out _ hb9 a1).mono ?_
  rintro e W10 ⟨pv, rfl, ho7, hb7⟩
  have hV7 := Lib.hid (VL.owned ho7)
  obtain ⟨pa2, pc2, rfl⟩ := own_slice ho7
  replace hb7 := below_step hb9 hb7
  go_wp2_with fail
  refine (k5.out _ hb7 a1 hkb.out).mono ?_
  rintro e W11 ⟨qv, rfl, ho8, hb8⟩
  have hV8 := Lib.hid (VL.owned ho8)
  obtain ⟨qa2, qc2, rfl⟩ := own_slice ho8
  have kS := Lib.hid (refSame_any (prI M a1) (prV M a1) (prI M a1) (prV M a1) _ _ _ _ W11 (hV7.out.carry hb8) hV8.out)
  replace hb8 := below_step hb7 hb8
  have hdec := Lib.hid (show decide (prI M a1 = prI M a1 ∧ prV M a1 = prV M a1 ∧ prL M a1 = prL M a1) = true from by simp)
  rw [hdec.out] at kS
  clear hdec ho7 ho8
  generalize prI M a1 = yi at *
  generalize prV M a1 = yv at *
  generalize prL M a1 = yl at *
  generalize yl.length = yn at *
  go_wp2_with fail
  refine (kS.out).mono ?_
  rintro e W12 ⟨rfl, hb12⟩
  replace hb12 := below_step hb8 hb12
  go_wp2_with fail
  refine (lives11_any _).mono ?_
  rintro e W13 ⟨rfl, hb13⟩
  replace hb13 := below_step hb12 hb13
  go_wp2
  go_ret
  exact ⟨rfl, below_step hB2.out hb13⟩

set_option maxRecDepth 100000 in
theorem lifted (os : Os) (started : os.Started) (H : Type) (enc : TypeId × Value → H) :
    ReturnsInHanded {} Try.checked os 3 .any (Rows.merkleRootsSpec.pre6 enc Try.prog Try.f3 Rows.merkleRootsRow.domain false) (Rows.merkleRootsSpec.post enc Try.prog Try.f3 false true false false) := by
  refine returnsInHanded_of_change (C := Try.checked) own started (by kernel_rfl) Try.func3
    (ChangeSpec.witness6 (enc := enc) (C := Try.checked) false ⟨#[], #[.slice none 0 0, .int .i64 0], []⟩ 8 (by kernel_rfl) (by kernel_rfl) (by kernel_rfl) (by kernel_rfl)) ?_
  intro W base args ds gs before hval0 hW hcnd _
  have hval : ∀ (j : Nat) t v, Try.f3.params[j]? = some t → args[j]? = some v → Value.okWide Try.prog W .any base t v := hval0
  have hW' := hW
  obtain ⟨p, q, hA0, hV, rfl, hfz, hnd⟩ := hW
  have hA : DataW.TrodAll enc Try.prog W 0 (fun _ => true) true Try.f3.params.toList args.toList ds p := hA0
  rw [Try.params3] at hA hval
  have hAk := hA
  obtain ⟨v0, vs0, d0, ds0, p0, q0, hargs, rfl, hp0, h0, r0⟩ := trodAll_cons hA
  obtain ⟨v1, vs1, d1, ds1, p1, q1, rfl, rfl, hp1, h1, r1⟩ := trodAll_cons r0
  obtain ⟨rfl, rfl, -⟩ := trodAll_nil r1
  obtain rfl : args = #[v0, v1] := by cases args; simp_all
  obtain ⟨rfl, rfl⟩ := trodVars_none hV
  obtain ⟨x0, q0, c0, rfl⟩ := okWide_slice Try.underlying22 (hval 0 22 v0 rfl rfl)
  obtain ⟨fu0, fh0⟩ := h0
  obtain ⟨s0, Z0, l0, e0, H0, N0⟩ := open_int_cells2 Try.underlying22 Try.underlying3 (by kernel_rfl) fh0
  simp only [Value.cells, List.cons.injEq, and_true] at e0
  obtain rfl := e0.symm
  obtain ⟨a1, rfl, -, -, w1⟩ := open_int Try.underlying3 (hval 1 3 v1 rfl rfl) h1
  clear hA0 hval0
  simp only [List.append_nil] at hW'
  refine (walk W _ Z0 l0 H0 N0 a1 w1).mono fun e W' ⟨he, hb⟩ => ?_
  subst he
  exact ⟨_, rfl, kept_post (pa := p) hW' (fun _ _ _ => (trodAll_cons_mk (shut_bool Try.underlying4 _) trodAll_mk0)) (fun sp hsp => trodAll_stays laid hb (by rw [Try.params3]; decide +kernel) hAk (fun x hx => hW'.lt x hx) hsp) (fun _ => rfl) hb (ok_one (by kernel_rfl) rfl (okWide_bool_mk Try.underlying4 _))⟩

theorem over : Rows.merkleRootsRow.holds Try.pinned (OpenSpec.ofChange Rows.merkleRootsSpec) :=
  OpenClaim.holds_of_wide 3 Try.f3 rfl rfl rfl rfl rfl rfl rfl ⟨rfl, rfl, rfl, rfl, rfl⟩ rfl rfl rfl rfl rfl (by kernel_rfl) Try.func3 (by kernel_rfl)
    (of_decide_eq_true (by kernel_rfl)) (by unfold Func.isWrapper; first | (rw [if_pos (by decide +kernel)]; kernel_rfl) | (rw [if_neg (by decide +kernel)]; exact ⟨rfl, rfl⟩))
    (fun os started H enc _ => lifted os started H enc)

theorem proved : Rows.MerkleRootsSaid :=
  over
#print axioms proved
end Go.Proofs.Ythpdohfekillkaa.merkleRoots
