/-
  package hash64, P10.1, P10.2, R4: for every list of integers (its first 10) and every byte slice (its first 30), Sum and Bytes leave their arguments as they were and give the same value again, and the section's example holds; whatever the arguments are.
-/
import Derived.Test.YtgbahacodamhjaaRows
import Derived.WalkKit
import Derived.ProofKit
import Derived.OpenShut
import Derived.Test.YtgbahacodamhjaaOpen
import Derived.Test.YtgbahacodamhjaaOpenD
import Derived.Test.YtgbahacodamhjaaHaL
import Derived.Test.YtgbahacodamhjaaOpenB
namespace Go.Proofs.Ytgbahacodamhjaa.hash64Arguments
open Go.ChangeShapes Go.WideShapes Go.ChangeAt Go.RowKit
set_option linter.unusedVariables false
set_option linter.unusedSimpArgs false

theorem sameIT (v u : Value) (l : List Int) (w : World) (h : IL w v l) (h' : IL w u l) : Calls Try.prog 24 #[v, u] w fun e w' => e = .returned (.bool true) ∧ Below w.heap.size w w' :=
  (sameI_any v u l l w h h').mono fun e w' ⟨h1, h2⟩ => ⟨by rw [h1, decide_eq_true rfl], h2⟩
theorem sameBT (a a' : Option Addr) (n0 n1 cap cap' : Nat) (l : List Nat) (w : World) (h : ByRow w (fun r => r < w.heap.size) a n0 cap l) (h' : ByRow w (fun r => r < w.heap.size) a' n1 cap' l) :
    Calls Try.prog 22 #[.slice a n0 cap, .slice a' n1 cap'] w fun e w' => e = .returned (.bool true) ∧ Below w.heap.size w w' :=
  (sameB_any a a' n0 n1 cap cap' l l w h h').mono fun e w' ⟨h1, h2⟩ => ⟨by rw [h1, decide_eq_true rfl], h2⟩
def sameL : ByteArray := { data := #[115, 97, 109, 101] }
theorem sameL_size : sameL.size ≤ 1000 := by decide
theorem own : ownKnob Try.prog.godebug = none := by kernel_rfl
theorem laid : laidOutB Try.prog = true := by kernel_rfl

set_option maxRecDepth 100000 in
set_option maxHeartbeats 8000000 in
theorem walk (w : World) (s0 : Value) (Z0 : Nat → Int) (l0 : Nat) (H0 : IntsAt w s0 1 Z0 l0) (N0 : ∀ n c, s0 = .slice none n c → s0 = .slice none 0 0) (s1 : Value) (L1 : List Nat) (H1 : BytsAt w s1 L1) :
    Calls Try.prog 10 #[s0, s1] w fun e w' => e = .returned (.bool true) ∧ Below w.heap.size w w' := by
  obtain ⟨a, cap, rfl, hR, hna⟩ := H1.shape'
  have hByt := Lib.hid hR.byt
  have hR0 := Lib.hid hR
  have hna0 := Lib.hid hna
  have hI0 := Lib.hid H0.il
  have hN0 := Lib.hid N0
  have hlt := Lib.hid (show (((List.range l0).map Z0).take 10).length ≤ 1000 from by rw [List.length_take]; omega)
  have ki := Lib.hid (fun W (h : IL W s0 ((List.range l0).map Z0)) => ints10 s0 _ W h N0)
  generalize (List.range l0).map Z0 = M0 at *
  generalize M0.take 10 = M at *
  have ks := Lib.hid (fun v W (h : IL W v M) => sum_any sameL v M W h sameL_size hlt.out)
  have kb := Lib.hid (fun a n cap W (h : ByRow W (fun r => r < W.heap.size) a n cap (L1.take 30)) h1 => bytes_any sameL a n cap (L1.take 30) W h sameL_size h1)
  have hz := beq_self_int ((sumW (labL sameL) (M.map (BitVec.ofInt 64))).toNat : Int)
  have hy := beq_self_int ((bytesW (labL sameL) (L1.take 30)).toNat : Int)
  generalize ((sumW (labL sameL) (M.map (BitVec.ofInt 64))).toNat : Int) = z1 at *
  generalize ((bytesW (labL sameL) (L1.take 30)).toNat : Int) = z2 at *
  clear H0 N0 H1 hR hna
  unfold sameL at *
  go_enter Try.func10, Try.ntmps10
  go_wp2_with (first
    | (go_at_call 12; with_reducible refine (ki.out w hI0.out).mono ?_; rintro e u1 ⟨⟨v, rfl, ho⟩, hb⟩; have hW1 := Lib.hid (IL.owned ho); have hB1 := Lib.hid hb; clear ho hb)
    | (go_at_call 16; with_reducible refine (few30 _ _ _ _ u1 (hR0.out.up hB1.out) hna0.out).mono ?_; rintro e u2 ⟨⟨c, rfl, ho⟩, hb⟩; obtain ⟨a2, m2, cap2, rfl, hm2, hR', -⟩ := ByRow.few ho hByt.out; have hC2 := Lib.hid hR'; have hl2 := Lib.hid (show m2 ≤ 1000 from by omega); have hW2 := Lib.hid (hW1.out.carry hb); have hB2 := Lib.hid (below_step hB1.out hb); clear ho hR' hb hm2)
    | (go_at_call 13; with_reducible refine (ks.out v u2 hW2.out).mono ?_; rintro e u3 ⟨rfl, hb⟩; have hC3 := Lib.hid (hC2.out.up hb); have hW3 := Lib.hid (hW2.out.carry hb); have hB3 := Lib.hid (below_step hB2.out hb); clear hb)
    | (go_at_call 17; with_reducible refine (kb.out _ _ _ u3 hC3.out hl2.out).mono ?_; rintro e u4 ⟨rfl, hb⟩; have hC4 := Lib.hid (hC3.out.up hb); have hW4 := Lib.hid (hW3.out.carry hb); have hB4 := Lib.hid (below_step hB3.out hb); clear hb)
    | (go_at_call 12; with_reducible refine (ki.out u4 (hI0.out.carry hB4.out)).mono ?_; rintro e u5 ⟨⟨v5, rfl, ho⟩, hb⟩; have hV5 := Lib.hid (IL.owned ho); have hC5 := Lib.hid (hC4.out.up hb); have hW5 := Lib.hid (hW4.out.carry hb); have hB5 := Lib.hid (below_step hB4.out hb); clear ho hb)
    | (go_at_call 24; with_reducible refine (sameIT _ _ _ u5 hW5.out hV5.out).mono ?_; rintro e u6 ⟨rfl, hb⟩; have hC6 := Lib.hid (hC5.out.up hb); have hW6 := Lib.hid (hW5.out.carry hb); have hB6 := Lib.hid (below_step hB5.out hb); clear hb)
    | (go_at_call 16; with_reducible refine (few30 _ _ _ _ u6 (hR0.out.up hB6.out) hna0.out).mono ?_; rintro e u7 ⟨⟨c, rfl, ho⟩, hb⟩; obtain ⟨a7, m7, cap7, rfl, hm7, hR', -⟩ := ByRow.few ho hByt.out; have hD7 := Lib.hid hR'; have hC7 := Lib.hid (hC6.out.up hb); have hW7 := Lib.hid (hW6.out.carry hb); have hB7 := Lib.hid (below_step hB6.out hb); clear ho hR' hb hm7)
    | (go_at_call 22; with_reducible refine (sameBT _ _ _ _ _ _ _ u7 hC7.out hD7.out).mono ?_; rintro e u8 ⟨rfl, hb⟩; have hC8 := Lib.hid (hC7.out.up hb); have hW8 := Lib.hid (hW7.out.carry hb); have hB8 := Lib.hid (below_step hB7.out hb); clear hb)
    | (go_at_call 13; with_reducible refine (ks.out v u8 hW8.out).mono ?_; rintro e u9 ⟨rfl, hb⟩; have hC9 := Lib.hid (hC8.out.up hb); have hB9 := Lib.hid (below_step hB8.out hb); clear hb)
    | (go_at_call 17; with_reducible refine (kb.out _ _ _ u9 hC9.out hl2.out).mono ?_; rintro e u10 ⟨rfl, hb⟩; have hB10 := Lib.hid (below_step hB9.out hb); clear hb)
    | (go_at_call 15; with_reducible refine (lives10_any u10).mono ?_; rintro e u11 ⟨rfl, hb⟩; have hB11 := Lib.hid (below_step hB10.out hb); clear hb))
  go_ret
  exact ⟨rfl, hB11.out⟩

set_option maxRecDepth 100000 in
theorem lifted (os : Os) (started : os.Started) (H : Type) (enc : TypeId × Value → H) :
    ReturnsInHanded {} Try.checked os 10 .any (Rows.hash64ArgumentsSpec.pre6 enc Try.prog Try.f10 Rows.hash64ArgumentsRow.domain false) (Rows.hash64ArgumentsSpec.post enc Try.prog Try.f10 false true false false) := by
  refine returnsInHanded_of_change (C := Try.checked) own started (by kernel_rfl) Try.func10
    (ChangeSpec.witness6 (enc := enc) (C := Try.checked) false ⟨#[], #[.slice none 0 0, .slice none 0 0], []⟩ 8 (by kernel_rfl) (by kernel_rfl) (by kernel_rfl) (by kernel_rfl)) ?_
  intro W base args ds gs before hval0 hW hcnd _
  have hval : ∀ (j : Nat) t v, Try.f10.params[j]? = some t → args[j]? = some v → Value.okWide Try.prog W .any base t v := hval0
  have hW' := hW
  obtain ⟨p, q, hA0, hV, rfl, hfz, hnd⟩ := hW
  have hA : DataW.TrodAll enc Try.prog W 0 (fun _ => true) true Try.f10.params.toList args.toList ds p := hA0
  rw [Try.params10] at hA hval
  have hAk := hA
  obtain ⟨v0, vs0, d0, ds0, p0, q0, hargs, rfl, hp0, h0, r0⟩ := trodAll_cons hA
  obtain ⟨v1, vs1, d1, ds1, p1, q1, rfl, rfl, hp1, h1, r1⟩ := trodAll_cons r0
  obtain ⟨rfl, rfl, -⟩ := trodAll_nil r1
  obtain rfl : args = #[v0, v1] := by cases args; simp_all
  obtain ⟨rfl, rfl⟩ := trodVars_none hV
  obtain ⟨x0, q0, c0, rfl⟩ := okWide_slice Try.underlying22 (hval 0 22 v0 rfl rfl)
  obtain ⟨fu0, fh0⟩ := h0
  obtain ⟨s0, Z0, l0, e0, H0, N0⟩ := open_int_cells2 Try.underlying22 Try.underlying3 (by kernel_rfl) fh0
  simp only [Value.cells, List.cons.injEq, and_true] at e0
  obtain rfl := e0.symm
  obtain ⟨x1, q1, c1, rfl⟩ := okWide_slice Try.underlying30 (hval 1 30 v1 rfl rfl)
  obtain ⟨fu1, fh1⟩ := h1
  obtain ⟨s1, L1, e1, H1⟩ := open_byte_cells Try.underlying30 Try.underlying5 (by kernel_rfl) fh1
  simp only [Value.cells, List.cons.injEq, and_true] at e1
  obtain rfl := e1.symm
  clear hA0 hval0
  simp only [List.append_nil] at hW'
  refine (walk W _ Z0 l0 H0 N0 _ L1 H1).mono fun e W' ⟨he, hb⟩ => ?_
  subst he
  exact ⟨_, rfl, kept_post (pa := p) hW' (fun _ _ _ => (trodAll_cons_mk (shut_bool Try.underlying4 _) trodAll_mk0)) (fun sp hsp => trodAll_stays laid hb (by rw [Try.params10]; decide +kernel) hAk (fun x hx => hW'.lt x hx) hsp) (fun _ => rfl) hb (ok_one (by kernel_rfl) rfl (okWide_bool_mk Try.underlying4 _))⟩

theorem over : Rows.hash64ArgumentsRow.holds Try.pinned (OpenSpec.ofChange Rows.hash64ArgumentsSpec) :=
  OpenClaim.holds_of_wide 10 Try.f10 rfl rfl rfl rfl rfl rfl rfl ⟨rfl, rfl, rfl, rfl, rfl⟩ rfl rfl rfl rfl rfl (by kernel_rfl) Try.func10 (by kernel_rfl)
    (of_decide_eq_true (by kernel_rfl)) (by unfold Func.isWrapper; first | (rw [if_pos (by decide +kernel)]; kernel_rfl) | (rw [if_neg (by decide +kernel)]; exact ⟨rfl, rfl⟩))
    (fun os started H enc _ => lifted os started H enc)

theorem proved : Rows.Hash64ArgumentsSaid :=
  over
#print axioms proved
end Go.Proofs.Ytgbahacodamhjaa.hash64Arguments
