/-
  package hash64, P10.1: for every label (its first 40 bytes) and every list of integers (its first 12), Sum gives what the reference's gives, of the list and of no integers, and the section's example holds; whatever the arguments are.
-/
import Derived.Test.YtgbahacodamhjaaRows
import Derived.WalkKit
import Derived.ProofKit
import Derived.OpenShut
import Derived.Test.YtgbahacodamhjaaOpen
import Derived.ChangeMaps5
import Derived.Test.YtgbahacodamhjaaHaL
import Derived.Test.YtgbahacodamhjaaOpenB
namespace Go.Proofs.Ytgbahacodamhjaa.hash64Sum
open Go.ChangeShapes Go.WideShapes Go.ChangeAt Go.RowKit
set_option linter.unusedVariables false
set_option linter.unusedSimpArgs false

theorem sum_nil (lab : ByteArray) (w : World) (hs : lab.size ≤ 1000) : Calls Try.prog 13 #[.string lab, .slice none 0 0] w fun e w' => e = .returned (.int .u64 ((sumW (labL lab) []).toNat : Int)) ∧ Below w.heap.size w w' := sum_any lab _ [] w (IL.nil w) hs (Nat.zero_le _)
theorem refSum_nil (lab : ByteArray) (w : World) (hs : lab.size ≤ 1000) : Calls Try.prog 14 #[.string lab, .slice none 0 0] w fun e w' => e = .returned (.int .u64 ((sumW (labL lab) []).toNat : Int)) ∧ Below w.heap.size w w' := refSum_any lab _ [] w (IL.nil w) hs (Nat.zero_le _)
theorem own : ownKnob Try.prog.godebug = none := by kernel_rfl
theorem laid : laidOutB Try.prog = true := by kernel_rfl

set_option maxRecDepth 100000 in
set_option maxHeartbeats 8000000 in
theorem walk (w : World) (str0 : ByteArray) (m0 : str0.size ≤ maxLen) (s1 : Value) (Z1 : Nat → Int) (l1 : Nat) (H1 : IntsAt w s1 1 Z1 l1) (N1 : ∀ n c, s1 = .slice none n c → s1 = .slice none 0 0) :
    Calls Try.prog 3 #[.string str0, s1] w fun e w' => e = .returned (.bool true) ∧ Below w.heap.size w w' := by
  have ki := Lib.hid (ints12 s1 _ w H1.il N1)
  have hlt := Lib.hid (show (((List.range l1).map Z1).take 12).length ≤ 1000 from by rw [List.length_take]; omega)
  generalize ((List.range l1).map Z1).take 12 = M at *
  clear H1 N1
  go_enter Try.func3, Try.ntmps3
  go_wp2_with (first
    | (go_at_call 11; with_reducible refine (short40 str0 w m0).mono ?_; rintro e u1 ⟨⟨r, rfl, hr⟩, rfl⟩; have hs := Lib.hid (size_small hr (by decide)); clear hr; have hz := Lib.hid (beq_self_int ((sumW (labL r) (M.map (BitVec.ofInt 64))).toNat : Int)); have hy := Lib.hid (beq_self_int ((sumW (labL r) []).toNat : Int)))
    | (go_at_call 12; with_reducible refine ki.out.mono ?_; rintro e u2 ⟨⟨v, rfl, ho⟩, hb⟩; have hI2 := Lib.hid (IL.owned ho); have hB2 := Lib.hid hb; clear ho hb)
    | (go_at_call 13; with_reducible refine (sum_any r _ M u2 hI2.out hs.out hlt.out).mono ?_; rintro e u3 ⟨rfl, hb⟩; have hI3 := Lib.hid (hI2.out.carry hb); have hB3 := Lib.hid (below_step hB2.out hb); clear hb)
    | (go_at_call 14; with_reducible refine (refSum_any r _ M u3 hI3.out hs.out hlt.out).mono ?_; rintro e u4 ⟨rfl, hb⟩; have hB4 := Lib.hid (below_step hB3.out hb); have hz' := hz.out; generalize ((sumW (labL r) (M.map (BitVec.ofInt 64))).toNat : Int) = z1 at *; clear hb)
    | (go_at_call 13; with_reducible refine (sum_nil r u4 hs.out).mono ?_; rintro e u5 ⟨rfl, hb⟩; have hB5 := Lib.hid (below_step hB4.out hb); clear hb)
    | (go_at_call 14; with_reducible refine (refSum_nil r u5 hs.out).mono ?_; rintro e u6 ⟨rfl, hb⟩; have hB6 := Lib.hid (below_step hB5.out hb); have hy' := hy.out; generalize ((sumW (labL r) []).toNat : Int) = z2 at *; clear hb)
    | (go_at_call 15; with_reducible refine (lives10_any u6).mono ?_; rintro e u7 ⟨rfl, hb⟩; have hB7 := Lib.hid (below_step hB6.out hb); clear hb))
  go_ret
  exact ⟨rfl, hB7.out⟩

set_option maxRecDepth 100000 in
theorem lifted (os : Os) (started : os.Started) (H : Type) (enc : TypeId × Value → H) :
    ReturnsInHanded {} Try.checked os 3 .any (Rows.hash64SumSpec.pre6 enc Try.prog Try.f3 Rows.hash64SumRow.domain false) (Rows.hash64SumSpec.post enc Try.prog Try.f3 false true false false) := by
  refine returnsInHanded_of_change (C := Try.checked) own started (by kernel_rfl) Try.func3
    (ChangeSpec.witness6 (enc := enc) (C := Try.checked) false ⟨#[], #[.string ⟨#[]⟩, .slice none 0 0], []⟩ 8 (by kernel_rfl) (by kernel_rfl) (by kernel_rfl) (by kernel_rfl)) ?_
  intro W base args ds gs before hval0 hW hcnd _
  have hval : ∀ (j : Nat) t v, Try.f3.params[j]? = some t → args[j]? = some v → Value.okWide Try.prog W .any base t v := hval0
  have hW' := hW
  obtain ⟨p, q, hA0, hV, rfl, hfz, hnd⟩ := hW
  have hA : DataW.TrodAll enc Try.prog W 0 (fun _ => true) true Try.f3.params.toList args.toList ds p := hA0
  rw [Try.params3] at hA hval
  have hAk := hA
  obtain ⟨v0, vs0, d0, ds0, p0, q0, hargs, rfl, hp0, h0, r0⟩ := trodAll_cons hA
  obtain ⟨v1, vs1, d1, ds1, p1, q1, rfl, rfl, hp1, h1, r1⟩ := trodAll_cons r0
  obtain ⟨rfl, rfl, -⟩ := trodAll_nil r1
  obtain rfl : args = #[v0, v1] := by cases args; simp_all
  obtain ⟨rfl, rfl⟩ := trodVars_none hV
  obtain ⟨str0, rfl, -, -, m0⟩ := Go.ChangeMaps.open_string Try.underlying9 (hval 0 9 v0 rfl rfl) h0
  obtain ⟨x1, q1, c1, rfl⟩ := okWide_slice Try.underlying22 (hval 1 22 v1 rfl rfl)
  obtain ⟨fu1, fh1⟩ := h1
  obtain ⟨s1, Z1, l1, e1, H1, N1⟩ := open_int_cells2 Try.underlying22 Try.underlying3 (by kernel_rfl) fh1
  simp only [Value.cells, List.cons.injEq, and_true] at e1
  obtain rfl := e1.symm
  clear hA0 hval0
  simp only [List.append_nil] at hW'
  refine (walk W str0 m0 _ Z1 l1 H1 N1).mono fun e W' ⟨he, hb⟩ => ?_
  subst he
  exact ⟨_, rfl, kept_post (pa := p) hW' (fun _ _ _ => (trodAll_cons_mk (shut_bool Try.underlying4 _) trodAll_mk0)) (fun sp hsp => trodAll_stays laid hb (by rw [Try.params3]; decide +kernel) hAk (fun x hx => hW'.lt x hx) hsp) (fun _ => rfl) hb (ok_one (by kernel_rfl) rfl (okWide_bool_mk Try.underlying4 _))⟩

theorem over : Rows.hash64SumRow.holds Try.pinned (OpenSpec.ofChange Rows.hash64SumSpec) :=
  OpenClaim.holds_of_wide 3 Try.f3 rfl rfl rfl rfl rfl rfl rfl ⟨rfl, rfl, rfl, rfl, rfl⟩ rfl rfl rfl rfl rfl (by kernel_rfl) Try.func3 (by kernel_rfl)
    (of_decide_eq_true (by kernel_rfl)) (by unfold Func.isWrapper; first | (rw [if_pos (by decide +kernel)]; kernel_rfl) | (rw [if_neg (by decide +kernel)]; exact ⟨rfl, rfl⟩))
    (fun os started H enc _ => lifted os started H enc)

theorem proved : Rows.Hash64SumSaid :=
  over
#print axioms proved
end Go.Proofs.Ytgbahacodamhjaa.hash64Sum
