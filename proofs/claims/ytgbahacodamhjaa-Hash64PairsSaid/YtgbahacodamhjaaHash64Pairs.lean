/-
  package hash64, P10.4: for all hashes, Pair is injective in its first argument and in its second one, and equals Sum over the two hashes under the label pair, and the section's example holds; whatever the arguments are.
-/
import Derived.Test.YtgbahacodamhjaaRows
import Derived.WalkKit
import Derived.ProofKit
import Derived.OpenShut
import Derived.Test.YtgbahacodamhjaaOpen
import Derived.Test.YtgbahacodamhjaaHaL
namespace Go.Proofs.Ytgbahacodamhjaa.hash64Pairs
open Go.ChangeShapes Go.WideShapes Go.ChangeAt Go.RowKit
set_option linter.unusedVariables false
set_option linter.unusedSimpArgs false

theorem dec_eq {a b : W64} : (((a.toNat : Int)) == (b.toNat : Int)) = decide (a = b) := beq_toNat
theorem own : ownKnob Try.prog.godebug = none := by kernel_rfl
theorem laid : laidOutB Try.prog = true := by kernel_rfl

set_option maxRecDepth 100000 in
set_option maxHeartbeats 8000000 in
theorem walk (w : World) (a0 : Int) (w0 : (Lit.int .u64 a0).wf = true) (a1 : Int) (w1 : (Lit.int .u64 a1).wf = true) (a2 : Int) (w2 : (Lit.int .u64 a2).wf = true) :
    Calls Try.prog 9 #[.int .u64 a0, .int .u64 a1, .int .u64 a2] w fun e w' => e = .returned (.bool true) ∧ Below w.heap.size w w' := by
  obtain ⟨a, rfl⟩ := lit_word w0
  obtain ⟨b, rfl⟩ := lit_word w1
  obtain ⟨c, rfl⟩ := lit_word w2
  clear w0 w1 w2
  have K1 := fun w => pair_any a c w
  have K2 := fun w => pair_any b c w
  have K3 := fun w => pair_any c a w
  have K4 := fun w => pair_any c b w
  have K5 := fun w => pair_any a b w
  have K6 := fun w => sum_any { data := #[112, 97, 105, 114] } _ [a.toInt, b.toInt] _ (two_new w a.toInt b.toInt) pairSize (by simp)
  rw [pairLab] at K6
  simp only [List.map_cons, List.map_nil, BitVec.ofInt_toInt] at K6
  rw [show sumW [112, 97, 105, 114] [a, b] = pairW a b from rfl, ← wrap64_word a, ← wrap64_word b] at K6
  have e1 : (((pairW a c).toNat : Int) == ((pairW b c).toNat : Int)) = ((a.toNat : Int) == (b.toNat : Int)) := by rw [beq_toNat, beq_toNat]; exact decide_eq_decide.2 (pairW_left a b c)
  have e2 : (((pairW c a).toNat : Int) == ((pairW c b).toNat : Int)) = ((a.toNat : Int) == (b.toNat : Int)) := by rw [beq_toNat, beq_toNat]; exact decide_eq_decide.2 (pairW_right a b c)
  have e3 := beq_self_int ((pairW a b).toNat : Int)
  generalize ((pairW a c).toNat : Int) = p1 at *
  generalize ((pairW b c).toNat : Int) = p2 at *
  generalize ((pairW c a).toNat : Int) = p3 at *
  generalize ((pairW c b).toNat : Int) = p4 at *
  generalize ((pairW a b).toNat : Int) = p5 at *
  generalize (a.toNat : Int) = na at *
  generalize (b.toNat : Int) = nb at *
  generalize (c.toNat : Int) = nc at *
  have k1 := Lib.hid K1
  have k2 := Lib.hid K2
  have k3 := Lib.hid K3
  have k4 := Lib.hid K4
  have k5 := Lib.hid K5
  have k6 := Lib.hid K6
  clear K1 K2 K3 K4 K5 K6
  obtain ⟨bb, hbb⟩ : ∃ bb, (na == nb) = bb := ⟨_, rfl⟩
  rw [hbb] at e1 e2
  go_enter Try.func9, Try.ntmps9
  cases bb
  all_goals
    go_wp2_with (first
      | (go_at_call 19; with_reducible refine (k1.out w).mono ?_; rintro e u1 ⟨rfl, hb⟩; have hB1 := Lib.hid hb; clear hb)
      | (go_at_call 19; with_reducible refine (k2.out u1).mono ?_; rintro e u2 ⟨rfl, hb⟩; have hB2 := Lib.hid (below_step hB1.out hb); clear hb)
      | (go_at_call 19; with_reducible refine (k3.out u2).mono ?_; rintro e u3 ⟨rfl, hb⟩; have hB3 := Lib.hid (below_step hB2.out hb); clear hb)
      | (go_at_call 19; with_reducible refine (k4.out u3).mono ?_; rintro e u4 ⟨rfl, hb⟩; have hB4 := Lib.hid (below_step hB3.out hb); clear hb)
      | (go_at_call 19; with_reducible refine (k5.out u4).mono ?_; rintro e u5 ⟨rfl, hb⟩; have hB5 := Lib.hid (below_step hB4.out hb); clear hb)
      | (go_at_call 13; with_reducible refine (k6.out u5).mono ?_; rintro e u6 ⟨rfl, hb⟩; have hB6 := Lib.hid (below_step hB5.out (below_step (alloc_below u5 _) hb)); clear hb)
      | (go_at_call 15; with_reducible refine (lives10_any u6).mono ?_; rintro e u7 ⟨rfl, hb⟩; have hB7 := Lib.hid (below_step hB6.out hb); clear hb))
    go_ret
    exact ⟨rfl, hB7.out⟩

set_option maxRecDepth 100000 in
theorem lifted (os : Os) (started : os.Started) (H : Type) (enc : TypeId × Value → H) :
    ReturnsInHanded {} Try.checked os 9 .any (Rows.hash64PairsSpec.pre6 enc Try.prog Try.f9 Rows.hash64PairsRow.domain false) (Rows.hash64PairsSpec.post enc Try.prog Try.f9 false true false false) := by
  refine returnsInHanded_of_change (C := Try.checked) own started (by kernel_rfl) Try.func9
    (ChangeSpec.witness6 (enc := enc) (C := Try.checked) false ⟨#[], #[.int .u64 0, .int .u64 0, .int .u64 0], []⟩ 8 (by kernel_rfl) (by kernel_rfl) (by kernel_rfl) (by kernel_rfl)) ?_
  intro W base args ds gs before hval0 hW hcnd _
  have hval : ∀ (j : Nat) t v, Try.f9.params[j]? = some t → args[j]? = some v → Value.okWide Try.prog W .any base t v := hval0
  have hW' := hW
  obtain ⟨p, q, hA0, hV, rfl, hfz, hnd⟩ := hW
  have hA : DataW.TrodAll enc Try.prog W 0 (fun _ => true) true Try.f9.params.toList args.toList ds p := hA0
  rw [Try.params9] at hA hval
  have hAk := hA
  obtain ⟨v0, vs0, d0, ds0, p0, q0, hargs, rfl, hp0, h0, r0⟩ := trodAll_cons hA
  obtain ⟨v1, vs1, d1, ds1, p1, q1, rfl, rfl, hp1, h1, r1⟩ := trodAll_cons r0
  obtain ⟨v2, vs2, d2, ds2, p2, q2, rfl, rfl, hp2, h2, r2⟩ := trodAll_cons r1
  obtain ⟨rfl, rfl, -⟩ := trodAll_nil r2
  obtain rfl : args = #[v0, v1, v2] := by cases args; simp_all
  obtain ⟨rfl, rfl⟩ := trodVars_none hV
  obtain ⟨a0, rfl, -, -, w0⟩ := open_int Try.underlying25 (hval 0 25 v0 rfl rfl) h0
  obtain ⟨a1, rfl, -, -, w1⟩ := open_int Try.underlying25 (hval 1 25 v1 rfl rfl) h1
  obtain ⟨a2, rfl, -, -, w2⟩ := open_int Try.underlying25 (hval 2 25 v2 rfl rfl) h2
  clear hA0 hval0
  simp only [List.append_nil] at hW'
  refine (walk W a0 w0 a1 w1 a2 w2).mono fun e W' ⟨he, hb⟩ => ?_
  subst he
  exact ⟨_, rfl, kept_post (pa := p) hW' (fun _ _ _ => (trodAll_cons_mk (shut_bool Try.underlying4 _) trodAll_mk0)) (fun sp hsp => trodAll_stays laid hb (by rw [Try.params9]; decide +kernel) hAk (fun x hx => hW'.lt x hx) hsp) (fun _ => rfl) hb (ok_one (by kernel_rfl) rfl (okWide_bool_mk Try.underlying4 _))⟩

theorem over : Rows.hash64PairsRow.holds Try.pinned (OpenSpec.ofChange Rows.hash64PairsSpec) :=
  OpenClaim.holds_of_wide 9 Try.f9 rfl rfl rfl rfl rfl rfl rfl ⟨rfl, rfl, rfl, rfl, rfl⟩ rfl rfl rfl rfl rfl (by kernel_rfl) Try.func9 (by kernel_rfl)
    (of_decide_eq_true (by kernel_rfl)) (by unfold Func.isWrapper; first | (rw [if_pos (by decide +kernel)]; kernel_rfl) | (rw [if_neg (by decide +kernel)]; exact ⟨rfl, rfl⟩))
    (fun os started H enc _ => lifted os started H enc)

theorem proved : Rows.Hash64PairsSaid :=
  over
#print axioms proved
end Go.Proofs.Ytgbahacodamhjaa.hash64Pairs
