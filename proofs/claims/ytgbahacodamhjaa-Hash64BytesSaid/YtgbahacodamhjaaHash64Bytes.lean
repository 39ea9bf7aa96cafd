/-
  package hash64, P10.2: for every label (its first 20 bytes), every byte slice (its first 60) and every two hashes, Bytes and Pair give what the reference's give, and the section's example holds; whatever the arguments are.
-/
import Derived.Test.YtgbahacodamhjaaRows
import Derived.WalkKit
import Derived.ProofKit
import Derived.OpenShut
import Derived.Test.YtgbahacodamhjaaOpen
import Derived.Test.YtgbahacodamhjaaOpenD
import Derived.ChangeMaps5
import Derived.Test.YtgbahacodamhjaaHaL
namespace Go.Proofs.Ytgbahacodamhjaa.hash64Bytes
open Go.ChangeShapes Go.WideShapes Go.ChangeAt Go.RowKit
set_option linter.unusedVariables false
set_option linter.unusedSimpArgs false


theorem own : ownKnob Try.prog.godebug = none := by kernel_rfl
theorem laid : laidOutB Try.prog = true := by kernel_rfl

set_option maxRecDepth 100000 in
set_option maxHeartbeats 8000000 in
theorem walk (w : World) (str0 : ByteArray) (m0 : str0.size ≤ maxLen) (s1 : Value) (L1 : List Nat) (H1 : BytsAt w s1 L1) (a2 : Int) (w2 : (Lit.int .u64 a2).wf = true) (a3 : Int) (w3 : (Lit.int .u64 a3).wf = true) :
    Calls Try.prog 4 #[.string str0, s1, .int .u64 a2, .int .u64 a3] w fun e w' => e = .returned (.bool true) ∧ Below w.heap.size w w' := by
  obtain ⟨x, rfl⟩ := lit_word w2
  obtain ⟨y, rfl⟩ := lit_word w3
  obtain ⟨a, cap, rfl, hR, hna⟩ := H1.shape'
  have hByt := Lib.hid hR.byt
  have hR1 := Lib.hid hR
  have hna1 := Lib.hid hna
  clear hR hna H1
  have K5 := fun w => pair_any x y w
  have K6 := fun w => refPair_any x y w
  generalize ((pairW x y).toNat : Int) = zp at *
  have k5 := Lib.hid K5
  have k6 := Lib.hid K6
  have b0 := beq_self_int zp
  clear K5 K6
  go_enter Try.func4, Try.ntmps4
  go_wp2_with (first
    | (go_at_call 11; with_reducible refine (short20 str0 w m0).mono ?_; rintro e u1 ⟨⟨r, rfl, hr⟩, rfl⟩; have hs := Lib.hid (size_small hr (by decide)); clear hr)
    | (go_at_call 16; with_reducible refine (few60 _ _ _ _ w hR1.out hna1.out).mono ?_; rintro e u2 ⟨⟨v, rfl, ho⟩, hb⟩; obtain ⟨a', m, cap', rfl, hm, hR', -⟩ := ByRow.few ho hByt.out; have hR2 := Lib.hid hR'; have hB2 := Lib.hid hb; have hl2 := Lib.hid (show m ≤ 1000 from by omega); have hz := Lib.hid (beq_self_int ((bytesW (labL r) (L1.take 60)).toNat : Int)); clear ho hR' hb hm)
    | (go_at_call 17; with_reducible refine (bytes_any r _ _ _ _ u2 hR2.out hs.out hl2.out).mono ?_; rintro e u3 ⟨rfl, hb⟩; have hR3 := Lib.hid (hR2.out.up hb); have hB3 := Lib.hid (below_step hB2.out hb); clear hb)
    | (go_at_call 18; with_reducible refine (refBytes_any r _ _ _ _ u3 hR3.out hs.out hl2.out).mono ?_; rintro e u4 ⟨rfl, hb⟩; have hB4 := Lib.hid (below_step hB3.out hb); have hz' := hz.out; generalize ((bytesW (labL r) (L1.take 60)).toNat : Int) = zb at *; clear hb)
    | (go_at_call 19; with_reducible refine (k5.out u4).mono ?_; rintro e u5 ⟨rfl, hb⟩; have hB5 := Lib.hid (below_step hB4.out hb); clear hb)
    | (go_at_call 20; with_reducible refine (k6.out u5).mono ?_; rintro e u6 ⟨rfl, hb⟩; have hB6 := Lib.hid (below_step hB5.out hb); clear hb)
    | (go_at_call 15; with_reducible refine (lives10_any u6).mono ?_; rintro e u7 ⟨rfl, hb⟩; have hB7 := Lib.hid (below_step hB6.out hb); clear hb))
  go_ret
  exact ⟨rfl, hB7.out⟩

set_option maxRecDepth 100000 in
theorem lifted (os : Os) (started : os.Started) (H : Type) (enc : TypeId × Value → H) :
    ReturnsInHanded {} Try.checked os 4 .any (Rows.hash64BytesSpec.pre6 enc Try.prog Try.f4 Rows.hash64BytesRow.domain false) (Rows.hash64BytesSpec.post enc Try.prog Try.f4 false true false false) := by
  refine returnsInHanded_of_change (C := Try.checked) own started (by kernel_rfl) Try.func4
    (ChangeSpec.witness6 (enc := enc) (C := Try.checked) false ⟨#[], #[.string ⟨#[]⟩, .slice none 0 0, .int .u64 0, .int .u64 0], []⟩ 8 (by kernel_rfl) (by kernel_rfl) (by kernel_rfl) (by kernel_rfl)) ?_
  intro W base args ds gs before hval0 hW hcnd _
  have hval : ∀ (j : Nat) t v, Try.f4.params[j]? = some t → args[j]? = some v → Value.okWide Try.prog W .any base t v := hval0
  have hW' := hW
  obtain ⟨p, q, hA0, hV, rfl, hfz, hnd⟩ := hW
  have hA : DataW.TrodAll enc Try.prog W 0 (fun _ => true) true Try.f4.params.toList args.toList ds p := hA0
  rw [Try.params4] at hA hval
  have hAk := hA
  obtain ⟨v0, vs0, d0, ds0, p0, q0, hargs, rfl, hp0, h0, r0⟩ := trodAll_cons hA
  obtain ⟨v1, vs1, d1, ds1, p1, q1, rfl, rfl, hp1, h1, r1⟩ := trodAll_cons r0
  obtain ⟨v2, vs2, d2, ds2, p2, q2, rfl, rfl, hp2, h2, r2⟩ := trodAll_cons r1
  obtain ⟨v3, vs3, d3, ds3, p3, q3, rfl, rfl, hp3, h3, r3⟩ := trodAll_cons r2
  obtain ⟨rfl, rfl, -⟩ := trodAll_nil r3
  obtain rfl : args = #[v0, v1, v2, v3] := by cases args; simp_all
  obtain ⟨rfl, rfl⟩ := trodVars_none hV
  obtain ⟨str0, rfl, -, -, m0⟩ := Go.ChangeMaps.open_string Try.underlying9 (hval 0 9 v0 rfl rfl) h0
  obtain ⟨x1, q1, c1, rfl⟩ := okWide_slice Try.underlying30 (hval 1 30 v1 rfl rfl)
  obtain ⟨fu1, fh1⟩ := h1
  obtain ⟨s1, L1, e1, H1⟩ := open_byte_cells Try.underlying30 Try.underlying5 (by kernel_rfl) fh1
  simp only [Value.cells, List.cons.injEq, and_true] at e1
  obtain rfl := e1.symm
  obtain ⟨a2, rfl, -, -, w2⟩ := open_int Try.underlying25 (hval 2 25 v2 rfl rfl) h2
  obtain ⟨a3, rfl, -, -, w3⟩ := open_int Try.underlying25 (hval 3 25 v3 rfl rfl) h3
  clear hA0 hval0
  simp only [List.append_nil] at hW'
  refine (walk W str0 m0 _ L1 H1 a2 w2 a3 w3).mono fun e W' ⟨he, hb⟩ => ?_
  subst he
  exact ⟨_, rfl, kept_post (pa := p) hW' (fun _ _ _ => (trodAll_cons_mk (shut_bool Try.underlying4 _) trodAll_mk0)) (fun sp hsp => trodAll_stays laid hb (by rw [Try.params4]; decide +kernel) hAk (fun x hx => hW'.lt x hx) hsp) (fun _ => rfl) hb (ok_one (by kernel_rfl) rfl (okWide_bool_mk Try.underlying4 _))⟩

theorem over : Rows.hash64BytesRow.holds Try.pinned (OpenSpec.ofChange Rows.hash64BytesSpec) :=
  OpenClaim.holds_of_wide 4 Try.f4 rfl rfl rfl rfl rfl rfl rfl ⟨rfl, rfl, rfl, rfl, rfl⟩ rfl rfl rfl rfl rfl (by kernel_rfl) Try.func4 (by kernel_rfl)
    (of_decide_eq_true (by kernel_rfl)) (by unfold Func.isWrapper; first | (rw [if_pos (by decide +kernel)]; kernel_rfl) | (rw [if_neg (by decide +kernel)]; exact ⟨rfl, rfl⟩))
    (fun os started H enc _ => lifted os started H enc)

theorem proved : Rows.Hash64BytesSaid :=
  over
#print axioms proved
end Go.Proofs.Ytgbahacodamhjaa.hash64Bytes
