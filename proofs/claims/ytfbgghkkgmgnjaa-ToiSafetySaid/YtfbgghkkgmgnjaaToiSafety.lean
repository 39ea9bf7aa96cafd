/-
  package toi, P6.2, P5.2: for every two bodies made of numbers that do not touch at the start, the result is a multiple of One/8, they do not touch up to the sub-step that belongs to it, and if it is less than One they touch after the next one; and the section's example holds; whatever the arguments are.
-/
import Derived.Test.YtfbgghkkgmgnjaaRows
import Derived.WalkKit
import Derived.ProofKit
import Derived.OpenShut
import Derived.Test.YtfbgghkkgmgnjaaOpen
import Derived.Test.YtfbgghkkgmgnjaaToiD
import Derived.Test.YtfbgghkkgmgnjaaToiE
namespace Go.Proofs.Ytfbgghkkgmgnjaa.toiSafety
open Go.ChangeShapes Go.WideShapes Go.ChangeAt Go.RowKit
set_option linter.unusedVariables false
set_option linter.unusedSimpArgs false

open Fxm
theorem own : ownKnob Try.prog.godebug = none := by kernel_rfl
theorem laid : laidOutB Try.prog = true := by kernel_rfl

set_option maxRecDepth 100000 in
set_option maxHeartbeats 8000000 in
theorem walk (w : World) (s0 : Value) (Z0 : Nat → Int) (l0 : Nat) (H0 : IntsAt w s0 1 Z0 l0) :
    Calls Try.prog 7 #[s0] w fun e w' => e = .returned (.bool true) ∧ Below w.heap.size w w' := by
  have H0' := Lib.hid H0
  clear H0
  go_enter Try.func7, Try.ntmps7
  go_wp2_with fail
  refine (pair_any _ _ _ _ H0'.out).mono ?_
  rintro e u1 ⟨⟨s, t, p0, p1, v0, v1, q0, q1, y0, y1, ok, rfl, hs, ht⟩, hB⟩
  have hwA : w.heap.size ≤ u1.heap.size := hB.size
  go_upto_region 2 with fail
  have hA := (Below.heap_alloc (u1.alloc (bodyO s p0 p1 v0 v1)) (bodyO t q0 q1 y0 y1) u1.heap.size (by simp)).trans (World.alloc_heap_new u1 (bodyO s p0 p1 v0 v1))
  have hBo := World.alloc_heap_new (u1.alloc (bodyO s p0 p1 v0 v1)) (bodyO t q0 q1 y0 y1)
  rw [World.size_alloc] at hBo
  have hb2 := below_step (alloc_below u1 (bodyO s p0 p1 v0 v1)) (alloc_below _ (bodyO t q0 q1 y0 y1))
  obtain ⟨V, hV⟩ : ∃ V, V = (u1.alloc (bodyO s p0 p1 v0 v1)).alloc (bodyO t q0 q1 y0 y1) := ⟨_, rfl⟩
  rw [← hV] at hA hBo hb2
  rw [show (u1.alloc (.cells #[.int .i64 s.r, .slice s.a s.n s.cap, .int .i64 (p0), .int .i64 (p1), .int .i64 (v0), .int .i64 (v1)] 50)).alloc (.cells #[.int .i64 t.r, .slice t.a t.n t.cap, .int .i64 (q0), .int .i64 (q1), .int .i64 (y0), .int .i64 (y1)] 50) = V from hV.symm]
  replace hB := below_step hB hb2
  have hsh := Lib.hid (And.intro (hs.carry hb2) (ht.carry hb2))
  have op0 : Po p0 := by have := ok.p0; unfold Po; omega
  have op1 : Po p1 := by have := ok.p1; unfold Po; omega
  have oq0 : Po q0 := by have := ok.q0; unfold Po; omega
  have oq1 : Po q1 := by have := ok.q1; unfold Po; omega
  have ov0 := ok.v0
  have ov1 := ok.v1
  have oy0 := ok.u0
  have oy1 := ok.u1
  have hok := Lib.hid ok
  clear hV hb2 hs ht ok H0'
  generalize u1.heap.size = A at *
  have hT := Lib.hid (fun (k : Int) (hk : 0 ≤ k ∧ k ≤ 8) w (h : Sh w s) (h' : Sh w t) => touch6_any s t p0 p1 v0 v1 q0 q1 y0 y1 k w h h' hk op0 op1 ov0 ov1 oq0 oq1 oy0 oy1)
  have hE := Lib.hid (fun w (h : Sh w s) (h' : Sh w t) => earliest6_any s t p0 p1 v0 v1 q0 q1 y0 y1 w h h' op0 op1 ov0 ov1 oq0 oq1 oy0 oy1)
  generalize tch s t (p0, p1) (v0, v1) (q0, q1) (y0, y1) = T at hT hE
  obtain ⟨a0, a1, a2, a3, a4, a5⟩ := body_cells hA
  obtain ⟨b0, b1, b2, b3, b4, b5⟩ := body_cells hBo
  go_wp2_with fail
  refine (hE.out _ hsh.out.1 hsh.out.2).mono ?_
  rintro e u2 ⟨⟨f, rfl, hf⟩, hb1⟩
  replace a0 := carry (hb1) a0
  replace a1 := carry (hb1) a1
  replace a2 := carry (hb1) a2
  replace a3 := carry (hb1) a3
  replace a4 := carry (hb1) a4
  replace a5 := carry (hb1) a5
  replace b0 := carry (hb1) b0
  replace b1 := carry (hb1) b1
  replace b2 := carry (hb1) b2
  replace b3 := carry (hb1) b3
  replace b4 := carry (hb1) b4
  replace b5 := carry (hb1) b5
  replace hB := below_step hB hb1
  replace hsh := Lib.hid (And.intro (hsh.out.1.carry hb1) (hsh.out.2.carry hb1))
  clear hb1
  clear hE
  rcases hf.form with ⟨hT0, rfl⟩ | ⟨k, hk, hall, hnext, hfk⟩
  · go_wp2_with fail
    refine (hT.out 0 (by omega) _ hsh.out.1 hsh.out.2).mono ?_
    rintro e u3 ⟨rfl, hb1⟩
    rw [hT0]
    replace a0 := carry (hb1) a0
    replace a1 := carry (hb1) a1
    replace a2 := carry (hb1) a2
    replace a3 := carry (hb1) a3
    replace a4 := carry (hb1) a4
    replace a5 := carry (hb1) a5
    replace b0 := carry (hb1) b0
    replace b1 := carry (hb1) b1
    replace b2 := carry (hb1) b2
    replace b3 := carry (hb1) b3
    replace b4 := carry (hb1) b4
    replace b5 := carry (hb1) b5
    replace hB := below_step hB hb1
    replace hsh := Lib.hid (And.intro (hsh.out.1.carry hb1) (hsh.out.2.carry hb1))
    clear hb1
    go_wp2_with fail
    refine (lives6_any _).mono ?_
    rintro e u4 ⟨rfl, hb2⟩
    go_wp2
    go_ret
    exact ⟨rfl, below_step hB hb2⟩
  · have f0 : 0 ≤ f := by omega
    have f1 : f ≤ 1024 := by omega
    have fm : f % 128 = 0 := by omega
    have fk : f * 8 / 1024 = (k : Int) := by omega
    have hT0 : T 0 = false := hall 0 (Nat.zero_le _)
    have hall' := Lib.hid hall
    have hnext' := Lib.hid hnext
    have hfk' := Lib.hid hfk
    have fk' := Lib.hid fk
    clear hall hnext hfk fk hf
    go_wp2_with fail
    refine (hT.out 0 (by omega) _ hsh.out.1 hsh.out.2).mono ?_
    rintro e u3 ⟨rfl, hb1⟩
    rw [hT0]
    replace a0 := carry (hb1) a0
    replace a1 := carry (hb1) a1
    replace a2 := carry (hb1) a2
    replace a3 := carry (hb1) a3
    replace a4 := carry (hb1) a4
    replace a5 := carry (hb1) a5
    replace b0 := carry (hb1) b0
    replace b1 := carry (hb1) b1
    replace b2 := carry (hb1) b2
    replace b3 := carry (hb1) b3
    replace b4 := carry (hb1) b4
    replace b5 := carry (hb1) b5
    replace hB := below_step hB hb1
    replace hsh := Lib.hid (And.intro (hsh.out.1.carry hb1) (hsh.out.2.carry hb1))
    clear hb1
    go_upto_region 8 with fail
    rw [fk'.out]
    clear fm hT0
    go_wp2_with fail
    go_loopw [7] (fun i wr => ∃ j : Nat, j ≤ k + 1 ∧ i = .int .i64 j ∧ Below u3.heap.size u3 wr) (fun i _ => k + 1 - (intOf i).toNat)
    case atStart => exact ⟨0, by omega, rfl, Below.refl _ _⟩
    case round =>
      obtain ⟨j, hj, rfl, hbl⟩ := hrel
      replace a0 := carry (hbl) a0
      replace a1 := carry (hbl) a1
      replace a2 := carry (hbl) a2
      replace a3 := carry (hbl) a3
      replace a4 := carry (hbl) a4
      replace a5 := carry (hbl) a5
      replace b0 := carry (hbl) b0
      replace b1 := carry (hbl) b1
      replace b2 := carry (hbl) b2
      replace b3 := carry (hbl) b3
      replace b4 := carry (hbl) b4
      replace b5 := carry (hbl) b5
      by_cases hjk : j ≤ k
      · have hjk' : (j : Int) ≤ (k : Int) := by omega
        go_wp2_with fail
        refine (hT.out (j : Int) (by omega) _ (hsh.out.1.carry hbl) (hsh.out.2.carry hbl)).mono ?_
        rintro e u4 ⟨rfl, hb1⟩
        rw [hall'.out j hjk]
        have hbl2 := below_step hbl hb1
        clear hb1
        go_wp2
        go_roundw
        case rel => exact ⟨j + 1, by omega, by go_num, hbl2⟩
        case measure => simp [intOf]; omega
      · obtain rfl : j = k + 1 := by omega
        have hjk' : ¬ ((k + 1 : Nat) : Int) ≤ (k : Int) := by omega
        by_cases h8 : k = 8
        · have e1 : (f == 1024) = true := by rw [hfk'.out, h8]; rfl
          have e2 : decide (f = 1024) = true := decide_eq_true (by rw [hfk'.out, h8]; rfl)
          clear h8
          go_wp2_with fail
          refine (lives6_any _).mono ?_
          rintro e u4 ⟨rfl, hb2⟩
          go_wp2
          go_ret
          exact ⟨rfl, below_step hB (below_step hbl hb2)⟩
        · have hne : f ≠ 1024 := by have := hfk'.out; omega
          have e1 : (f == 1024) = false := by simp only [beq_eq_false_iff_ne, ne_eq]; exact hne
          have e2 : decide (f = 1024) = false := decide_eq_false hne
          go_wp2_with fail
          refine (hT.out ((k : Int) + 1) (by omega) _ (hsh.out.1.carry hbl) (hsh.out.2.carry hbl)).mono ?_
          rintro e u4 ⟨rfl, hb1⟩
          rw [hnext'.out (by omega)]
          have hbl2 := below_step hbl hb1
          clear hb1
          go_wp2_with fail
          refine (lives6_any _).mono ?_
          rintro e u5 ⟨rfl, hb2⟩
          go_wp2
          go_ret
          exact ⟨rfl, below_step hB (below_step hbl2 hb2)⟩

set_option maxRecDepth 100000 in
theorem lifted (os : Os) (started : os.Started) (H : Type) (enc : TypeId × Value → H) :
    ReturnsInHanded {} Try.checked os 7 .any (Rows.toiSafetySpec.pre6 enc Try.prog Try.f7 Rows.toiSafetyRow.domain false) (Rows.toiSafetySpec.post enc Try.prog Try.f7 false true false false) := by
  refine returnsInHanded_of_change (C := Try.checked) own started (by kernel_rfl) Try.func7
    (ChangeSpec.witness6 (enc := enc) (C := Try.checked) false ⟨#[], #[.slice none 0 0], []⟩ 8 (by kernel_rfl) (by kernel_rfl) (by kernel_rfl) (by kernel_rfl)) ?_
  intro W base args ds gs before hval0 hW hcnd _
  have hval : ∀ (j : Nat) t v, Try.f7.params[j]? = some t → args[j]? = some v → Value.okWide Try.prog W .any base t v := hval0
  have hW' := hW
  obtain ⟨p, q, hA0, hV, rfl, hfz, hnd⟩ := hW
  have hA : DataW.TrodAll enc Try.prog W 0 (fun _ => true) true Try.f7.params.toList args.toList ds p := hA0
  rw [Try.params7] at hA hval
  have hAk := hA
  obtain ⟨v0, vs0, d0, ds0, p0, q0, hargs, rfl, hp0, h0, r0⟩ := trodAll_cons hA
  obtain ⟨rfl, rfl, -⟩ := trodAll_nil r0
  obtain rfl : args = #[v0] := by cases args; simp_all
  obtain ⟨rfl, rfl⟩ := trodVars_none hV
  obtain ⟨x0, q0, c0, rfl⟩ := okWide_slice Try.underlying48 (hval 0 48 v0 rfl rfl)
  obtain ⟨fu0, fh0⟩ := h0
  obtain ⟨s0, Z0, l0, e0, H0⟩ := open_int_cells Try.underlying48 Try.underlying3 (by kernel_rfl) fh0
  simp only [Value.cells, List.cons.injEq, and_true] at e0
  obtain rfl := e0.symm
  clear hA0 hval0
  simp only [List.append_nil] at hW'
  refine (walk W _ Z0 l0 H0).mono fun e W' ⟨he, hb⟩ => ?_
  subst he
  exact ⟨_, rfl, kept_post (pa := p) hW' (fun _ _ _ => (trodAll_cons_mk (shut_bool Try.underlying4 _) trodAll_mk0)) (fun sp hsp => trodAll_stays laid hb (by rw [Try.params7]; decide +kernel) hAk (fun x hx => hW'.lt x hx) hsp) (fun _ => rfl) hb (ok_one (by kernel_rfl) rfl (okWide_bool_mk Try.underlying4 _))⟩

theorem over : Rows.toiSafetyRow.holds Try.pinned (OpenSpec.ofChange Rows.toiSafetySpec) :=
  OpenClaim.holds_of_wide 7 Try.f7 rfl rfl rfl rfl rfl rfl rfl ⟨rfl, rfl, rfl, rfl, rfl⟩ rfl rfl rfl rfl rfl (by kernel_rfl) Try.func7 (by kernel_rfl)
    (of_decide_eq_true (by kernel_rfl)) (by unfold Func.isWrapper; first | (rw [if_pos (by decide +kernel)]; kernel_rfl) | (rw [if_neg (by decide +kernel)]; exact ⟨rfl, rfl⟩))
    (fun os started H enc _ => lifted os started H enc)

theorem proved : Rows.ToiSafetySaid :=
  over
#print axioms proved
end Go.Proofs.Ytfbgghkkgmgnjaa.toiSafety
