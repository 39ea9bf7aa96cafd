/-
  package toi, P6.1: for every two bodies made of numbers, the result is the reference's: the first sub-step of eight at which the two touch, one back; and the section's example holds; whatever the arguments are.
-/
import Derived.Test.YtfbgghkkgmgnjaaRows
import Derived.WalkKit
import Derived.ProofKit
import Derived.OpenShut
import Derived.Test.YtfbgghkkgmgnjaaOpen
import Derived.Test.YtfbgghkkgmgnjaaToiD
import Derived.Test.YtfbgghkkgmgnjaaToiE
import Derived.Test.YtfbgghkkgmgnjaaToiH
namespace Go.Proofs.Ytfbgghkkgmgnjaa.toiModel
open Go.ChangeShapes Go.WideShapes Go.ChangeAt Go.RowKit
set_option linter.unusedVariables false
set_option linter.unusedSimpArgs false

open Fxm
open Classical in
theorem early_ex (T : Int → Bool) : ∃ f, Early T f := by
  cases h0 : T 0 with
  | true => exact ⟨1024, .inl ⟨h0, rfl⟩⟩
  | false =>
    have h0' : ∀ i : Nat, i ≤ 0 → T i = false := fun i hi => by
      obtain rfl : i = 0 := by omega
      exact h0
    have step : ∀ n : Nat, n ≤ 8 → (∃ f, Early T f) ∨ (∀ i : Nat, i ≤ n → T i = false) := by
      intro n
      induction n with
      | zero => intro _; exact .inr h0'
      | succ n ih =>
        intro hn
        rcases ih (by omega) with h | h
        · exact .inl h
        · cases h1 : T ((n : Int) + 1) with
          | true => exact .inl ⟨(n : Int) * 128, .inr (.inl ⟨n, by omega, h, h1, rfl⟩)⟩
          | false =>
            refine .inr fun i hi => ?_
            rcases Nat.lt_or_ge n i with hlt | hge
            · obtain rfl : i = n + 1 := by omega
              rw [Int.natCast_add]; exact h1
            · exact h i hge
    rcases step 8 (by omega) with h | h
    · exact h
    · exact ⟨1024, .inr (.inr ⟨h, rfl⟩)⟩
theorem own : ownKnob Try.prog.godebug = none := by kernel_rfl
theorem laid : laidOutB Try.prog = true := by kernel_rfl

set_option maxRecDepth 100000 in
set_option maxHeartbeats 8000000 in
theorem walk (w : World) (s0 : Value) (Z0 : Nat → Int) (l0 : Nat) (H0 : IntsAt w s0 1 Z0 l0) :
    Calls Try.prog 6 #[s0] w fun e w' => e = .returned (.bool true) ∧ Below w.heap.size w w' := by
  have H0' := Lib.hid H0
  clear H0
  go_enter Try.func6, Try.ntmps6
  go_wp2_with fail
  refine (pair_any _ _ _ _ H0'.out).mono ?_
  rintro e u1 ⟨⟨s, t, p0, p1, v0, v1, q0, q1, y0, y1, ok, rfl, hs, ht⟩, hB⟩
  have hwA : w.heap.size ≤ u1.heap.size := hB.size
  go_upto_region 2 with fail
  have hA := (Below.heap_alloc (u1.alloc (bodyO s p0 p1 v0 v1)) (bodyO t q0 q1 y0 y1) u1.heap.size (by simp)).trans (World.alloc_heap_new u1 (bodyO s p0 p1 v0 v1))
  have hBo := World.alloc_heap_new (u1.alloc (bodyO s p0 p1 v0 v1)) (bodyO t q0 q1 y0 y1)
  rw [World.size_alloc] at hBo
  have hb2 := below_step (alloc_below u1 (bodyO s p0 p1 v0 v1)) (alloc_below _ (bodyO t q0 q1 y0 y1))
  obtain ⟨V, hV⟩ : ∃ V, V = (u1.alloc (bodyO s p0 p1 v0 v1)).alloc (bodyO t q0 q1 y0 y1) := ⟨_, rfl⟩
  rw [← hV] at hA hBo hb2
  rw [show (u1.alloc (.cells #[.int .i64 s.r, .slice s.a s.n s.cap, .int .i64 (p0), .int .i64 (p1), .int .i64 (v0), .int .i64 (v1)] 50)).alloc (.cells #[.int .i64 t.r, .slice t.a t.n t.cap, .int .i64 (q0), .int .i64 (q1), .int .i64 (y0), .int .i64 (y1)] 50) = V from hV.symm]
  replace hB := below_step hB hb2
  have hsh := Lib.hid (And.intro (hs.carry hb2) (ht.carry hb2))
  have op0 : Po p0 := by have := ok.p0; unfold Po; omega
  have op1 : Po p1 := by have := ok.p1; unfold Po; omega
  have oq0 : Po q0 := by have := ok.q0; unfold Po; omega
  have oq1 : Po q1 := by have := ok.q1; unfold Po; omega
  have ov0 := ok.v0
  have ov1 := ok.v1
  have oy0 := ok.u0
  have oy1 := ok.u1
  have hok := Lib.hid ok
  clear hV hb2 hs ht ok H0'
  generalize u1.heap.size = A at *
  obtain ⟨a0, a1, a2, a3, a4, a5⟩ := body_cells hA
  obtain ⟨b0, b1, b2, b3, b4, b5⟩ := body_cells hBo
  obtain ⟨f, hf⟩ := early_ex (tch s t (p0, p1) (v0, v1) (q0, q1) (y0, y1))
  have k1 : ∀ w, Sh w s → Sh w t → Calls Try.prog 28 #[.agg #[.int .i64 s.r, .slice s.a s.n s.cap, .int .i64 (p0), .int .i64 (p1), .int .i64 (v0), .int .i64 (v1)], .agg #[.int .i64 t.r, .slice t.a t.n t.cap, .int .i64 (q0), .int .i64 (q1), .int .i64 (y0), .int .i64 (y1)]] w fun e w' => e = .returned (.int .i64 f) ∧ Below w.heap.size w w' := fun w h h' => (earliest6_any s t p0 p1 v0 v1 q0 q1 y0 y1 w h h' op0 op1 ov0 ov1 oq0 oq1 oy0 oy1).mono (by
    rintro e w' ⟨⟨g, rfl, hg⟩, hb⟩
    rw [hg.unique hf]
    exact ⟨rfl, hb⟩)
  have k2 : ∀ w, Sh w s → Sh w t → Calls Try.prog 29 #[.agg #[.int .i64 s.r, .slice s.a s.n s.cap], .agg #[.int .i64 p0, .int .i64 p1], .agg #[.int .i64 v0, .int .i64 v1], .agg #[.int .i64 t.r, .slice t.a t.n t.cap], .agg #[.int .i64 q0, .int .i64 q1], .agg #[.int .i64 y0, .int .i64 y1]] w fun e w' => e = .returned (.int .i64 f) ∧ Below w.heap.size w w' := fun w h h' => (refEarliest_any s t p0 p1 v0 v1 q0 q1 y0 y1 w h h' op0 op1 ov0 ov1 oq0 oq1 oy0 oy1).mono (by
    rintro e w' ⟨⟨g, rfl, hg⟩, hb⟩
    rw [hg.unique hf]
    exact ⟨rfl, hb⟩)
  have k3 := fun w => lives6_any w
  have hk := Lib.hid (And.intro k1 (And.intro k2 k3))
  clear k1 k2 k3 hf hA hBo hwA
  have hff : (f == f) = true := by simp
  have hBV := Lib.hid hB
  clear hB
  refine wp_region_made (by kernel_rfl) (by kernel_rfl) ?_
  intro W hK
  have g_a0 := fun x => carry ((hK.below x)) a0
  have g_a1 := fun x => carry ((hK.below x)) a1
  have g_a2 := fun x => carry ((hK.below x)) a2
  have g_a3 := fun x => carry ((hK.below x)) a3
  have g_a4 := fun x => carry ((hK.below x)) a4
  have g_a5 := fun x => carry ((hK.below x)) a5
  have g_b0 := fun x => carry ((hK.below x)) b0
  have g_b1 := fun x => carry ((hK.below x)) b1
  have g_b2 := fun x => carry ((hK.below x)) b2
  have g_b3 := fun x => carry ((hK.below x)) b3
  have g_b4 := fun x => carry ((hK.below x)) b4
  have g_b5 := fun x => carry ((hK.below x)) b5
  repeat (go_big_quiet_step ((first | (go_at_call 28; with_reducible exact met_made (hk.out.1 _ (hsh.out.1.carry (hK.below _)) (hsh.out.2.carry (hK.below _)))) | (go_at_call 29; with_reducible exact met_made (hk.out.2.1 _ (hsh.out.1.carry (hK.below _)) (hsh.out.2.carry (hK.below _)))) | (go_at_call 30; with_reducible exact met_made (hk.out.2.2 _)))))
  refine wpQuiet_nil ?_
  intro wq hw'
  have hbq := kept_in hK hw'
  clear g_a0 g_a1 g_a2 g_a3 g_a4 g_a5 g_b0 g_b1 g_b2 g_b3 g_b4 g_b5
  clear hw' hK W
  replace a0 := carry (hbq) a0
  replace a1 := carry (hbq) a1
  replace a2 := carry (hbq) a2
  replace a3 := carry (hbq) a3
  replace a4 := carry (hbq) a4
  replace a5 := carry (hbq) a5
  replace b0 := carry (hbq) b0
  replace b1 := carry (hbq) b1
  replace b2 := carry (hbq) b2
  replace b3 := carry (hbq) b3
  replace b4 := carry (hbq) b4
  replace b5 := carry (hbq) b5
  go_wp2
  go_ret
  exact ⟨rfl, below_step hBV.out hbq⟩

set_option maxRecDepth 100000 in
theorem lifted (os : Os) (started : os.Started) (H : Type) (enc : TypeId × Value → H) :
    ReturnsInHanded {} Try.checked os 6 .any (Rows.toiModelSpec.pre6 enc Try.prog Try.f6 Rows.toiModelRow.domain false) (Rows.toiModelSpec.post enc Try.prog Try.f6 false true false false) := by
  refine returnsInHanded_of_change (C := Try.checked) own started (by kernel_rfl) Try.func6
    (ChangeSpec.witness6 (enc := enc) (C := Try.checked) false ⟨#[], #[.slice none 0 0], []⟩ 8 (by kernel_rfl) (by kernel_rfl) (by kernel_rfl) (by kernel_rfl)) ?_
  intro W base args ds gs before hval0 hW hcnd _
  have hval : ∀ (j : Nat) t v, Try.f6.params[j]? = some t → args[j]? = some v → Value.okWide Try.prog W .any base t v := hval0
  have hW' := hW
  obtain ⟨p, q, hA0, hV, rfl, hfz, hnd⟩ := hW
  have hA : DataW.TrodAll enc Try.prog W 0 (fun _ => true) true Try.f6.params.toList args.toList ds p := hA0
  rw [Try.params6] at hA hval
  have hAk := hA
  obtain ⟨v0, vs0, d0, ds0, p0, q0, hargs, rfl, hp0, h0, r0⟩ := trodAll_cons hA
  obtain ⟨rfl, rfl, -⟩ := trodAll_nil r0
  obtain rfl : args = #[v0] := by cases args; simp_all
  obtain ⟨rfl, rfl⟩ := trodVars_none hV
  obtain ⟨x0, q0, c0, rfl⟩ := okWide_slice Try.underlying48 (hval 0 48 v0 rfl rfl)
  obtain ⟨fu0, fh0⟩ := h0
  obtain ⟨s0, Z0, l0, e0, H0⟩ := open_int_cells Try.underlying48 Try.underlying3 (by kernel_rfl) fh0
  simp only [Value.cells, List.cons.injEq, and_true] at e0
  obtain rfl := e0.symm
  clear hA0 hval0
  simp only [List.append_nil] at hW'
  refine (walk W _ Z0 l0 H0).mono fun e W' ⟨he, hb⟩ => ?_
  subst he
  exact ⟨_, rfl, kept_post (pa := p) hW' (fun _ _ _ => (trodAll_cons_mk (shut_bool Try.underlying4 _) trodAll_mk0)) (fun sp hsp => trodAll_stays laid hb (by rw [Try.params6]; decide +kernel) hAk (fun x hx => hW'.lt x hx) hsp) (fun _ => rfl) hb (ok_one (by kernel_rfl) rfl (okWide_bool_mk Try.underlying4 _))⟩

theorem over : Rows.toiModelRow.holds Try.pinned (OpenSpec.ofChange Rows.toiModelSpec) :=
  OpenClaim.holds_of_wide 6 Try.f6 rfl rfl rfl rfl rfl rfl rfl ⟨rfl, rfl, rfl, rfl, rfl⟩ rfl rfl rfl rfl rfl (by kernel_rfl) Try.func6 (by kernel_rfl)
    (of_decide_eq_true (by kernel_rfl)) (by unfold Func.isWrapper; first | (rw [if_pos (by decide +kernel)]; kernel_rfl) | (rw [if_neg (by decide +kernel)]; exact ⟨rfl, rfl⟩))
    (fun os started H enc _ => lifted os started H enc)

theorem proved : Rows.ToiModelSaid :=
  over
#print axioms proved
end Go.Proofs.Ytfbgghkkgmgnjaa.toiModel
