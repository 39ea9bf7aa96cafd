/-
  package unionfind, P8.3, P8.4: for a number of elements from 0 to 14 and up to 30 edges, made of any numbers, the order of the edges, their direction and repeated edges do not affect the islands, and the section's example holds; whatever the arguments are.
-/
import Derived.Test.YtalglkeabppabaaRows
import Derived.WalkKit
import Derived.ProofKit
import Derived.OpenShut
import Derived.Test.YtalglkeabppabaaOpen
import Derived.Test.YtalglkeabppabaaUfY
import Derived.Deep.AppendLies
namespace Go.Proofs.Ytalglkeabppabaa.unionfindOrder
open Go.ChangeShapes Go.WideShapes Go.ChangeAt Go.RowKit
set_option linter.unusedVariables false
set_option linter.unusedSimpArgs false

open Uf
theorem four_one (x y z t : Int) : ∀ u ∈ [Value.int .i64 x, .int .i64 y, .int .i64 z, .int .i64 t], u.oneCell' = true := fun u hu => by
  simp only [List.mem_cons, List.not_mem_nil, or_false] at hu
  rcases hu with rfl | rfl | rfl | rfl <;> rfl
theorem own : ownKnob Try.prog.godebug = none := by kernel_rfl
theorem laid : laidOutB Try.prog = true := by kernel_rfl

set_option maxRecDepth 100000 in
set_option maxHeartbeats 8000000 in
theorem walk (w : World) (a0 : Int) (w0 : (Lit.int .i64 a0).wf = true) (s1 : Value) (Z1 : Nat → Int) (l1 : Nat) (H1 : IntsAt w s1 1 Z1 l1) (a2 : Int) (w2 : (Lit.int .i64 a2).wf = true) :
    Calls Try.prog 7 #[.int .i64 a0, s1, .int .i64 a2] w fun e w' => e = .returned (.bool true) ∧ Below w.heap.size w w' := by
  have H1' := Lib.hid H1
  clear H1
  have hk := sz_le a0
  obtain ⟨k, hkk⟩ : ∃ k, k = sz a0 := ⟨_, rfl⟩
  have kz := Lib.hid (fun W => size8_any a0 W w0)
  rw [← hkk] at hk kz
  clear hkk
  obtain ⟨E, hEE⟩ : ∃ E, E = edgesL Z1 l1 := ⟨_, rfl⟩
  have hE0 : E.length ≤ 30 := by rw [hEE, edgesL_len]; omega
  have ke := Lib.hid (edges_any s1 Z1 l1 w H1'.out)
  rw [← hEE] at ke
  clear hEE
  obtain ⟨b1, b2⟩ := i64_bd w2
  obtain ⟨m, hm⟩ : ∃ m, m = E.length := ⟨_, rfl⟩
  rw [← hm] at hE0
  have hm' := Lib.hid hm
  clear hm
  obtain ⟨c, hc⟩ : ∃ c : Nat, arnd a2 ((m : Int) + 1) = (c : Int) := ⟨(arnd a2 ((m : Int) + 1)).toNat, by have := arnd_bd a2 (m := (m : Int) + 1) (by omega); omega⟩
  have hcm : c ≤ m := by have := arnd_bd a2 (m := (m : Int) + 1) (by omega); omega
  have ka := Lib.hid (fun W => around_any a2 ((m : Int) + 1) W b1 b2 (by omega))
  rw [hc] at ka
  clear hc b1 b2
  obtain ⟨i0, hi0, hz0, hz1, hz2⟩ := info_parts infoP
  have hi0' := Lib.hid hi0; clear hi0
  have hz0' := Lib.hid hz0; clear hz0
  have hz1' := Lib.hid hz1; clear hz1
  have hz2' := Lib.hid hz2; clear hz2
  go_enter Try.func7, Try.ntmps7
  go_wp2_with (first
    | (go_at_call 11; with_reducible refine (kz.out _).mono ?_; rintro e u1 ⟨rfl, rfl⟩)
    | (go_at_call 14; with_reducible refine ke.out.mono ?_; rintro e u1 ⟨v1, rfl, hP, _, hb1⟩; obtain ⟨ea, ecap, rfl, e1, e2, e3⟩ := hP.shape; rw [← hm'.out] at e1 e3 hP ⊢; have hP' := Lib.hid hP; have hb1' := Lib.hid hb1; have e3' := Lib.hid e3; clear hP hb1 e3)
    | (go_at_call 27; with_reducible refine (ka.out _).mono ?_; rintro e u2 ⟨rfl, rfl⟩))
  go_loopw [10, 11] (fun vo i wr => ∃ n : Nat, c ≤ n ∧ n ≤ m ∧ i = .int .i64 ((n : Int) - 1) ∧ wr.ownsRow u1.heap.size 31 2 vo (m - n) (flatP (revE E n)) ∧ Below u1.heap.size u1 wr) (fun _ i _ => (intOf i + 1).toNat)
  case atStart => exact ⟨m, hcm, Nat.le_refl _, rfl, by rw [Nat.sub_self, hm'.out, revE_end]; exact World.ownsRow_nil _ _ _ _, Below.refl _ _⟩
  case round =>
    obtain ⟨n, hcn, hnm, hi, hown, hB⟩ := hrel
    obtain ⟨W0, hW0⟩ : ∃ V, V = wr := ⟨wr, rfl⟩
    subst hW0
    have hB' := Lib.hid hB
    have hown' := Lib.hid hown
    clear hB hown
    by_cases hlt : c < n
    · obtain ⟨q, rfl⟩ : ∃ q, n = q + 1 := ⟨n - 1, by omega⟩
      rw [show (((q + 1 : Nat) : Int) - 1) = (q : Int) from by omega] at hi
      subst hi
      obtain ⟨g2, off, rfl, hg2, hcc⟩ := e3'.out (by omega)
      obtain ⟨p, hp⟩ : ∃ p, E[q]? = some p := ⟨_, List.getElem?_eq_getElem (by rw [← hm'.out]; omega)⟩
      obtain ⟨d0, d1⟩ := hcc q p hp
      have hst := Lib.hid (revE_step hp)
      have hws := hB'.out.size
      obtain ⟨x, y⟩ := p
      simp only at d0 d1
      clear hp hcc
      have mk := Lib.hid (fun w' (h : Below u1.heap.size u1 w') => (⟨carry h d0, carry h d1⟩ : w'.cell? ⟨g2, off + q * 2, none⟩ = some (.int .i64 x) ∧ w'.cell? ⟨g2, off + q * 2 + 1, none⟩ = some (.int .i64 y)))
      obtain ⟨c0, c1⟩ := mk.out _ hB'.out
      clear d0 d1
      have i1 : (0 : Int) ≤ (q : Int) := by omega
      have i2 : (q : Int) < (m : Int) := by omega
      have hnn := Lib.hid (show m - q = m - (q + 1) + 1 from by omega)
      have bD : Below u1.heap.size u1 W0.drew := hB'.out.drew
      have bA : Below u1.heap.size u1 (W0.drew.alloc (.cells #[.int .i64 y, .int .i64 x] 31)) := bD.alloc hws _
      have oA := Lib.hid (World.ownsRow.alloc (World.ownsRow.drew hown'.out) (.cells #[.int .i64 y, .int .i64 x] 31))
      have bC : Below u1.heap.size u1 ((W0.alloc (.cells #[.int .i64 y, .int .i64 x] 31)).drew) := (hB'.out.alloc hws _).drew
      have oC := Lib.hid (World.ownsRow.drew (World.ownsRow.alloc hown'.out (.cells #[.int .i64 y, .int .i64 x] 31)))
      have oR := Lib.hid (World.ownsRow.lt hown'.out)
      go_upto_region 8 with fail
      go_region_held3 (fun w' => w'.cell? ⟨g2, off + q * 2, none⟩ = some (.int .i64 x) ∧ w'.cell? ⟨g2, off + q * 2 + 1, none⟩ = some (.int .i64 y))
        (first | (with_reducible exact mk.out _ bD) | (with_reducible exact mk.out _ bA) | (with_reducible exact mk.out _ hB2) | (with_reducible exact mk.out _ bC))
        (first
          | (refine step_append_lies _ (by rfl) _ _ _ (by rfl) u1.heap.size 31 i0 _ 2 16 Try.underlying27 hi0'.out hz0'.out hz1'.out hz2'.out rfl (by decide) _ (m - (q + 1)) (flatP (revE E (q + 1))) (by rfl) oA.out ⟨W0.heap.size, 0, none⟩ 1 1 [.int .i64 y, .int .i64 x] (by rfl) rfl (cells_new W0.drew _ _ _ rfl) (two_one _ _) (by omega) (by unfold maxLen; omega) (by omega) bA.size _ rfl ?_; intro gb cb w2 hown2 hgrow2 hat2 hlt2; have hown2' := Lib.hid hown2; have hB2 : Below u1.heap.size u1 w2 := bA.grown hgrow2 bA.size (fun j hj => (oR.out j hj).1); clear hown2 hgrow2 hat2 hlt2)
          | (refine step_append_lies _ (by rfl) _ _ _ (by rfl) u1.heap.size 31 i0 _ 2 16 Try.underlying27 hi0'.out hz0'.out hz1'.out hz2'.out rfl (by decide) _ (m - (q + 1)) (flatP (revE E (q + 1))) (by rfl) oC.out ⟨W0.heap.size, 0, none⟩ 1 1 [.int .i64 y, .int .i64 x] (by rfl) rfl (cells_new W0 _ _ _ rfl) (two_one _ _) (by omega) (by unfold maxLen; omega) (by omega) bC.size _ rfl ?_; intro gb cb w2 hown2 hgrow2 hat2 hlt2; have hown2' := Lib.hid hown2; have hB2 : Below u1.heap.size u1 w2 := bC.grown hgrow2 bC.size (fun j hj => (oR.out j hj).1); clear hown2 hgrow2 hat2 hlt2))
      rename_i hHeld
      have hB2' := Lib.hid hB2
      clear hHeld hB2 bD bA bC c0 c1
      go_wp2_with fail
      go_roundw
      case rel => exact ⟨q, by omega, by omega, by go_num, by rw [hst.out, flatP_append, hnn.out]; exact hown2'.out, hB2'.out⟩
      case measure => first | (simp [intOf]; done) | (simp [intOf]; omega)
    · obtain rfl : n = c := by omega
      subst hi
      have n1 : ¬ ((n : Int) ≤ (n : Int) - 1) := by omega
      go_wp2_with fail
      have hown3 := Lib.hid hown'.out
      have hB3 := Lib.hid hB'.out
      clear hown' hB' n1
      go_loopw [10, 12] (fun vo i wr => ∃ t : Nat, t ≤ n ∧ i = .int .i64 (t : Nat) ∧ wr.ownsRow u1.heap.size 31 2 vo (m - n + 2 * t) (flatP (revE E n ++ dupE E t)) ∧ Below u1.heap.size u1 wr) (fun _ i _ => n - (intOf i).toNat)
      case atStart => exact ⟨0, Nat.zero_le _, rfl, by rw [show dupE E 0 = [] from rfl, List.append_nil]; exact hown3.out, hB3.out⟩
      case round =>
        obtain ⟨t, ht, rfl, hown, hB⟩ := hrel
        obtain ⟨W1, hW1⟩ : ∃ V, V = wr := ⟨wr, rfl⟩
        subst hW1
        have hB' := Lib.hid hB
        have hown' := Lib.hid hown
        clear hB hown
        by_cases hlt2 : t < n
        · obtain ⟨g2, off, rfl, hg2, hcc⟩ := e3'.out (by omega)
          obtain ⟨p, hp⟩ : ∃ p, E[t]? = some p := ⟨_, List.getElem?_eq_getElem (by rw [← hm'.out]; omega)⟩
          obtain ⟨d0, d1⟩ := hcc t p hp
          have hst := Lib.hid (dupE_step hp)
          have hws := hB'.out.size
          obtain ⟨x, y⟩ := p
          simp only at d0 d1
          clear hp hcc
          have mk := Lib.hid (fun w' (h : Below u1.heap.size u1 w') => (⟨carry h d0, carry h d1⟩ : w'.cell? ⟨g2, off + t * 2, none⟩ = some (.int .i64 x) ∧ w'.cell? ⟨g2, off + t * 2 + 1, none⟩ = some (.int .i64 y)))
          obtain ⟨c0, c1⟩ := mk.out _ hB'.out
          clear d0 d1
          have i1 : (0 : Int) ≤ (t : Int) := by omega
          have i2 : (t : Int) < (m : Int) := by omega
          have hnn := Lib.hid (show m - n + 2 * (t + 1) = m - n + 2 * t + 2 from by omega)
          have bD : Below u1.heap.size u1 W1.drew := hB'.out.drew
          have bA : Below u1.heap.size u1 (W1.drew.alloc (.cells #[.int .i64 x, .int .i64 y, .int .i64 x, .int .i64 y] 31)) := bD.alloc hws _
          have oA := Lib.hid (World.ownsRow.alloc (World.ownsRow.drew hown'.out) (.cells #[.int .i64 x, .int .i64 y, .int .i64 x, .int .i64 y] 31))
          have bC : Below u1.heap.size u1 ((W1.alloc (.cells #[.int .i64 x, .int .i64 y, .int .i64 x, .int .i64 y] 31)).drew) := (hB'.out.alloc hws _).drew
          have oC := Lib.hid (World.ownsRow.drew (World.ownsRow.alloc hown'.out (.cells #[.int .i64 x, .int .i64 y, .int .i64 x, .int .i64 y] 31)))
          have oR := Lib.hid (World.ownsRow.lt hown'.out)
          go_upto_region 12 with fail
          go_region_held3 (fun w' => w'.cell? ⟨g2, off + t * 2, none⟩ = some (.int .i64 x) ∧ w'.cell? ⟨g2, off + t * 2 + 1, none⟩ = some (.int .i64 y))
            (first | (with_reducible exact mk.out _ bD) | (with_reducible exact mk.out _ bA) | (with_reducible exact mk.out _ hB2) | (with_reducible exact mk.out _ bC))
            (first
              | (refine step_append_lies _ (by rfl) _ _ _ (by rfl) u1.heap.size 31 i0 _ 2 16 Try.underlying27 hi0'.out hz0'.out hz1'.out hz2'.out rfl (by decide) _ (m - n + 2 * t) (flatP (revE E n ++ dupE E t)) (by rfl) oA.out ⟨W1.heap.size, 0, none⟩ 2 2 [.int .i64 x, .int .i64 y, .int .i64 x, .int .i64 y] (by rfl) rfl (cells_new W1.drew _ _ _ rfl) (four_one _ _ _ _) (by omega) (by unfold maxLen; omega) (by omega) bA.size _ rfl ?_; intro gb cb w2 hown2 hgrow2 hat2 hlt2; have hown2' := Lib.hid hown2; have hB2 : Below u1.heap.size u1 w2 := bA.grown hgrow2 bA.size (fun j hj => (oR.out j hj).1); clear hown2 hgrow2 hat2 hlt2)
              | (refine step_append_lies _ (by rfl) _ _ _ (by rfl) u1.heap.size 31 i0 _ 2 16 Try.underlying27 hi0'.out hz0'.out hz1'.out hz2'.out rfl (by decide) _ (m - n + 2 * t) (flatP (revE E n ++ dupE E t)) (by rfl) oC.out ⟨W1.heap.size, 0, none⟩ 2 2 [.int .i64 x, .int .i64 y, .int .i64 x, .int .i64 y] (by rfl) rfl (cells_new W1 _ _ _ rfl) (four_one _ _ _ _) (by omega) (by unfold maxLen; omega) (by omega) bC.size _ rfl ?_; intro gb cb w2 hown2 hgrow2 hat2 hlt2; have hown2' := Lib.hid hown2; have hB2 : Below u1.heap.size u1 w2 := bC.grown hgrow2 bC.size (fun j hj => (oR.out j hj).1); clear hown2 hgrow2 hat2 hlt2))
          rename_i hHeld
          have hB2' := Lib.hid hB2
          clear hHeld hB2 bD bA bC c0 c1
          go_wp2_with fail
          go_roundw
          case rel => exact ⟨t + 1, by omega, by go_num, by rw [hst.out, ← List.append_assoc, flatP_append, hnn.out]; exact hown2'.out, hB2'.out⟩
          case measure => simp [intOf]; omega
        · obtain rfl : t = n := by omega
          have hQ := Lib.hid (PL.owned hown'.out)
          have hP3 := Lib.hid (hP'.out.carry hB'.out)
          have hbb := Lib.hid (below_step hb1'.out hB'.out)
          have hl1 := Lib.hid (show E.length ≤ 10000 from by rw [← hm'.out]; omega)
          have hl2 := Lib.hid (show (revE E t ++ dupE E t).length ≤ 10000 from by rw [List.length_append, revE_len, dupE_len, ← hm'.out]; omega)
          have hsame := Lib.hid (other_same k E t)
          clear hown3 hB3 hown' hB'
          go_wp2_with (first
            | (go_at_call 23; with_reducible refine (islands_any k _ E W1 hP3.out (by omega) hl1.out).mono ?_; rintro e y2 ⟨v2, rfl, hG, hb2⟩; have hG' := Lib.hid hG; have hQ2 := Lib.hid (hQ.out.carry hb2); have hb2' := Lib.hid (below_step hbb.out hb2); clear hG hb2)
            | (go_at_call 23; with_reducible refine (islands_any k _ _ y2 hQ2.out (by omega) hl2.out).mono ?_; rintro e y3 ⟨v3, rfl, hR, hb3⟩; rw [← hsame.out] at hR; have hR' := Lib.hid hR.gl; have hG3 := Lib.hid (hG'.out.gl.carry hb3); have hb3' := Lib.hid (below_step hb2'.out hb3); clear hR hb3)
            | (go_at_call 19; with_reducible refine (equalG_any v2 v3 _ _ y3 hG3.out hR'.out).mono ?_; rintro e y4 ⟨rfl, hb4⟩; rw [decide_eq_true rfl]; have hb4' := Lib.hid (below_step hb3'.out hb4); clear hb4)
            | (go_at_call 22; with_reducible refine (lives8_any y4).mono ?_; rintro e y5 ⟨rfl, hb5⟩; have hb5' := Lib.hid (below_step hb4'.out hb5); clear hb5))
          go_ret
          exact ⟨rfl, hb5'.out⟩

set_option maxRecDepth 100000 in
theorem lifted (os : Os) (started : os.Started) (H : Type) (enc : TypeId × Value → H) :
    ReturnsInHanded {} Try.checked os 7 .any (Rows.unionfindOrderSpec.pre6 enc Try.prog Try.f7 Rows.unionfindOrderRow.domain false) (Rows.unionfindOrderSpec.post enc Try.prog Try.f7 false true false false) := by
  refine returnsInHanded_of_change (C := Try.checked) own started (by kernel_rfl) Try.func7
    (ChangeSpec.witness6 (enc := enc) (C := Try.checked) false ⟨#[], #[.int .i64 0, .slice none 0 0, .int .i64 0], []⟩ 8 (by kernel_rfl) (by kernel_rfl) (by kernel_rfl) (by kernel_rfl)) ?_
  intro W base args ds gs before hval0 hW hcnd _
  have hval : ∀ (j : Nat) t v, Try.f7.params[j]? = some t → args[j]? = some v → Value.okWide Try.prog W .any base t v := hval0
  have hW' := hW
  obtain ⟨p, q, hA0, hV, rfl, hfz, hnd⟩ := hW
  have hA : DataW.TrodAll enc Try.prog W 0 (fun _ => true) true Try.f7.params.toList args.toList ds p := hA0
  rw [Try.params7] at hA hval
  have hAk := hA
  obtain ⟨v0, vs0, d0, ds0, p0, q0, hargs, rfl, hp0, h0, r0⟩ := trodAll_cons hA
  obtain ⟨v1, vs1, d1, ds1, p1, q1, rfl, rfl, hp1, h1, r1⟩ := trodAll_cons r0
  obtain ⟨v2, vs2, d2, ds2, p2, q2, rfl, rfl, hp2, h2, r2⟩ := trodAll_cons r1
  obtain ⟨rfl, rfl, -⟩ := trodAll_nil r2
  obtain rfl : args = #[v0, v1, v2] := by cases args; simp_all
  obtain ⟨rfl, rfl⟩ := trodVars_none hV
  obtain ⟨a0, rfl, -, -, w0⟩ := open_int Try.underlying3 (hval 0 3 v0 rfl rfl) h0
  obtain ⟨x1, q1, c1, rfl⟩ := okWide_slice Try.underlying22 (hval 1 22 v1 rfl rfl)
  obtain ⟨fu1, fh1⟩ := h1
  obtain ⟨s1, Z1, l1, e1, H1⟩ := open_int_cells Try.underlying22 Try.underlying3 (by kernel_rfl) fh1
  simp only [Value.cells, List.cons.injEq, and_true] at e1
  obtain rfl := e1.symm
  obtain ⟨a2, rfl, -, -, w2⟩ := open_int Try.underlying3 (hval 2 3 v2 rfl rfl) h2
  clear hA0 hval0
  simp only [List.append_nil] at hW'
  refine (walk W a0 w0 _ Z1 l1 H1 a2 w2).mono fun e W' ⟨he, hb⟩ => ?_
  subst he
  exact ⟨_, rfl, kept_post (pa := p) hW' (fun _ _ _ => (trodAll_cons_mk (shut_bool Try.underlying4 _) trodAll_mk0)) (fun sp hsp => trodAll_stays laid hb (by rw [Try.params7]; decide +kernel) hAk (fun x hx => hW'.lt x hx) hsp) (fun _ => rfl) hb (ok_one (by kernel_rfl) rfl (okWide_bool_mk Try.underlying4 _))⟩

theorem over : Rows.unionfindOrderRow.holds Try.pinned (OpenSpec.ofChange Rows.unionfindOrderSpec) :=
  OpenClaim.holds_of_wide 7 Try.f7 rfl rfl rfl rfl rfl rfl rfl ⟨rfl, rfl, rfl, rfl, rfl⟩ rfl rfl rfl rfl rfl (by kernel_rfl) Try.func7 (by kernel_rfl)
    (of_decide_eq_true (by kernel_rfl)) (by unfold Func.isWrapper; first | (rw [if_pos (by decide +kernel)]; kernel_rfl) | (rw [if_neg (by decide +kernel)]; exact ⟨rfl, rfl⟩))
    (fun os started H enc _ => lifted os started H enc)

theorem proved : Rows.UnionfindOrderSaid :=
  over
#print axioms proved
end Go.Proofs.Ytalglkeabppabaa.unionfindOrder
