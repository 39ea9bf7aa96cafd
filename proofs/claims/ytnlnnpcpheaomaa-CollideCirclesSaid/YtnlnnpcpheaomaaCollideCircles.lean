/-
  package collide, P5.2: for all pairs of circles whose radii and distance are at least One, up to an error of 3 plus 1/256 of the distance, Depth is at most the sum of the radii minus the distance, and they collide exactly if the distance is less than the sum of the radii; and the section's example holds; whatever the arguments are.
-/
import Derived.Test.YtnlnnpcpheaomaaRows
import Derived.WalkKit
import Derived.ProofKit
import Derived.OpenShut
import Derived.Test.YtnlnnpcpheaomaaLawKit
import Derived.Test.YtnlnnpcpheaomaaCollO
import Derived.WalkLawsBesides
import Derived.Deep.DeepCutAuto
import Derived.Deep.CutBlock
namespace Go.Proofs.Ytnlnnpcpheaomaa.collideCircles
open Go.ChangeShapes Go.WideShapes Go.ChangeAt Go.RowKit
set_option linter.unusedVariables false
set_option linter.unusedSimpArgs false

open Fxm
theorem own : ownKnob Try.prog.godebug = none := by kernel_rfl

set_option maxRecDepth 100000 in
set_option maxHeartbeats 8000000 in
theorem walk (a0 : Int) (w0 : (Lit.int .i64 a0).wf = true) (a1 : Int) (w1 : (Lit.int .i64 a1).wf = true) (a2_0 : Int) (a2_1 : Int) (a2_2 : Int) (a2_3 : Int) (w2_0 : (Lit.int .i64 a2_0).wf = true) (w2_1 : (Lit.int .i64 a2_1).wf = true) (w2_2 : (Lit.int .i64 a2_2).wf = true) (w2_3 : (Lit.int .i64 a2_3).wf = true) (w : World) :
    Calls Try.prog 9 #[.int .i64 a0, .int .i64 a1, .agg #[.int .i64 a2_0, .int .i64 a2_1, .int .i64 a2_2, .int .i64 a2_3]] w fun e w' => e = .returned (.bool true) ∧ Below w.heap.size w w' := by
  obtain ⟨b1, b2⟩ := wf64 w0
  obtain ⟨b3, b4⟩ := wf64 w1
  go_enter Try.func9, Try.ntmps9
  go_wp2_with fail
  obtain ⟨u0, hu0⟩ : ∃ u0, u0 = w.alloc (.cells #[.int .i64 a2_0, .int .i64 a2_1, .int .i64 a2_2, .int .i64 a2_3] 22) := ⟨_, rfl⟩
  have hB : Below w.heap.size w u0 := by rw [hu0]; exact alloc_below _ _
  have l0 : u0.cell? ⟨w.heap.size, 0, none⟩ = some (.int .i64 a2_0) := by rw [hu0]; simp [go_sem]
  have l1 : u0.cell? ⟨w.heap.size, 1, none⟩ = some (.int .i64 a2_1) := by rw [hu0]; simp [go_sem]
  have l2 : u0.cell? ⟨w.heap.size, 2, none⟩ = some (.int .i64 a2_2) := by rw [hu0]; simp [go_sem]
  have l3 : u0.cell? ⟨w.heap.size, 3, none⟩ = some (.int .i64 a2_3) := by rw [hu0]; simp [go_sem]
  rw [← hu0]
  clear hu0
  refine (aroundx_any a0 30000 _ b1 b2 (by omega)).mono ?_
  rintro e y0 ⟨⟨x1, hx1, hx2, rfl⟩, hy0⟩
  subst hy0
  go_upto_region 2 with fail
  have sA0 := World.cell?_alloc_new (w := u0) #[.int .i64 (1024 + x1), .slice none 0 0] 25 0
  have sA1 := World.cell?_alloc_new (w := u0) #[.int .i64 (1024 + x1), .slice none 0 0] 25 1
  simp only [List.getElem?_toArray, List.getElem?_cons_zero, List.getElem?_cons_succ] at sA0 sA1
  have hb1 := alloc_below u0 (.cells #[.int .i64 (1024 + x1), .slice none 0 0] 25)
  generalize u0.alloc (.cells #[.int .i64 (1024 + x1), .slice none 0 0] 25) = v1 at *
  replace l0 := carry (hb1) l0
  replace l1 := carry (hb1) l1
  replace l2 := carry (hb1) l2
  replace l3 := carry (hb1) l3
  replace hB := below_step hB hb1
  clear hb1
  go_wp2_with fail
  refine (aroundx_any a1 30000 _ b3 b4 (by omega)).mono ?_
  rintro e y0 ⟨⟨x2, hx3, hx4, rfl⟩, hy0⟩
  subst hy0
  go_upto_region 3 with fail
  have sG0 := World.cell?_alloc_new (w := v1) #[.int .i64 (1024 + x2), .slice none 0 0] 25 0
  have sG1 := World.cell?_alloc_new (w := v1) #[.int .i64 (1024 + x2), .slice none 0 0] 25 1
  simp only [List.getElem?_toArray, List.getElem?_cons_zero, List.getElem?_cons_succ] at sG0 sG1
  have hb1 := alloc_below v1 (.cells #[.int .i64 (1024 + x2), .slice none 0 0] 25)
  generalize v1.alloc (.cells #[.int .i64 (1024 + x2), .slice none 0 0] 25) = v2 at *
  replace l0 := carry (hb1) l0
  replace l1 := carry (hb1) l1
  replace l2 := carry (hb1) l2
  replace l3 := carry (hb1) l3
  replace sA0 := carry (hb1) sA0
  replace sA1 := carry (hb1) sA1
  replace hB := below_step hB hb1
  clear hb1
  have hR1 : 1024 ≤ 1024 + x1 ∧ 1024 + x1 ≤ 31023 := by omega
  have hT1 : 1024 ≤ 1024 + x2 ∧ 1024 + x2 ≤ 31023 := by omega
  generalize 1024 + x1 = R at *
  generalize 1024 + x2 = T at *
  have hsR : ∀ w, Sh w (.c R) := fun w => ⟨by omega, by omega⟩
  have hsG : ∀ w, Sh w (.c T) := fun w => ⟨by omega, by omega⟩
  have kp := fun w => place_any (.c R) (.c T) a2_0 a2_1 a2_2 a2_3 w (hsR w) (hsG w) w2_0 w2_1 w2_2 w2_3
  simp only [Sp.r, Sp.a, Sp.n, Sp.cap] at kp
  clear hx1 hx2 hx3 hx4 b1 b2 b3 b4
  go_wp2_with fail
  refine (kp _).mono ?_
  rintro e u3 ⟨⟨p0, p1, q0, q1, ⟨bp0, bp1, bq0, bq1⟩, rfl⟩, hb1⟩
  replace sA0 := carry (hb1) sA0
  replace sA1 := carry (hb1) sA1
  replace sG0 := carry (hb1) sG0
  replace sG1 := carry (hb1) sG1
  replace hB := below_step hB hb1
  clear hb1 l0 l1 l2 l3
  go_upto_region 4 with fail
  have hb1 := below_step (alloc_below u3 (.cells #[.int .i64 p0, .int .i64 p1] 28)) (alloc_below _ (.cells #[.int .i64 q0, .int .i64 q1] 28))
  have vp0 : ((u3.alloc (.cells #[.int .i64 p0, .int .i64 p1] 28)).alloc (.cells #[.int .i64 q0, .int .i64 q1] 28)).cell? ⟨u3.heap.size, 0, none⟩ = some (.int .i64 p0) := by simp [go_sem]
  have vp1 : ((u3.alloc (.cells #[.int .i64 p0, .int .i64 p1] 28)).alloc (.cells #[.int .i64 q0, .int .i64 q1] 28)).cell? ⟨u3.heap.size, 1, none⟩ = some (.int .i64 p1) := by simp [go_sem]
  have vq0 : ((u3.alloc (.cells #[.int .i64 p0, .int .i64 p1] 28)).alloc (.cells #[.int .i64 q0, .int .i64 q1] 28)).cell? ⟨u3.heap.size + 1, 0, none⟩ = some (.int .i64 q0) := by simp [go_sem]
  have vq1 : ((u3.alloc (.cells #[.int .i64 p0, .int .i64 p1] 28)).alloc (.cells #[.int .i64 q0, .int .i64 q1] 28)).cell? ⟨u3.heap.size + 1, 1, none⟩ = some (.int .i64 q1) := by simp [go_sem]
  replace sA0 := carry (hb1) sA0
  replace sA1 := carry (hb1) sA1
  replace sG0 := carry (hb1) sG0
  replace sG1 := carry (hb1) sG1
  replace hB := below_step hB hb1
  generalize (u3.alloc (.cells #[.int .i64 p0, .int .i64 p1] 28)).alloc (.cells #[.int .i64 q0, .int .i64 q1] 28) = v4 at *
  have ep0 : Be p0 := be_of (by omega) (by omega)
  have ep1 : Be p1 := be_of (by omega) (by omega)
  have eq0 : Be q0 := be_of (by omega) (by omega)
  have eq1 : Be q1 := be_of (by omega) (by omega)
  clear hb1
  have z0 : Bd (q0 - p0) := by unfold Bd; omega
  have z1 : Bd (q1 - p1) := by unfold Bd; omega
  have ks := fun w => sub_any q0 q1 p0 p1 w eq0.bd eq1.bd ep0.bd ep1.bd
  have kl := fun w => len_any (q0 - p0) (q1 - p1) w z0 z1
  have kc := fun w => col_any (.c R) (.c T) p0 p1 q0 q1 w (hsR w) (hsG w) ep0 ep1 eq0 eq1
  have hg := fun h => circ_col (r := R) (t := T) hR1.1 hT1.1 (p := (p0, p1)) (q := (q0, q1)) (L := isq ((q0 - p0) * (q0 - p0) + (q1 - p1) * (q1 - p1))) rfl h
  have hlb := Bd.len z0 z1
  simp only [Sp.r, Sp.a, Sp.n, Sp.cap] at kc
  generalize colB (.c R) (.c T) (p0, p1) (q0, q1) = cb at *
  generalize (colN (.c R) (.c T) (p0, p1) (q0, q1)).1 = c0 at *
  generalize (colN (.c R) (.c T) (p0, p1) (q0, q1)).2.1 = c1 at *
  generalize (colN (.c R) (.c T) (p0, p1) (q0, q1)).2.2 = c2 at *
  generalize isq ((q0 - p0) * (q0 - p0) + (q1 - p1) * (q1 - p1)) = L at *
  generalize q0 - p0 = e0 at *
  generalize q1 - p1 = e1 at *
  have hkk := Lib.hid (And.intro ks (And.intro kl kc))
  have hg' := Lib.hid hg
  clear ks kl kc kp hg hsR hsG bp0 bp1 bq0 bq1 ep0 ep1 eq0 eq1 z0 z1
  go_wp2_with fail
  refine (hkk.out.1 _).mono ?_
  rintro e u4 ⟨rfl, hb1⟩
  replace sA0 := carry (hb1) sA0
  replace sA1 := carry (hb1) sA1
  replace sG0 := carry (hb1) sG0
  replace sG1 := carry (hb1) sG1
  replace vp0 := carry (hb1) vp0
  replace vp1 := carry (hb1) vp1
  replace vq0 := carry (hb1) vq0
  replace vq1 := carry (hb1) vq1
  replace hB := below_step hB hb1
  clear hb1
  go_wp2_with fail
  refine (hkk.out.2.1 _).mono ?_
  rintro e u5 ⟨rfl, hb1⟩
  replace sA0 := carry (hb1) sA0
  replace sA1 := carry (hb1) sA1
  replace sG0 := carry (hb1) sG0
  replace sG1 := carry (hb1) sG1
  replace vp0 := carry (hb1) vp0
  replace vp1 := carry (hb1) vp1
  replace vq0 := carry (hb1) vq0
  replace vq1 := carry (hb1) vq1
  replace hB := below_step hB hb1
  clear hb1
  by_cases hL : L < 1024
  · go_wp2_with fail
    refine (lives5_any _).mono ?_
    rintro e u6 ⟨rfl, hb1⟩
    go_wp2
    go_ret
    exact ⟨rfl, below_step hB hb1⟩
  · have hL2 : 1024 ≤ L := by omega
    have hh := hg'.out hL2
    have hdiv : L.tdiv 256 = L / 256 := Int.tdiv_eq_ediv_of_nonneg (by omega)
    go_upto_region 9 with fail
    have hm1 : 0 ≤ R + T ∧ R + T ≤ 62046 := by omega
    have hm2 : 0 ≤ L / 256 + 3 ∧ L / 256 + 3 ≤ 300000 := by omega
    generalize R + T = M at *
    generalize L / 256 + 3 = sl at *
    have hh' := Lib.hid hh
    clear hh hL
    go_wp2_with fail
    refine (hkk.out.2.2 _).mono ?_
    rintro e u6 ⟨rfl, hb1⟩
    replace hB := below_step hB hb1
    clear hb1 sA0 sA1 sG0 sG1 vp0 vp1 vq0 vq1
    go_upto_region 10 with fail
    have vc0 := World.cell?_alloc_new (w := u6) #[.int .i64 (c0), .int .i64 (c1), .int .i64 (c2)] 34 0
    have vc1 := World.cell?_alloc_new (w := u6) #[.int .i64 (c0), .int .i64 (c1), .int .i64 (c2)] 34 1
    have vc2 := World.cell?_alloc_new (w := u6) #[.int .i64 (c0), .int .i64 (c1), .int .i64 (c2)] 34 2
    simp only [List.getElem?_toArray, List.getElem?_cons_zero, List.getElem?_cons_succ] at vc0 vc1 vc2
    have hb1 := alloc_below u6 (.cells #[.int .i64 (c0), .int .i64 (c1), .int .i64 (c2)] 34)
    generalize u6.alloc (.cells #[.int .i64 (c0), .int .i64 (c1), .int .i64 (c2)] 34) = v6 at *
    
    replace hB := below_step hB hb1
    clear hb1
    rcases hh'.out with ⟨hcb, h1, h2⟩ | ⟨hcb, h1⟩
    · subst hcb
      have f1 : decide (M - L + sl < c2) = false := decide_eq_false (by omega)
      have f2 : decide (L < M + sl) = true := decide_eq_true h2
      go_wp2_with fail
      refine (lives5_any _).mono ?_
      rintro e u7 ⟨rfl, hb1⟩
      go_wp2
      go_ret
      exact ⟨rfl, below_step hB hb1⟩
    · subst hcb
      have f2 : decide (M - sl < L) = true := decide_eq_true h1
      go_wp2_with fail
      refine (lives5_any _).mono ?_
      rintro e u7 ⟨rfl, hb1⟩
      go_wp2
      go_ret
      exact ⟨rfl, below_step hB hb1⟩

set_option maxRecDepth 100000 in
theorem lifted (os : Os) (started : os.Started) (H : Type) (enc : TypeId × Value → H) :
    ReturnsInHanded {} Try.checked os 9 .any (Rows.collideCirclesSpec.pre6 enc Try.prog Try.f9 Rows.collideCirclesRow.domain false) (Rows.collideCirclesSpec.post enc Try.prog Try.f9 false true false false) := by
  refine returnsInHanded_of_change (C := Try.checked) own started (by kernel_rfl) Try.func9
    (ChangeSpec.witness6 (enc := enc) (C := Try.checked) false ⟨#[], #[.int .i64 0, .int .i64 0, .agg #[.int .i64 0, .int .i64 0, .int .i64 0, .int .i64 0]], []⟩ 8 (by kernel_rfl) (by kernel_rfl) (by kernel_rfl) (by kernel_rfl)) ?_
  intro W base args ds gs before hval0 hW hcnd _
  have hval : ∀ (j : Nat) t v, Try.f9.params[j]? = some t → args[j]? = some v → Value.okWide Try.prog W .any base t v := hval0
  have hW' := hW
  obtain ⟨p, q, hA0, hV, rfl, hfz, hnd⟩ := hW
  have hA : DataW.TrodAll enc Try.prog W 0 (fun _ => true) true Try.f9.params.toList args.toList ds p := hA0
  rw [Try.params9] at hA hval
  obtain ⟨v0, vs0, d0, ds0, p0, q0, hargs, rfl, rfl, h0, r0⟩ := trodAll_cons hA
  obtain ⟨v1, vs1, d1, ds1, p1, q1, rfl, rfl, rfl, h1, r1⟩ := trodAll_cons r0
  obtain ⟨v2, vs2, d2, ds2, p2, q2, rfl, rfl, rfl, h2, r2⟩ := trodAll_cons r1
  obtain ⟨rfl, rfl, rfl⟩ := trodAll_nil r2
  obtain rfl : args = #[v0, v1, v2] := by cases args; simp_all
  obtain ⟨rfl, rfl⟩ := trodVars_none hV
  obtain ⟨a0, rfl, rfl, rfl, w0⟩ := open_int Try.underlying3 (hval 0 3 v0 rfl rfl) h0
  obtain ⟨a1, rfl, rfl, rfl, w1⟩ := open_int Try.underlying3 (hval 1 3 v1 rfl rfl) h1
  obtain ⟨z2, l2, e2, rfl, rfl, y2⟩ := open_arr Try.underlying22 Try.underlying3 (by kernel_rfl) (by kernel_rfl) (hval 2 22 v2 rfl rfl) h2
  obtain ⟨a2_0, a2_1, a2_2, a2_3, rfl⟩ := list4 l2
  simp only [List.map_cons, List.map_nil] at e2
  subst e2
  clear hA0 hval0
  simp only [List.append_nil] at hW'
  refine (walk a0 w0 a1 w1 a2_0 a2_1 a2_2 a2_3 (y2 _ (by simp)) (y2 _ (by simp)) (y2 _ (by simp)) (y2 _ (by simp)) W).mono fun e W' ⟨he, hb⟩ => ?_
  subst he
  exact ⟨_, rfl, kept_post (pa := []) hW' (fun _ _ _ => (trodAll_cons_mk (shut_bool Try.underlying4 _) trodAll_mk0)) (fun sp _ => (trodAll_cons_mk (shut_int Try.underlying3 w0) (trodAll_cons_mk (shut_int Try.underlying3 w1) (trodAll_cons_mk (shut_arr Try.underlying22 Try.underlying3 (by kernel_rfl) (by kernel_rfl) rfl y2) trodAll_mk0)))) (fun _ => rfl) hb (ok_one (by kernel_rfl) rfl (okWide_bool_mk Try.underlying4 _))⟩

theorem over : Rows.collideCirclesRow.holds Try.pinned (OpenSpec.ofChange Rows.collideCirclesSpec) :=
  OpenClaim.holds_of_wide 9 Try.f9 rfl rfl rfl rfl rfl rfl rfl ⟨rfl, rfl, rfl, rfl, rfl⟩ rfl rfl rfl rfl rfl (by kernel_rfl) Try.func9 (by kernel_rfl)
    (of_decide_eq_true (by kernel_rfl)) (by unfold Func.isWrapper; first | (rw [if_pos (by decide +kernel)]; kernel_rfl) | (rw [if_neg (by decide +kernel)]; exact ⟨rfl, rfl⟩))
    (fun os started H enc _ => lifted os started H enc)

theorem proved : Rows.CollideCirclesSaid :=
  over
#print axioms proved
end Go.Proofs.Ytnlnnpcpheaomaa.collideCircles
