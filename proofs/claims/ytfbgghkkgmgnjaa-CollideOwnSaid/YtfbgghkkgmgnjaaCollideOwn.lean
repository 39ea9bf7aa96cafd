/-
  package collide, P5.1: what Axes gives is the caller's own: writing over it changes neither a later answer nor the shapes; and the section's example holds; whatever the arguments are.
-/
import Derived.Test.YtfbgghkkgmgnjaaRows
import Derived.WalkKit
import Derived.ProofKit
import Derived.OpenShut
import Derived.Test.YtfbgghkkgmgnjaaLawKit
import Derived.Test.YtfbgghkkgmgnjaaOwn
import Derived.WalkLawsBesides
import Derived.Deep.DeepCutAuto
import Derived.Deep.CutBlock
import Derived.Deep.RegionHeld3
namespace Go.Proofs.Ytfbgghkkgmgnjaa.collideOwn
open Go.ChangeShapes Go.WideShapes Go.ChangeAt Go.RowKit
set_option linter.unusedVariables false
set_option linter.unusedSimpArgs false

open Fxm
theorem field_run (s : Sp) : ∀ w, (Instr.field 25 (.agg #[.int .i64 s.r, .slice s.a s.n s.cap]) 1).run Try.prog w = .ok (.slice s.a s.n s.cap) w := fun _ => by kernel_rfl
theorem add_zero' (g j : Nat) : (⟨g, 0, none⟩ : Addr).add j = ⟨g, j, none⟩ := by simp [Addr.add]; exact Eq.symm
theorem own : ownKnob Try.prog.godebug = none := by kernel_rfl

set_option maxRecDepth 100000 in
set_option maxHeartbeats 8000000 in
theorem walk (a0 : Int) (w0 : (Lit.int .i64 a0).wf = true) (a1 : Int) (w1 : (Lit.int .i64 a1).wf = true) (a2_0 : Int) (a2_1 : Int) (a2_2 : Int) (a2_3 : Int) (w2_0 : (Lit.int .i64 a2_0).wf = true) (w2_1 : (Lit.int .i64 a2_1).wf = true) (w2_2 : (Lit.int .i64 a2_2).wf = true) (w2_3 : (Lit.int .i64 a2_3).wf = true) (w : World) :
    Calls Try.prog 5 #[.int .i64 a0, .int .i64 a1, .agg #[.int .i64 a2_0, .int .i64 a2_1, .int .i64 a2_2, .int .i64 a2_3]] w fun e w' => e = .returned (.bool true) ∧ Below w.heap.size w w' := by
  go_enter Try.func5, Try.ntmps5
  go_wp2_with fail
  refine (shapesF_any _ _ w0).mono ?_
  rintro e u1 ⟨s, rfl, hs, hsv, hb1⟩
  have hsV := Lib.hid hsv
  clear hsv
  have l0 : u1.cell? ⟨w.heap.size, 0, none⟩ = some (.int .i64 a2_0) := carry hb1 (by simp [go_sem])
  have l1 : u1.cell? ⟨w.heap.size, 1, none⟩ = some (.int .i64 a2_1) := carry hb1 (by simp [go_sem])
  have l2 : u1.cell? ⟨w.heap.size, 2, none⟩ = some (.int .i64 a2_2) := carry hb1 (by simp [go_sem])
  have l3 : u1.cell? ⟨w.heap.size, 3, none⟩ = some (.int .i64 a2_3) := carry hb1 (by simp [go_sem])
  have hB := below_step (alloc_below w (.cells #[.int .i64 a2_0, .int .i64 a2_1, .int .i64 a2_2, .int .i64 a2_3] 22)) hb1
  clear hb1
  go_upto_region 2 with fail
  have sA0 := World.cell?_alloc_new (w := u1) #[.int .i64 s.r, .slice s.a s.n s.cap] 25 0
  have sA1 := World.cell?_alloc_new (w := u1) #[.int .i64 s.r, .slice s.a s.n s.cap] 25 1
  simp only [List.getElem?_toArray, List.getElem?_cons_zero, List.getElem?_cons_succ] at sA0 sA1
  have hb1 := alloc_below u1 (.cells #[.int .i64 s.r, .slice s.a s.n s.cap] 25)
  generalize u1.alloc (.cells #[.int .i64 s.r, .slice s.a s.n s.cap] 25) = v1 at *
  replace l0 := carry (hb1) l0
  replace l1 := carry (hb1) l1
  replace l2 := carry (hb1) l2
  replace l3 := carry (hb1) l3
  replace hB := below_step hB hb1
  replace hs := hs.carry hb1
  clear hb1
  go_wp2_with fail
  refine (shapesF_any _ _ w1).mono ?_
  rintro e u2 ⟨t, rfl, ht, htv, hb1⟩
  have htV := Lib.hid htv
  clear htv
  replace l0 := carry (hb1) l0
  replace l1 := carry (hb1) l1
  replace l2 := carry (hb1) l2
  replace l3 := carry (hb1) l3
  replace sA0 := carry (hb1) sA0
  replace sA1 := carry (hb1) sA1
  replace hB := below_step hB hb1
  replace hs := hs.carry hb1
  clear hb1
  go_upto_region 3 with fail
  have tA0 := World.cell?_alloc_new (w := u2) #[.int .i64 t.r, .slice t.a t.n t.cap] 25 0
  have tA1 := World.cell?_alloc_new (w := u2) #[.int .i64 t.r, .slice t.a t.n t.cap] 25 1
  simp only [List.getElem?_toArray, List.getElem?_cons_zero, List.getElem?_cons_succ] at tA0 tA1
  have hb1 := alloc_below u2 (.cells #[.int .i64 t.r, .slice t.a t.n t.cap] 25)
  generalize u2.alloc (.cells #[.int .i64 t.r, .slice t.a t.n t.cap] 25) = v2 at *
  replace l0 := carry (hb1) l0
  replace l1 := carry (hb1) l1
  replace l2 := carry (hb1) l2
  replace l3 := carry (hb1) l3
  replace sA0 := carry (hb1) sA0
  replace sA1 := carry (hb1) sA1
  replace hB := below_step hB hb1
  replace hs := hs.carry hb1
  replace ht := ht.carry hb1
  clear hb1
  go_wp2_with fail
  refine (place_any s t _ _ _ _ _ hs ht w2_0 w2_1 w2_2 w2_3).mono ?_
  rintro e u3 ⟨⟨p0, p1, q0, q1, ⟨bp0, bp1, bq0, bq1⟩, rfl⟩, hb1⟩
  replace sA0 := carry (hb1) sA0
  replace sA1 := carry (hb1) sA1
  replace tA0 := carry (hb1) tA0
  replace tA1 := carry (hb1) tA1
  replace hB := below_step hB hb1
  replace hs := hs.carry hb1
  replace ht := ht.carry hb1
  clear hb1 l0 l1 l2 l3
  go_upto_region 4 with fail
  have hb1 := below_step (alloc_below u3 (.cells #[.int .i64 p0, .int .i64 p1] 28)) (alloc_below _ (.cells #[.int .i64 q0, .int .i64 q1] 28))
  have vp0 : ((u3.alloc (.cells #[.int .i64 p0, .int .i64 p1] 28)).alloc (.cells #[.int .i64 q0, .int .i64 q1] 28)).cell? ⟨u3.heap.size, 0, none⟩ = some (.int .i64 p0) := by simp [go_sem]
  have vp1 : ((u3.alloc (.cells #[.int .i64 p0, .int .i64 p1] 28)).alloc (.cells #[.int .i64 q0, .int .i64 q1] 28)).cell? ⟨u3.heap.size, 1, none⟩ = some (.int .i64 p1) := by simp [go_sem]
  have vq0 : ((u3.alloc (.cells #[.int .i64 p0, .int .i64 p1] 28)).alloc (.cells #[.int .i64 q0, .int .i64 q1] 28)).cell? ⟨u3.heap.size + 1, 0, none⟩ = some (.int .i64 q0) := by simp [go_sem]
  have vq1 : ((u3.alloc (.cells #[.int .i64 p0, .int .i64 p1] 28)).alloc (.cells #[.int .i64 q0, .int .i64 q1] 28)).cell? ⟨u3.heap.size + 1, 1, none⟩ = some (.int .i64 q1) := by simp [go_sem]
  replace sA0 := carry (hb1) sA0
  replace sA1 := carry (hb1) sA1
  replace tA0 := carry (hb1) tA0
  replace tA1 := carry (hb1) tA1
  replace hB := below_step hB hb1
  replace hs := Lib.hid (hs.carry hb1)
  replace ht := Lib.hid (ht.carry hb1)
  generalize (u3.alloc (.cells #[.int .i64 p0, .int .i64 p1] 28)).alloc (.cells #[.int .i64 q0, .int .i64 q1] 28) = v3 at *
  clear hb1
  have ep0 : Be p0 := be_of (by omega) (by omega)
  have ep1 : Be p1 := be_of (by omega) (by omega)
  have eq0 : Be q0 := be_of (by omega) (by omega)
  have eq1 : Be q1 := be_of (by omega) (by omega)
  have hn1 : 0 < ndir s t := ndir_pos (t := t) hs.out
  have hn2 : ndir s t ≤ 100 := by have := ndir_le hs.out ht.out; omega
  have hlen : (axesV s t (p0, p1) (q0, q1)).length = ndir s t := lst_len _ _
  have k1 := fun w (h : Sh w s) (h' : Sh w t) => axesOf_any s t p0 p1 q0 q1 w h h' ep0 ep1 eq0 eq1
  have c1 := fun w (h : Sh w s) (h' : Sh w t) => col_any s t p0 p1 q0 q1 w h h' ep0 ep1 eq0 eq1
  have k3 := fun w => shapesF_any a0 w w0
  rw [← hsV.out] at k3
  have k4 := fun w => shapesF_any a1 w w1
  rw [← htV.out] at k4
  generalize axesV s t (p0, p1) (q0, q1) = AX at *
  generalize ndir s t = nA at *
  have hnA := Lib.hid (show nA = AX.length ∧ nA ≤ 1000 from ⟨hlen.symm, by omega⟩)
  generalize colN s t (p0, p1) (q0, q1) = cN at *
  obtain ⟨c0, c1', c2'⟩ := cN
  generalize colB s t (p0, p1) (q0, q1) = cb at *
  simp only at c1
  have hkk := Lib.hid (And.intro k1 (And.intro equal_same (And.intro k3 (And.intro k4 lives5_any))))
  have hcc := Lib.hid c1
  clear k1 k3 k4 c1 bp0 bp1 bq0 bq1 ep0 ep1 eq0 eq1 hsV htV
  obtain ⟨i0, hi0, hz0, hz1, hz2⟩ := info_parts vinfo
  go_wp2_with fail
  refine (hkk.out.1 _ hs.out ht.out).mono ?_
  rintro e w4 ⟨g, cap, rfl, hown, hb4⟩
  have hgl := hown.lt g rfl
  have hW4 := Lib.hid (Wr.owned hown)
  have hR4 := (Row.owned hown hlen).cells
  have hnew : ∀ j u, (flatV AX)[j]? = some u → (w4.alloc (.cells #[] 28)).cell? ((⟨g, 0, none⟩ : Addr).add j) = some u := fun j u hu => by rw [add_zero']; exact carry (alloc_below w4 _) (hR4 j u hu)
  clear hR4 hown
  go_wp2_with (at_builtin; refine append_row rfl _ _ 23 rfl w4.heap.size 28 i0 _ 2 16 Try.underlying23 hi0 hz0 hz1 hz2 rfl (by omega) _ 0 [] rfl (World.ownsRow_made w4 #[] 0 (Nat.le_refl _) (by unfold maxLen; omega) rfl) ⟨g, 0, none⟩ nA cap (flatV AX) rfl (by rw [flatV_length, hlen]) hnew (flatV_one _) (by unfold maxLen; omega) (by omega) (by simp) (by omega) ?_; intro v1 cv w5 hown1 hb5; simp only [Nat.zero_add, List.nil_append] at hown1)
  have hv1 := (hown1.lt v1 rfl).1
  have hgv : g ≠ v1 := by omega
  have hg3 : v3.heap.size ≤ g := hgl.1
  have hwas := Vecs.owned hown1 hnA.out.1 hnA.out.2
  have hb6 := (alloc_below w4 (.cells #[] 28)).trans hb5
  have hW5 := hW4.out.carry hb6
  have hb35 := below_step hb4 hb6
  have hb35' := Lib.hid hb35
  have hW5' := Lib.hid hW5
  have hwas' := Lib.hid hwas
  clear hown1 hnew hW4 hb4 hb5 hb6 hb35 hW5 hwas hgl hi0 hz0 hz1 hz2
  go_loopw [13] (fun i wr => ∃ k : Nat, k ≤ nA ∧ i = .int .i64 k ∧ Wr wr g nA ∧ Vecs wr (some ⟨v1, 0, none⟩) nA cv AX ∧ Below v3.heap.size v3 wr) (fun i _ => nA - (intOf i).toNat)
  case atStart => exact ⟨0, Nat.zero_le _, rfl, hW5'.out, hwas'.out, hb35'.out⟩
  case round =>
    obtain ⟨k, hk, rfl, hW, hwa, hbl⟩ := hrel
    have hwas := Lib.hid hwa
    have hWx := Lib.hid hW
    have hblx := Lib.hid hbl
    clear hwa hW
    by_cases hlt : k < nA
    · obtain ⟨⟨⟨u0, x0⟩, f0⟩, ⟨u1', x1⟩, f1⟩ := hWx.out.cells hlt
      have hkn : (k : Int) < (nA : Int) := by omega
      have hk0 : (0 : Int) ≤ (k : Int) := by omega
      clear hbl
      go_wp2_with fail
      go_roundw
      case rel => exact ⟨k + 1, by omega, by go_num, hWx.out.set _ _ _ _, hwas.out.far hgv hgv _ _, (hblx.out.setCell (p := ⟨g, k * 2, none⟩) hg3 _).setCell (p := ⟨g, k * 2 + 1, none⟩) hg3 _⟩
      case measure => simp [intOf]; omega
    · obtain rfl : k = nA := by omega
      have hkn : ¬ (k : Int) < (k : Int) := by omega
      clear hlt hWx hblx
      replace sA0 := carry (hbl) sA0
      replace sA1 := carry (hbl) sA1
      replace tA0 := carry (hbl) tA0
      replace tA1 := carry (hbl) tA1
      replace vp0 := carry (hbl) vp0
      replace vp1 := carry (hbl) vp1
      replace vq0 := carry (hbl) vq0
      replace vq1 := carry (hbl) vq1
      replace hB := below_step hB hbl
      replace hs := Lib.hid (hs.out.carry hbl)
      replace ht := Lib.hid (ht.out.carry hbl)
      clear hbl
      go_wp2_with fail
      refine (hcc.out _ hs.out ht.out).mono ?_
      rintro e w6 ⟨rfl, hb1⟩
      replace hwas := Lib.hid (hwas.out.carry hb1)
      replace sA0 := carry (hb1) sA0
      replace sA1 := carry (hb1) sA1
      replace tA0 := carry (hb1) tA0
      replace tA1 := carry (hb1) tA1
      replace vp0 := carry (hb1) vp0
      replace vp1 := carry (hb1) vp1
      replace vq0 := carry (hb1) vq0
      replace vq1 := carry (hb1) vq1
      replace hB := below_step hB hb1
      replace hs := Lib.hid (hs.out.carry hb1)
      replace ht := Lib.hid (ht.out.carry hb1)
      clear hb1
      clear hcc hW5' hwas' hb35'
      go_upto_region 11 with fail
      have bD : Below w6.heap.size w6 w6.drew := (Below.refl _ w6).drew
      have mk := Lib.hid (fun w' (h : Below w6.heap.size w6 w') => (⟨carry h sA0, carry h sA1, carry h tA0, carry h tA1, carry h vp0, carry h vp1, carry h vq0, carry h vq1, h⟩ : w'.cell? ⟨u1.heap.size, 0, none⟩ = some (.int .i64 s.r) ∧ w'.cell? ⟨u1.heap.size, 1, none⟩ = some (.slice s.a s.n s.cap) ∧ w'.cell? ⟨u2.heap.size, 0, none⟩ = some (.int .i64 t.r) ∧ w'.cell? ⟨u2.heap.size, 1, none⟩ = some (.slice t.a t.n t.cap) ∧ w'.cell? ⟨u3.heap.size, 0, none⟩ = some (.int .i64 p0) ∧ w'.cell? ⟨u3.heap.size, 1, none⟩ = some (.int .i64 p1) ∧ w'.cell? ⟨u3.heap.size + 1, 0, none⟩ = some (.int .i64 q0) ∧ w'.cell? ⟨u3.heap.size + 1, 1, none⟩ = some (.int .i64 q1) ∧ Below w6.heap.size w6 w'))
      go_region_held3 (fun w' => w'.cell? ⟨u1.heap.size, 0, none⟩ = some (.int .i64 s.r) ∧ w'.cell? ⟨u1.heap.size, 1, none⟩ = some (.slice s.a s.n s.cap) ∧ w'.cell? ⟨u2.heap.size, 0, none⟩ = some (.int .i64 t.r) ∧ w'.cell? ⟨u2.heap.size, 1, none⟩ = some (.slice t.a t.n t.cap) ∧ w'.cell? ⟨u3.heap.size, 0, none⟩ = some (.int .i64 p0) ∧ w'.cell? ⟨u3.heap.size, 1, none⟩ = some (.int .i64 p1) ∧ w'.cell? ⟨u3.heap.size + 1, 0, none⟩ = some (.int .i64 q0) ∧ w'.cell? ⟨u3.heap.size + 1, 1, none⟩ = some (.int .i64 q1) ∧ Below w6.heap.size w6 w')
        (first | (exact mk.out _ bD) | (exact mk.out _ Y7) | (exact mk.out _ Y6) | (exact mk.out _ Y5) | (exact mk.out _ Y4) | (exact mk.out _ Y3) | (exact mk.out _ Y2) | (exact mk.out _ Y1))
        (first
          | (go_at_call 20; with_reducible refine (hkk.out.2.2.2.2 _).mono ?_; rintro e y7 ⟨rfl, hb7⟩; have Y7 := below_step Y6 hb7)
          | (go_at_call 15; with_reducible refine (hkk.out.2.1 _ _ _ _ _ _ _ _ V2 V2').mono ?_; rintro e y6 ⟨rfl, hb6⟩; have Y6 := below_step Y5 hb6)
          | (go_at_call 13; with_reducible refine (hkk.out.2.2.2.1 _).mono ?_; rintro e y5 ⟨t', rfl, ht', htv', hb5⟩; have Y5 := below_step Y4 hb5; have V2 := (ht.out.carry Y5).vecs; have V2' := htv' ▸ ht'.vecs; have hfl2 := field_run t')
          | (go_at_call 15; with_reducible refine (hkk.out.2.1 _ _ _ _ _ _ _ _ V1 V1').mono ?_; rintro e y4 ⟨rfl, hb4⟩; have Y4 := below_step Y3 hb4)
          | (go_at_call 13; with_reducible refine (hkk.out.2.2.1 _).mono ?_; rintro e y3 ⟨s', rfl, hs', hsv', hb3⟩; have Y3 := below_step Y2 hb3; have V1 := (hs.out.carry Y3).vecs; have V1' := hsv' ▸ hs'.vecs; have hfl1 := field_run s')
          | (go_at_call 15; with_reducible refine (hkk.out.2.1 _ _ _ _ _ _ _ _ R1 (hwas.out.carry Y1)).mono ?_; rintro e y2 ⟨rfl, hb2⟩; have Y2 := below_step Y1 hb2)
          | (go_at_call 16; with_reducible refine (hkk.out.1 _ (hs.out.carry (by first | exact bD | exact Below.refl _ _)) (ht.out.carry (by first | exact bD | exact Below.refl _ _))).mono ?_; rintro e y1 ⟨gy, capy, rfl, hown, hb1⟩; have Y1 : Below w6.heap.size w6 y1 := below_step (by first | exact bD | exact Below.refl _ _) hb1; have R1 := Vecs.owned hown hnA.out.1 hnA.out.2))
      all_goals
        rename_i hHeld
        have hHB := Lib.hid hHeld.2.2.2.2.2.2.2.2
        clear hHeld
        go_wp2
        go_ret
        exact ⟨rfl, below_step hB hHB.out⟩

set_option maxRecDepth 100000 in
theorem lifted (os : Os) (started : os.Started) (H : Type) (enc : TypeId × Value → H) :
    ReturnsInHanded {} Try.checked os 5 .any (Rows.collideOwnSpec.pre6 enc Try.prog Try.f5 Rows.collideOwnRow.domain false) (Rows.collideOwnSpec.post enc Try.prog Try.f5 false true false false) := by
  refine returnsInHanded_of_change (C := Try.checked) own started (by kernel_rfl) Try.func5
    (ChangeSpec.witness6 (enc := enc) (C := Try.checked) false ⟨#[], #[.int .i64 0, .int .i64 0, .agg #[.int .i64 0, .int .i64 0, .int .i64 0, .int .i64 0]], []⟩ 8 (by kernel_rfl) (by kernel_rfl) (by kernel_rfl) (by kernel_rfl)) ?_
  intro W base args ds gs before hval0 hW hcnd _
  have hval : ∀ (j : Nat) t v, Try.f5.params[j]? = some t → args[j]? = some v → Value.okWide Try.prog W .any base t v := hval0
  have hW' := hW
  obtain ⟨p, q, hA0, hV, rfl, hfz, hnd⟩ := hW
  have hA : DataW.TrodAll enc Try.prog W 0 (fun _ => true) true Try.f5.params.toList args.toList ds p := hA0
  rw [Try.params5] at hA hval
  obtain ⟨v0, vs0, d0, ds0, p0, q0, hargs, rfl, rfl, h0, r0⟩ := trodAll_cons hA
  obtain ⟨v1, vs1, d1, ds1, p1, q1, rfl, rfl, rfl, h1, r1⟩ := trodAll_cons r0
  obtain ⟨v2, vs2, d2, ds2, p2, q2, rfl, rfl, rfl, h2, r2⟩ := trodAll_cons r1
  obtain ⟨rfl, rfl, rfl⟩ := trodAll_nil r2
  obtain rfl : args = #[v0, v1, v2] := by cases args; simp_all
  obtain ⟨rfl, rfl⟩ := trodVars_none hV
  obtain ⟨a0, rfl, rfl, rfl, w0⟩ := open_int Try.underlying3 (hval 0 3 v0 rfl rfl) h0
  obtain ⟨a1, rfl, rfl, rfl, w1⟩ := open_int Try.underlying3 (hval 1 3 v1 rfl rfl) h1
  obtain ⟨z2, l2, e2, rfl, rfl, y2⟩ := open_arr Try.underlying22 Try.underlying3 (by kernel_rfl) (by kernel_rfl) (hval 2 22 v2 rfl rfl) h2
  obtain ⟨a2_0, a2_1, a2_2, a2_3, rfl⟩ := list4 l2
  simp only [List.map_cons, List.map_nil] at e2
  subst e2
  clear hA0 hval0
  simp only [List.append_nil] at hW'
  refine (walk a0 w0 a1 w1 a2_0 a2_1 a2_2 a2_3 (y2 _ (by simp)) (y2 _ (by simp)) (y2 _ (by simp)) (y2 _ (by simp)) W).mono fun e W' ⟨he, hb⟩ => ?_
  subst he
  exact ⟨_, rfl, kept_post (pa := []) hW' (fun _ _ _ => (trodAll_cons_mk (shut_bool Try.underlying4 _) trodAll_mk0)) (fun sp _ => (trodAll_cons_mk (shut_int Try.underlying3 w0) (trodAll_cons_mk (shut_int Try.underlying3 w1) (trodAll_cons_mk (shut_arr Try.underlying22 Try.underlying3 (by kernel_rfl) (by kernel_rfl) rfl y2) trodAll_mk0)))) (fun _ => rfl) hb (ok_one (by kernel_rfl) rfl (okWide_bool_mk Try.underlying4 _))⟩

theorem over : Rows.collideOwnRow.holds Try.pinned (OpenSpec.ofChange Rows.collideOwnSpec) :=
  OpenClaim.holds_of_wide 5 Try.f5 rfl rfl rfl rfl rfl rfl rfl ⟨rfl, rfl, rfl, rfl, rfl⟩ rfl rfl rfl rfl rfl (by kernel_rfl) Try.func5 (by kernel_rfl)
    (of_decide_eq_true (by kernel_rfl)) (by unfold Func.isWrapper; first | (rw [if_pos (by decide +kernel)]; kernel_rfl) | (rw [if_neg (by decide +kernel)]; exact ⟨rfl, rfl⟩))
    (fun os started H enc _ => lifted os started H enc)

theorem proved : Rows.CollideOwnSaid :=
  over
#print axioms proved
end Go.Proofs.Ytfbgghkkgmgnjaa.collideOwn
