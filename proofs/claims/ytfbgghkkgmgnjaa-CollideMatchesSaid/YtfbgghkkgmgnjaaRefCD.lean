/- The reference of package collide: Axes, Collide. -/
import Derived.Test.YtfbgghkkgmgnjaaRefAB
import Derived.Deep.RegionHeld3
import Derived.Deep.AppendLies
import Derived.Deep.DeepCutAuto
import Derived.Deep.CutBlock
import Derived.Laws.AppendOwnNone
namespace Go.Proofs.Ytfbgghkkgmgnjaa
open Go.ChangeShapes Go.WideShapes Go.ChangeAt Go.RowKit Go.Shelf
open Fxm
set_option linter.unusedSimpArgs false
set_option linter.unusedVariables false

theorem step_append_none {P : Program} {w : World} {ops : Array Oper} {o : Oper} {a : Act} {K : Act → World → Prop} {Q : Exit → Act → World → Prop} {E : Prop} (hgd : o.guard = none) (s x : Operand) (t : TypeId)
    (ho : o.op = .call { callee := .builtin .append, args := #[s, x], argTypes := #[t, t] })
    (base : Nat) (e : TypeId) (i : TypeInfo) (size : Nat) (ht : P.underlying t = some (.slice e)) (hi : P.info? e = some i)
    (v : Value) (n : Nat) (xs : List Value) (hs : a.eval s = v) (hown : w.ownsRow base e size v n xs) (hx : a.eval x = .slice none 0 0)
    (h : K (a.put o.dst v) w) : if Region.wanted o (yielded ops a.tmps) = true then Oper.wp P o a w K Q else E := by
  have hw : Region.wanted o (yielded ops a.tmps) = true := by simp [Region.wanted, hgd]
  rw [if_pos hw]
  have hrun := run_append_owned_none (P := P) (w := w) base t o.type e i size ht hi v n xs hown
  unfold Oper.wp
  simp [execOp, ho, resolve, invoke, builtin, hs, hx, hrun, Result.andThen]
  exact h
theorem row_cells {w : World} {g cap : Nat} {vs : List (Int × Int)} (h : Row w g cap vs) : ∀ j u, (flatV vs)[j]? = some u → w.cell? ((⟨g, 0, none⟩ : Addr).add j) = some u := fun j u hu => by
  have hadd : (⟨g, 0, none⟩ : Addr).add j = ⟨g, j, none⟩ := by unfold Addr.add; split <;> simp_all
  rw [hadd]
  exact h.cells j u hu

/-- The axes of both shapes' edges. -/
def edgL (s t : Sp) : List (Int × Int) := lst (edgA s.vs) s.n ++ lst (edgA t.vs) t.n
theorem lst_add (f : Nat → Int × Int) (a : Nat) : ∀ b, lst f (a + b) = lst f a ++ lst (fun k => f (a + k)) b
  | 0 => by simp [lst]
  | b + 1 => by rw [← Nat.add_assoc, lst_succ, lst_add f a b, lst_succ, List.append_assoc]
theorem lst_congr {f g : Nat → Int × Int} : ∀ {n : Nat}, (∀ k, k < n → f k = g k) → lst f n = lst g n
  | 0, _ => rfl
  | n + 1, h => by rw [lst_succ, lst_succ, lst_congr fun k hk => h k (by omega), h n (by omega)]
theorem axes_split (s t : Sp) (p q : Int × Int) : axesV s t p q = edgL s t ++ (if s.n = 0 ∨ t.n = 0 then [axV (lastD s t p q)] else []) := by
  unfold axesV ndir
  rw [lst_add, lst_add]
  unfold edgL
  congr 1
  · congr 1
    · exact lst_congr fun k hk => by unfold axisV dirV edgA; rw [if_pos hk]
    · exact lst_congr fun k hk => by unfold axisV dirV edgA; rw [if_neg (by omega), if_pos (by omega), Nat.add_sub_cancel_left]
  · split
    · show [axisV s t p q (s.n + t.n + 0)] = _
      unfold axisV dirV
      rw [if_neg (by omega), if_neg (by omega)]
    · rfl
theorem Sh.refEdges {w : World} {s : Sp} (h : Sh w s) : Calls Try.prog 41 #[.agg #[.int .i64 s.r, .slice s.a s.n s.cap]] w fun e w' =>
    (∃ v, e = .returned v ∧ (s.n = 0 → v = .slice Option.none 0 0) ∧ w'.ownsRow w.heap.size 28 2 v s.n (flatV (lst (edgA s.vs) s.n))) ∧ Below w.heap.size w w' := by
  cases s with
  | c r => exact (refEdgesC_any r w).mono fun e w' ⟨he, hb⟩ => ⟨⟨_, he, fun _ => rfl, by rw [show flatV (lst (edgA (Sp.vs (.c r))) (Sp.n (.c r))) = [] by simp [lst, Sp.n, flatV]]; exact World.ownsRow_nil _ _ _ _⟩, hb⟩
  | p g cap vs =>
    refine (refEdgesP_any g cap vs w h.1 h.2).mono ?_
    rintro e w' ⟨⟨v, he, ho⟩, hb⟩
    exact ⟨⟨v, he, fun h0 => absurd (show vs.length = 0 from h0) (by have := h.2.lo; omega), ho⟩, hb⟩
theorem Sh.refNearest {w : World} {s : Sp} (h : Sh w s) (hn : s.n ≠ 0) (q0 q1 c0 c1 : Int) (eq0 : Be q0) (eq1 : Be q1) (ec0 : Be c0) (ec1 : Be c1) :
    Calls Try.prog 44 #[.agg #[.int .i64 s.r, .slice s.a s.n s.cap], .agg #[.int .i64 q0, .int .i64 q1], .agg #[.int .i64 c0, .int .i64 c1]] w fun e w' =>
      e = .returned (.agg #[.int .i64 ((corner s.vs (q0, q1) (c0, c1)).1 + c0), .int .i64 ((corner s.vs (q0, q1) (c0, c1)).2 + c1)]) ∧ Below w.heap.size w w' := by
  cases s with
  | c r => exact absurd rfl hn
  | p g cap vs =>
    refine (refNearest_any g cap vs q0 q1 c0 c1 w h.1 h.2 eq0 eq1 ec0 ec1).mono ?_
    rintro e w' ⟨rfl, hb⟩
    refine ⟨?_, hb⟩
    unfold corner nearP
    show Ending.returned (.agg #[.int .i64 (q0 + (at' vs (nearI vs (q0, q1) (c0, c1))).1), .int .i64 (q1 + (at' vs (nearI vs (q0, q1) (c0, c1))).2)]) = .returned (.agg #[.int .i64 (q0 + (at' vs (nearI vs (q0, q1) (c0, c1))).1 - c0 + c0), .int .i64 (q1 + (at' vs (nearI vs (q0, q1) (c0, c1))).2 - c1 + c1)])
    rw [Int.sub_add_cancel, Int.sub_add_cancel]
theorem near_bdd {w : World} {s : Sp} (h : Sh w s) (hn : s.n ≠ 0) {q0 q1 c0 c1 : Int} (eq0 : Be q0) (eq1 : Be q1) (ec0 : Be c0) (ec1 : Be c1) :
    (Bd ((corner s.vs (q0, q1) (c0, c1)).1 + c0) ∧ Bd ((corner s.vs (q0, q1) (c0, c1)).2 + c1)) ∧ Bd (corner s.vs (q0, q1) (c0, c1)).1 ∧ Bd (corner s.vs (q0, q1) (c0, c1)).2 := by
  cases s with
  | c r => exact absurd rfl hn
  | p g cap vs =>
    have hl := h.2.lo
    have hnn : nearI vs (q0, q1) (c0, c1) < vs.length := by
      have : nearI vs (q0, q1) (c0, c1) ≤ vs.length - 1 := bst_le _ _
      omega
    have := h.2.small _ hnn
    simp only [Sp.vs]
    unfold corner Bd
    unfold Be at *
    simp only
    omega

set_option maxHeartbeats 8000000 in
set_option maxRecDepth 100000 in
theorem refAxes_any (s t : Sp) (p0 p1 q0 q1 : Int) (w : World) (hs : Sh w s) (ht : Sh w t) (ep0 : Be p0) (ep1 : Be p1) (eq0 : Be q0) (eq1 : Be q1) :
    Calls Try.prog 17 #[.agg #[.int .i64 s.r, .slice s.a s.n s.cap], .agg #[.int .i64 p0, .int .i64 p1], .agg #[.int .i64 t.r, .slice t.a t.n t.cap], .agg #[.int .i64 q0, .int .i64 q1]] w fun e w' =>
      (∃ v, e = .returned v ∧ w'.ownsRow w.heap.size 28 2 v (ndir s t) (flatV (axesV s t (p0, p1) (q0, q1)))) ∧ Below w.heap.size w w' := by
  obtain ⟨i0, hi0, hz0, hz1, hz2⟩ := info_parts vinfo
  have hi0' := Lib.hid hi0; clear hi0
  have hz0' := Lib.hid hz0; clear hz0
  have hz1' := Lib.hid hz1; clear hz1
  have hz2' := Lib.hid hz2; clear hz2
  have hsf := hs.few
  have htf := ht.few
  have hax := Lib.hid (axes_split s t (p0, p1) (q0, q1))
  have hndir : ndir s t = s.n + t.n + (if s.n = 0 ∨ t.n = 0 then 1 else 0) := rfl
  have hnd := Lib.hid hndir
  have hX := fourBox_boxes w s t p0 p1 q0 q1
  have hB := fourBox_below w s t p0 p1 q0 q1
  have hsV := Lib.hid (And.intro (hs.carry hB) (ht.carry hB))
  obtain ⟨V, hV⟩ : ∃ V, V = fourBox w s t p0 p1 q0 q1 := ⟨_, rfl⟩
  have hVl := Lib.hid hV
  rw [← hV] at hX hB hsV
  have hcc := Lib.hid (fun (h : s.n = 0) (k : t.n = 0) => lastD_cc hs ht h k (p0, p1) (q0, q1))
  have hcp := Lib.hid (fun (h : s.n = 0) (k : t.n ≠ 0) => lastD_cp (t := t) hs h k (p0, p1) (q0, q1))
  have hpc := Lib.hid (fun (h : s.n ≠ 0) (k : t.n = 0) => lastD_pc (s := s) ht h k (p0, p1) (q0, q1))
  have hn1 := Lib.hid (fun (h : t.n ≠ 0) => near_bdd ht h eq0 eq1 ep0 ep1)
  have hn2 := Lib.hid (fun (h : s.n ≠ 0) => near_bdd hs h ep0 ep1 eq0 eq1)
  have hVz : w.heap.size ≤ V.heap.size := hB.size
  clear hV hs ht hndir
  obtain ⟨A0, A1, P0, P1, B0, B1, Q0, Q1⟩ := hX
  go_enter Try.func17, Try.ntmps17
  go_upto_region 1 with fail
  rw [show (((w.alloc (.cells #[.int .i64 s.r, .slice s.a s.n s.cap] 25)).alloc (.cells #[.int .i64 p0, .int .i64 p1] 28)).alloc (.cells #[.int .i64 t.r, .slice t.a t.n t.cap] 25)).alloc (.cells #[.int .i64 q0, .int .i64 q1] 28) = V from hVl.out.symm]
  clear hVl
  have mk := Lib.hid (fun w' (h : Below V.heap.size V w') => (⟨carry h A0, carry h A1, carry h B0, carry h B1, h⟩ : w'.cell? ⟨w.heap.size, 0, none⟩ = some (.int .i64 s.r) ∧ w'.cell? ⟨w.heap.size, 1, none⟩ = some (.slice s.a s.n s.cap) ∧ w'.cell? ⟨w.heap.size + 2, 0, none⟩ = some (.int .i64 t.r) ∧ w'.cell? ⟨w.heap.size + 2, 1, none⟩ = some (.slice t.a t.n t.cap) ∧ Below V.heap.size V w'))
  have bD : Below V.heap.size V V.drew := (Below.refl _ V).drew
  have KE := Lib.hid (fun w (h : Sh w s) => h.refEdges)
  have KF := Lib.hid (fun w (h : Sh w t) => h.refEdges)
  go_cut [9] (fun v W => W.ownsRow V.heap.size 28 2 v (s.n + t.n) (flatV (edgL s t)) ∧ Below V.heap.size V W)
  case first =>
    by_cases ht0 : t.n = 0
    · have ht0' := Lib.hid ht0
      clear ht0
      go_region_held3 (fun w' => w'.cell? ⟨w.heap.size, 0, none⟩ = some (.int .i64 s.r) ∧ w'.cell? ⟨w.heap.size, 1, none⟩ = some (.slice s.a s.n s.cap) ∧ w'.cell? ⟨w.heap.size + 2, 0, none⟩ = some (.int .i64 t.r) ∧ w'.cell? ⟨w.heap.size + 2, 1, none⟩ = some (.slice t.a t.n t.cap) ∧ Below V.heap.size V w')
        (first | (exact mk.out _ bD) | (exact mk.out _ (Below.refl _ _)) | (exact mk.out _ X1) | (exact mk.out _ X2))
        (first
          | (go_at_call 41; with_reducible refine (KE.out _ (hsV.out.1.carry bD)).mono ?_; rintro e x1 ⟨⟨v1, rfl, hv1, hown1⟩, hb1⟩; have X1 := below_step bD hb1; have O1 := own_mono (base' := V.heap.size) hown1 (Nat.le_refl _))
          | (go_at_call 41; with_reducible refine (KF.out _ (hsV.out.2.carry X1)).mono ?_; rintro e x2 ⟨⟨v2, rfl, hv2, hown2⟩, hb2⟩; have X2 := below_step X1 hb2; have O2 := own_other O1 (grown_of_below hb2) (fun r e => by cases e); obtain rfl := hv2 ht0'.out)
          | (refine step_append_none (by rfl) _ _ _ (by rfl) V.heap.size 28 i0 2 Try.underlying23 hi0'.out v1 s.n _ (by rfl) O2 (by rfl) ?_))
      go_wp2_with fail
      go_meet
      refine ⟨?_, X2⟩
      have e : edgL s t = lst (edgA s.vs) s.n := by unfold edgL; rw [ht0'.out]; simp [lst]
      rw [e, ht0'.out]
      exact O2
    · have ht0' := Lib.hid ht0
      have ht1 : 0 < t.n := by omega
      clear ht0
      go_region_held3 (fun w' => w'.cell? ⟨w.heap.size, 0, none⟩ = some (.int .i64 s.r) ∧ w'.cell? ⟨w.heap.size, 1, none⟩ = some (.slice s.a s.n s.cap) ∧ w'.cell? ⟨w.heap.size + 2, 0, none⟩ = some (.int .i64 t.r) ∧ w'.cell? ⟨w.heap.size + 2, 1, none⟩ = some (.slice t.a t.n t.cap) ∧ Below V.heap.size V w')
        (first | (exact mk.out _ bD) | (exact mk.out _ (Below.refl _ _)) | (exact mk.out _ X1) | (exact mk.out _ X2) | (exact mk.out _ X3))
        (first
          | (go_at_call 41; with_reducible refine (KE.out _ (hsV.out.1.carry bD)).mono ?_; rintro e x1 ⟨⟨v1, rfl, hv1, hown1⟩, hb1⟩; have X1 := below_step bD hb1; have O1 := own_mono (base' := V.heap.size) hown1 (Nat.le_refl _))
          | (go_at_call 41; with_reducible refine (KF.out _ (hsV.out.2.carry X1)).mono ?_; rintro e x2 ⟨⟨v2, rfl, hv2, hown2⟩, hb2⟩; have X2 := below_step X1 hb2; have O2 := own_other O1 (grown_of_below hb2) (fun r e => by cases e); obtain ⟨g2, cap2, rfl⟩ := owned_shape hown2 ht1; have R2 := Row.owned hown2 (lst_len _ _))
          | (refine step_append_lies _ (by rfl) _ _ _ (by rfl) V.heap.size 28 i0 _ 2 16 Try.underlying23 hi0'.out hz0'.out hz1'.out hz2'.out rfl (by decide) v1 s.n _ (by rfl) O2 ⟨g2, 0, none⟩ t.n cap2 (flatV (lst (edgA t.vs) t.n)) (by rfl) (by rw [flatV_length, lst_len]) (row_cells R2) (flatV_one _) ht1 (by unfold maxLen; omega) (by omega) X2.size x2.heap.size rfl ?_; intro gg cap3 x3 hown3 hgrow hat hlt3; have X3 := X2.grown hgrow X2.size (fun j hj => (World.ownsRow.lt O2 j hj).1)))
      go_wp2_with fail
      go_meet
      refine ⟨?_, X3⟩
      unfold edgL
      rw [flatV_append]
      exact hown3
  obtain ⟨hO, hb1⟩ := hcut
  have hO' := Lib.hid hO
  have hVC := Lib.hid (And.intro A0 (And.intro A1 (And.intro P0 (And.intro P1 (And.intro B0 (And.intro B1 (And.intro Q0 Q1)))))))
  replace A0 := carry (hb1) A0
  replace A1 := carry (hb1) A1
  replace P0 := carry (hb1) P0
  replace P1 := carry (hb1) P1
  replace B0 := carry (hb1) B0
  replace B1 := carry (hb1) B1
  replace Q0 := carry (hb1) Q0
  replace Q1 := carry (hb1) Q1
  replace hsV := Lib.hid (And.intro (hsV.out.1.carry hb1) (hsV.out.2.carry hb1))
  have hB0 := hB
  replace hB := below_step hB hb1
  have hVc : V.heap.size ≤ wc.heap.size := hb1.size
  have hfin := Lib.hid (fun (X : World) (v : Value) (hh : s.n = 0 ∨ t.n = 0) (h : X.ownsRow V.heap.size 28 2 v (s.n + t.n + 1) (flatV (edgL s t) ++ [.int .i64 (axV (lastD s t (p0, p1) (q0, q1))).1, .int .i64 (axV (lastD s t (p0, p1) (q0, q1))).2])) =>
    (show X.ownsRow w.heap.size 28 2 v (ndir s t) (flatV (axesV s t (p0, p1) (q0, q1))) from by
      rw [hnd.out, hax.out, if_pos hh, if_pos hh, flatV_append, flat_one]
      exact own_mono h hVz))
  have bE : Below wc.heap.size wc wc.drew := (Below.refl _ wc).drew
  have hBV := Lib.hid hb1
  have hB0' := Lib.hid hB0
  clear hO mk bD KE KF hb1 hB0
  by_cases hs0 : s.n = 0
  · have b1 : ((s.n : Int) == 0) = true := by rw [hs0]; rfl
    by_cases ht0 : t.n = 0
    · have b2 : ((t.n : Int) == 0) = true := by rw [ht0]; rfl
      have k1 := fun w => refSub_any q0 q1 p0 p1 w eq0.bd eq1.bd ep0.bd ep1.bd
      have k2 := fun w => refAxis_any (q0 - p0) (q1 - p1) w (by unfold Be at *; unfold Bd; omega) (by unfold Be at *; unfold Bd; omega)
      rw [show axV (q0 - p0, q1 - p1) = axV (lastD s t (p0, p1) (q0, q1)) from by rw [hcc.out hs0 ht0]] at k2
      have hf := Lib.hid (fun X v => hfin.out X v (.inl hs0))
      generalize (axV (lastD s t (p0, p1) (q0, q1))).1 = z0 at k2 hf
      generalize (axV (lastD s t (p0, p1) (q0, q1))).2 = z1 at k2 hf
      have hk := Lib.hid (And.intro k1 k2)
      have hst := Lib.hid (And.intro hs0 ht0)
      clear k1 k2 hs0 ht0
      go_wp2_with fail
      refine (hk.out.1 _).mono ?_
      rintro e x1 ⟨rfl, hb1⟩
      have O1 := own_other hO'.out (grown_of_below hb1) (fun r e => by cases e)
      have hB1 := below_step hB hb1
      go_wp2_with fail
      refine (hk.out.2 _).mono ?_
      rintro e x2 ⟨rfl, hb2⟩
      have O2 := own_other O1 (grown_of_below hb2) (fun r e => by cases e)
      have hB2 := below_step hB1 hb2
      have hz2 := hb2.size
      have hz1 := hb1.size
      go_wp2_with (at_builtin; refine wpList_append_own _ rfl _ _ 23 rfl V.heap.size 28 i0 _ 2 16 Try.underlying23 hi0'.out hz0'.out hz1'.out hz2'.out rfl (by decide) _ _ _ rfl (World.ownsRow.alloc O2 _) ⟨x2.heap.size, 0, none⟩ 1 1 [.int .i64 z0, .int .i64 z1] rfl rfl (rnews _ _ _ _ rfl) (by simp [Value.oneCell']) (by unfold maxLen; omega) (by omega) (by simp; omega) ?_; intro v' x3 hown3 hg3 _)
      have hB3 := (below_step hB2 (alloc_below x2 _)).grown hg3 (by simp; omega) (fun j hj => by have := (World.ownsRow.lt O2 j hj).1; omega)
      go_wp2
      go_ret
      exact ⟨⟨_, rfl, hf.out _ _ hown3⟩, hB3⟩
    · have b2 : ((t.n : Int) == 0) = false := by simp only [beq_eq_false_iff_ne, ne_eq]; omega
      have k1 := fun w (h : Sh w t) => h.refNearest ht0 q0 q1 p0 p1 eq0 eq1 ep0 ep1
      have hnb := hn1.out ht0
      have hls := hcp.out hs0 ht0
      have hf := Lib.hid (fun X v => hfin.out X v (.inl hs0))
      have hst := Lib.hid (And.intro hs0 ht0)
      clear hs0 ht0
      have k2 := fun w => refSub_any ((corner t.vs (q0, q1) (p0, p1)).1 + p0) ((corner t.vs (q0, q1) (p0, p1)).2 + p1) p0 p1 w hnb.1.1 hnb.1.2 ep0.bd ep1.bd
      rw [Int.add_sub_cancel, Int.add_sub_cancel] at k2
      have k3 := fun w => refAxis_any (corner t.vs (q0, q1) (p0, p1)).1 (corner t.vs (q0, q1) (p0, p1)).2 w hnb.2.1 hnb.2.2
      rw [show axV ((corner t.vs (q0, q1) (p0, p1)).1, (corner t.vs (q0, q1) (p0, p1)).2) = axV (lastD s t (p0, p1) (q0, q1)) from by rw [hls]] at k3
      generalize (axV (lastD s t (p0, p1) (q0, q1))).1 = z0 at k3 hf
      generalize (axV (lastD s t (p0, p1) (q0, q1))).2 = z1 at k3 hf
      generalize (corner t.vs (q0, q1) (p0, p1)).1 + p0 = m0 at k1 k2
      generalize (corner t.vs (q0, q1) (p0, p1)).2 + p1 = m1 at k1 k2
      generalize (corner t.vs (q0, q1) (p0, p1)).1 = d0 at k2 k3
      generalize (corner t.vs (q0, q1) (p0, p1)).2 = d1 at k2 k3
      have hk := Lib.hid (And.intro k1 (And.intro k2 k3))
      obtain ⟨vA0, vA1, vP0, vP1, vB0, vB1, vQ0, vQ1⟩ := hVC.out
      have mk := Lib.hid (fun w' (h : Below V.heap.size V w') => (⟨carry h vB0, carry h vB1, carry h vQ0, carry h vQ1, carry h vP0, carry h vP1, h⟩ : w'.cell? ⟨w.heap.size + 2, 0, none⟩ = some (.int .i64 t.r) ∧ w'.cell? ⟨w.heap.size + 2, 1, none⟩ = some (.slice t.a t.n t.cap) ∧ w'.cell? ⟨w.heap.size + 3, 0, none⟩ = some (.int .i64 q0) ∧ w'.cell? ⟨w.heap.size + 3, 1, none⟩ = some (.int .i64 q1) ∧ w'.cell? ⟨w.heap.size + 1, 0, none⟩ = some (.int .i64 p0) ∧ w'.cell? ⟨w.heap.size + 1, 1, none⟩ = some (.int .i64 p1) ∧ Below V.heap.size V w'))
      clear vA0 vA1 vP0 vP1 vB0 vB1 vQ0 vQ1
      have OD : wc.drew.ownsRow V.heap.size 28 2 u9 (s.n + t.n) (flatV (edgL s t)) := hO'.out
      clear k1 k2 k3 hnb hls
      go_upto_region 5 with fail
      go_region_held3 (fun w' => w'.cell? ⟨w.heap.size + 2, 0, none⟩ = some (.int .i64 t.r) ∧ w'.cell? ⟨w.heap.size + 2, 1, none⟩ = some (.slice t.a t.n t.cap) ∧ w'.cell? ⟨w.heap.size + 3, 0, none⟩ = some (.int .i64 q0) ∧ w'.cell? ⟨w.heap.size + 3, 1, none⟩ = some (.int .i64 q1) ∧ w'.cell? ⟨w.heap.size + 1, 0, none⟩ = some (.int .i64 p0) ∧ w'.cell? ⟨w.heap.size + 1, 1, none⟩ = some (.int .i64 p1) ∧ Below V.heap.size V w')
        (first | (exact mk.out _ (below_step hBV.out bE)) | (exact mk.out _ hBV.out) | (exact mk.out _ (below_step hBV.out X1)) | (exact mk.out _ (below_step hBV.out X2)) | (exact mk.out _ (below_step hBV.out X3)) | (exact mk.out _ (below_step (below_step hBV.out X3) (alloc_below _ _))) | (exact mk.out _ X4))
        (first
          | (go_at_call 44; with_reducible refine (hk.out.1 _ (hsV.out.2.carry bE)).mono ?_; rintro e x1 ⟨rfl, hb1⟩; have X1 := below_step bE hb1; have O1 := own_other OD (grown_of_below hb1) (fun r e => by cases e))
          | (go_at_call 43; with_reducible refine (hk.out.2.1 _).mono ?_; rintro e x2 ⟨rfl, hb2⟩; have X2 := below_step X1 hb2; have O2 := own_other O1 (grown_of_below hb2) (fun r e => by cases e))
          | (go_at_call 42; with_reducible refine (hk.out.2.2 _).mono ?_; rintro e x3 ⟨rfl, hb3⟩; have X3 := below_step X2 hb3; have O3 := own_other O2 (grown_of_below hb3) (fun r e => by cases e); have z3 := X3.size)
          | (refine step_append_lies _ (by rfl) _ _ _ (by rfl) V.heap.size 28 i0 _ 2 16 Try.underlying23 hi0'.out hz0'.out hz1'.out hz2'.out rfl (by decide) u9 (s.n + t.n) _ (by rfl) (World.ownsRow.alloc O3 _) ⟨x3.heap.size, 0, none⟩ 1 1 [.int .i64 z0, .int .i64 z1] (by rfl) (by rfl) (rnews _ _ _ _ rfl) (by simp [Value.oneCell']) (by omega) (by unfold maxLen; omega) (by omega) (by simp; omega) (x3.heap.size + 1) (by simp) ?_; intro gg cap4 x4 hown4 hgrow hat hlt4; have X4 := (below_step (below_step hBV.out X3) (alloc_below x3 _)).grown hgrow (by simp; omega) (fun j hj => (World.ownsRow.lt O3 j hj).1)))
      go_wp2
      go_ret
      exact ⟨⟨_, rfl, hf.out _ _ hown4⟩, below_step hB0'.out X4⟩
  · have b1 : ((s.n : Int) == 0) = false := by simp only [beq_eq_false_iff_ne, ne_eq]; omega
    by_cases ht0 : t.n = 0
    · have b2 : ((t.n : Int) == 0) = true := by rw [ht0]; rfl
      have k1 := fun w (h : Sh w s) => h.refNearest hs0 p0 p1 q0 q1 ep0 ep1 eq0 eq1
      have hnb := hn2.out hs0
      have hls := hpc.out hs0 ht0
      have hf := Lib.hid (fun X v => hfin.out X v (.inr ht0))
      have hst := Lib.hid (And.intro hs0 ht0)
      clear hs0 ht0
      have k2 := fun w => refSub_any ((corner s.vs (p0, p1) (q0, q1)).1 + q0) ((corner s.vs (p0, p1) (q0, q1)).2 + q1) q0 q1 w hnb.1.1 hnb.1.2 eq0.bd eq1.bd
      rw [Int.add_sub_cancel, Int.add_sub_cancel] at k2
      have k3 := fun w => refAxis_any (corner s.vs (p0, p1) (q0, q1)).1 (corner s.vs (p0, p1) (q0, q1)).2 w hnb.2.1 hnb.2.2
      rw [show axV ((corner s.vs (p0, p1) (q0, q1)).1, (corner s.vs (p0, p1) (q0, q1)).2) = axV (lastD s t (p0, p1) (q0, q1)) from by rw [hls]] at k3
      generalize (axV (lastD s t (p0, p1) (q0, q1))).1 = z0 at k3 hf
      generalize (axV (lastD s t (p0, p1) (q0, q1))).2 = z1 at k3 hf
      generalize (corner s.vs (p0, p1) (q0, q1)).1 + q0 = m0 at k1 k2
      generalize (corner s.vs (p0, p1) (q0, q1)).2 + q1 = m1 at k1 k2
      generalize (corner s.vs (p0, p1) (q0, q1)).1 = d0 at k2 k3
      generalize (corner s.vs (p0, p1) (q0, q1)).2 = d1 at k2 k3
      have hk := Lib.hid (And.intro k1 (And.intro k2 k3))
      obtain ⟨vA0, vA1, vP0, vP1, vB0, vB1, vQ0, vQ1⟩ := hVC.out
      have mk := Lib.hid (fun w' (h : Below V.heap.size V w') => (⟨carry h vA0, carry h vA1, carry h vP0, carry h vP1, carry h vQ0, carry h vQ1, h⟩ : w'.cell? ⟨w.heap.size, 0, none⟩ = some (.int .i64 s.r) ∧ w'.cell? ⟨w.heap.size, 1, none⟩ = some (.slice s.a s.n s.cap) ∧ w'.cell? ⟨w.heap.size + 1, 0, none⟩ = some (.int .i64 p0) ∧ w'.cell? ⟨w.heap.size + 1, 1, none⟩ = some (.int .i64 p1) ∧ w'.cell? ⟨w.heap.size + 3, 0, none⟩ = some (.int .i64 q0) ∧ w'.cell? ⟨w.heap.size + 3, 1, none⟩ = some (.int .i64 q1) ∧ Below V.heap.size V w'))
      clear vA0 vA1 vP0 vP1 vB0 vB1 vQ0 vQ1
      have OD : wc.drew.ownsRow V.heap.size 28 2 u9 (s.n + t.n) (flatV (edgL s t)) := hO'.out
      clear k1 k2 k3 hnb hls
      go_upto_region 7 with fail
      go_region_held3 (fun w' => w'.cell? ⟨w.heap.size, 0, none⟩ = some (.int .i64 s.r) ∧ w'.cell? ⟨w.heap.size, 1, none⟩ = some (.slice s.a s.n s.cap) ∧ w'.cell? ⟨w.heap.size + 1, 0, none⟩ = some (.int .i64 p0) ∧ w'.cell? ⟨w.heap.size + 1, 1, none⟩ = some (.int .i64 p1) ∧ w'.cell? ⟨w.heap.size + 3, 0, none⟩ = some (.int .i64 q0) ∧ w'.cell? ⟨w.heap.size + 3, 1, none⟩ = some (.int .i64 q1) ∧ Below V.heap.size V w')
        (first | (exact mk.out _ (below_step hBV.out bE)) | (exact mk.out _ hBV.out) | (exact mk.out _ (below_step hBV.out X1)) | (exact mk.out _ (below_step hBV.out X2)) | (exact mk.out _ (below_step hBV.out X3)) | (exact mk.out _ (below_step (below_step hBV.out X3) (alloc_below _ _))) | (exact mk.out _ X4))
        (first
          | (go_at_call 44; with_reducible refine (hk.out.1 _ (hsV.out.1.carry bE)).mono ?_; rintro e x1 ⟨rfl, hb1⟩; have X1 := below_step bE hb1; have O1 := own_other OD (grown_of_below hb1) (fun r e => by cases e))
          | (go_at_call 43; with_reducible refine (hk.out.2.1 _).mono ?_; rintro e x2 ⟨rfl, hb2⟩; have X2 := below_step X1 hb2; have O2 := own_other O1 (grown_of_below hb2) (fun r e => by cases e))
          | (go_at_call 42; with_reducible refine (hk.out.2.2 _).mono ?_; rintro e x3 ⟨rfl, hb3⟩; have X3 := below_step X2 hb3; have O3 := own_other O2 (grown_of_below hb3) (fun r e => by cases e); have z3 := X3.size)
          | (refine step_append_lies _ (by rfl) _ _ _ (by rfl) V.heap.size 28 i0 _ 2 16 Try.underlying23 hi0'.out hz0'.out hz1'.out hz2'.out rfl (by decide) u9 (s.n + t.n) _ (by rfl) (World.ownsRow.alloc O3 _) ⟨x3.heap.size, 0, none⟩ 1 1 [.int .i64 z0, .int .i64 z1] (by rfl) (by rfl) (rnews _ _ _ _ rfl) (by simp [Value.oneCell']) (by omega) (by unfold maxLen; omega) (by omega) (by simp; omega) (x3.heap.size + 1) (by simp) ?_; intro gg cap4 x4 hown4 hgrow hat hlt4; have X4 := (below_step (below_step hBV.out X3) (alloc_below x3 _)).grown hgrow (by simp; omega) (fun j hj => (World.ownsRow.lt O3 j hj).1)))
      go_wp2
      go_ret
      exact ⟨⟨_, rfl, hf.out _ _ hown4⟩, below_step hB0'.out X4⟩
    · have b2 : ((t.n : Int) == 0) = false := by simp only [beq_eq_false_iff_ne, ne_eq]; omega
      have hst := Lib.hid (And.intro hs0 ht0)
      clear hs0 ht0
      go_wp2
      go_ret
      refine ⟨⟨_, rfl, ?_⟩, hB⟩
      have hh : ¬ (s.n = 0 ∨ t.n = 0) := fun h => h.elim hst.out.1 hst.out.2
      rw [hnd.out, hax.out, if_neg hh, if_neg hh, List.append_nil]
      exact own_mono hO'.out hVz


theorem refOvl_any {w0 : World} {s t : Sp} (hs : Sh w0 s) (ht : Sh w0 t) (p0 p1 q0 q1 : Int) (w : World) :
    Calls Try.prog 50 #[.agg #[.int .i64 (p0 + s.xa), .int .i64 (p1 + s.ya), .int .i64 (p0 + s.xb), .int .i64 (p1 + s.yb)], .agg #[.int .i64 (q0 + t.xa), .int .i64 (q1 + t.ya), .int .i64 (q0 + t.xb), .int .i64 (q1 + t.yb)]] w fun e w' =>
      e = .returned (.bool (Bo.ov (bxS s (p0, p1)) (bxS t (q0, q1)))) ∧ Below w.heap.size w w' := by
  have h1 := hs.bd
  have h2 := ht.bd
  have := refOverlap_any (bxS s (p0, p1)) (bxS t (q0, q1)) w
  rw [rov_ov (by unfold bxS; simp only; omega) (by unfold bxS; simp only; omega)] at this
  exact this
theorem cur_store {W : World} {B : Nat} {c : Int × Int × Int} (h : W.heap[B]? = some (curC c)) (x y z : Int) : (((W.setCell ⟨B, 0, none⟩ (.int .i64 x)).setCell ⟨B, 1, none⟩ (.int .i64 y)).setCell ⟨B, 2, none⟩ (.int .i64 z)).heap[B]? = some (curC (x, y, z)) := store3 h x y z
theorem cur_cells {W : World} {B : Nat} {c : Int × Int × Int} (h : W.heap[B]? = some (curC c)) : W.cell? ⟨B, 0, none⟩ = some (.int .i64 c.1) ∧ W.cell? ⟨B, 1, none⟩ = some (.int .i64 c.2.1) ∧ W.cell? ⟨B, 2, none⟩ = some (.int .i64 c.2.2) := by
  have h0 := heap_cell h 0
  have h1 := heap_cell h 1
  have h2 := heap_cell h 2
  simp only [List.getElem?_toArray, List.getElem?_cons_zero, List.getElem?_cons_succ] at h0 h1 h2
  exact ⟨h0, h1, h2⟩
theorem rset3 {W : World} {k : Nat} {o : Obj} (B : Nat) (x y z : Value) (h : W.heap[k]? = some o) (hn : k ≠ B) : (((W.setCell ⟨B, 0, none⟩ x).setCell ⟨B, 1, none⟩ y).setCell ⟨B, 2, none⟩ z).heap[k]? = some o :=
  (Below.heap_setCell _ _ _ _ hn).trans (rset2 B x y h hn)
theorem cur_all {s t : Sp} {p q : Int × Int} (hn : 1 ≤ ndir s t) : curV (axisV s t p q) (dpt s t p q) (ndir s t) = ((hitA s t p q).1, (hitA s t p q).2, hitD s t p q) := by
  obtain ⟨j, hj⟩ : ∃ j, ndir s t = j + 1 := ⟨ndir s t - 1, by omega⟩
  rw [hj, cur_succ]
  unfold hitD hitA hitK
  rw [hj]
  rfl

set_option maxHeartbeats 8000000 in
set_option maxRecDepth 100000 in
theorem refCollide_any (s t : Sp) (p0 p1 q0 q1 : Int) (w : World) (hs : Sh w s) (ht : Sh w t) (hp0 : Be p0) (hp1 : Be p1) (hq0 : Be q0) (hq1 : Be q1) :
    Calls Try.prog 19 #[.agg #[.int .i64 s.r, .slice s.a s.n s.cap], .agg #[.int .i64 p0, .int .i64 p1], .agg #[.int .i64 t.r, .slice t.a t.n t.cap], .agg #[.int .i64 q0, .int .i64 q1]] w fun e w' =>
      ((¬ Hit s t (p0, p1) (q0, q1) ∧ e = .returned (.tuple #[.agg #[.int .i64 0, .int .i64 0, .int .i64 0], .bool false])) ∨
       (Hit s t (p0, p1) (q0, q1) ∧ e = .returned (.tuple #[.agg #[.int .i64 (hitN s t (p0, p1) (q0, q1)).1, .int .i64 (hitN s t (p0, p1) (q0, q1)).2, .int .i64 (hitD s t (p0, p1) (q0, q1))], .bool true]))) ∧ Below w.heap.size w w' := by
  have k1 := fun w (h : Sh w s) => h.refBounds p0 p1 hp0.bp hp1.bp
  have k2 := fun w (h : Sh w t) => h.refBounds q0 q1 hq0.bp hq1.bp
  have k3 := fun W => refOvl_any hs ht p0 p1 q0 q1 W
  have hoi : Bo.ov (bxS s (p0, p1)) (bxS t (q0, q1)) = true ↔ Bo.Ov (bxS s (p0, p1)) (bxS t (q0, q1)) := Bo.ov_iff
  obtain ⟨ob, hob⟩ : ∃ ob, ob = Bo.ov (bxS s (p0, p1)) (bxS t (q0, q1)) := ⟨_, rfl⟩
  rw [← hob] at k3 hoi
  have hoi' := Lib.hid hoi
  clear hob hoi
  generalize p0 + s.xa = X0 at *
  generalize p1 + s.ya = X1 at *
  generalize p0 + s.xb = X2 at *
  generalize p1 + s.yb = X3 at *
  generalize q0 + t.xa = Y0 at *
  generalize q1 + t.ya = Y1 at *
  generalize q0 + t.xb = Y2 at *
  generalize q1 + t.yb = Y3 at *
  have hk := Lib.hid (And.intro k1 (And.intro k2 k3))
  have hnp := ndir_pos (t := t) hs
  have hn13 := ndir_le hs ht
  have hX := (fourBox_boxes w s t p0 p1 q0 q1).carry (alloc_below _ (curC (0, 0, 0)))
  have hB := below_step (fourBox_below w s t p0 p1 q0 q1) (alloc_below _ (curC (0, 0, 0)))
  have hR := World.alloc_heap_new (fourBox w s t p0 p1 q0 q1) (curC (0, 0, 0))
  rw [fourBox_size] at hR
  have hsV := Lib.hid (And.intro (hs.carry hB) (ht.carry hB))
  obtain ⟨V, hV⟩ : ∃ V, V = (fourBox w s t p0 p1 q0 q1).alloc (curC (0, 0, 0)) := ⟨_, rfl⟩
  have hVz : V.heap.size = w.heap.size + 5 := by rw [hV]; simp [fourBox_size]
  have hVl := Lib.hid hV
  rw [← hV] at hX hB hsV hR
  have hsh := Lib.hid (And.intro hs ht)
  clear k1 k2 k3 hV hs ht
  obtain ⟨A0, A1, P0, P1, B0, B1, Q0, Q1⟩ := hX
  have hY := Lib.hid (show (¬ Hit s t (p0, p1) (q0, q1) ∨ Hit s t (p0, p1) (q0, q1)) from (Classical.em _).symm)
  go_enter Try.func19, Try.ntmps19
  go_upto_region 1 with fail
  rw [show ((((w.alloc (.cells #[.int .i64 s.r, .slice s.a s.n s.cap] 25)).alloc (.cells #[.int .i64 p0, .int .i64 p1] 28)).alloc (.cells #[.int .i64 t.r, .slice t.a t.n t.cap] 25)).alloc (.cells #[.int .i64 q0, .int .i64 q1] 28)).alloc (.cells #[.int .i64 0, .int .i64 0, .int .i64 0] 34) = V from hVl.out.symm]
  clear hVl
  refine wp_region_made (by kernel_rfl) (by kernel_rfl) ?_
  intro W hK
  have g_A0 := fun x => carry ((hK.below x)) A0
  have g_A1 := fun x => carry ((hK.below x)) A1
  have g_P0 := fun x => carry ((hK.below x)) P0
  have g_P1 := fun x => carry ((hK.below x)) P1
  have g_B0 := fun x => carry ((hK.below x)) B0
  have g_B1 := fun x => carry ((hK.below x)) B1
  have g_Q0 := fun x => carry ((hK.below x)) Q0
  have g_Q1 := fun x => carry ((hK.below x)) Q1
  repeat (go_big_quiet_step ((first | (go_at_call 38; with_reducible exact met_made (hk.out.1 _ (hsV.out.1.carry (hK.below _)))) | (go_at_call 38; with_reducible exact met_made (hk.out.2.1 _ (hsV.out.2.carry (hK.below _)))) | (go_at_call 50; with_reducible exact met_made (hk.out.2.2 _)))))
  refine wpQuiet_nil ?_
  intro wq hw'
  have hbq := kept_in hK hw'
  clear g_A0 g_A1 g_P0 g_P1 g_B0 g_B1 g_Q0 g_Q1
  clear hw' hK W
  replace A0 := carry (hbq) A0
  replace A1 := carry (hbq) A1
  replace P0 := carry (hbq) P0
  replace P1 := carry (hbq) P1
  replace B0 := carry (hbq) B0
  replace B1 := carry (hbq) B1
  replace Q0 := carry (hbq) Q0
  replace Q1 := carry (hbq) Q1
  replace hR := rcarry hbq hR
  replace hB := below_step hB hbq
  replace hsV := Lib.hid (And.intro (hsV.out.1.carry hbq) (hsV.out.2.carry hbq))
  have hqz : w.heap.size + 5 ≤ wq.heap.size := by have := hbq.size; omega
  clear hbq hk hVz
  obtain ⟨U, hU⟩ : ∃ U, U = wq := ⟨wq, rfl⟩
  subst hU
  cases ob with
  | false =>
    have hno : ¬ Hit s t (p0, p1) (q0, q1) := fun h => by have := hoi'.out.2 h.1; cases this
    obtain ⟨r0, r1, r2⟩ := cur_cells hR
    have f0 := heap_frozen hR 0
    have f1 := heap_frozen hR 1
    have f2 := heap_frozen hR 2
    simp only at r0 r1 r2
    go_wp2
    refine bodyPost_ret (v := .tuple #[.agg #[.int .i64 0, .int .i64 0, .int .i64 0], .bool false]) (by simp [results, Try.results19, go_sem, r0, r1, r2]) rfl ⟨.inl ⟨hno, rfl⟩, ?_⟩
    exact ((hB.setCell (by first | (simp; done) | (simp; omega) | omega) _).setCell (by first | (simp; done) | (simp; omega) | omega) _).setCell (by first | (simp; done) | (simp; omega) | omega) _
  | true =>
    have hov := Lib.hid (hoi'.out.1 rfl)
    go_upto_region 4 with fail
    have hC := World.alloc_heap_new U (curC (0, 0, 0))
    have hb1 := alloc_below U (curC (0, 0, 0))
    obtain ⟨V1, hV1⟩ : ∃ V1, V1 = U.alloc (curC (0, 0, 0)) := ⟨_, rfl⟩
    rw [← hV1] at hC hb1
    rw [show U.alloc (.cells #[.int .i64 0, .int .i64 0, .int .i64 0] 34) = V1 from hV1.symm]
    replace hR := rcarry hb1 hR
    have hBq := hB
    replace hB := below_step hB hb1
    have hbq1 := hb1
    replace hsV := Lib.hid (And.intro (hsV.out.1.carry hb1) (hsV.out.2.carry hb1))
    have hq8 := Lib.hid (And.intro A0 (And.intro A1 (And.intro P0 (And.intro P1 (And.intro B0 (And.intro B1 (And.intro Q0 Q1)))))))
    replace A0 := carry (hb1) A0
    replace A1 := carry (hb1) A1
    replace P0 := carry (hb1) P0
    replace P1 := carry (hb1) P1
    replace B0 := carry (hb1) B0
    replace B1 := carry (hb1) B1
    replace Q0 := carry (hb1) Q0
    replace Q1 := carry (hb1) Q1
    clear hb1 hV1
    go_wp2_with fail
    refine (refAxes_any s t p0 p1 q0 q1 _ hsV.out.1 hsV.out.2 hp0 hp1 hq0 hq1).mono ?_
    rintro e u2 ⟨⟨v, rfl, hown⟩, hb1⟩
    obtain ⟨g, cap, rfl⟩ := owned_shape hown hnp
    have hlen : (axesV s t (p0, p1) (q0, q1)).length = ndir s t := lst_len _ _
    have hrow := Row.owned hown hlen
    have hgC : V1.heap.size ≤ g := (World.ownsRow.lt hown g rfl).1
    have hC1 : U.heap.size < V1.heap.size := (Array.getElem?_eq_some_iff.1 hC).1
    have hax := Lib.hid (show ∀ k, k < ndir s t → at' (axesV s t (p0, p1) (q0, q1)) k = axisV s t (p0, p1) (q0, q1) k from fun k hk => lst_at _ hk)
    replace hR := rcarry hb1 hR
    replace hC := rcarry hb1 hC
    replace hB := below_step hB hb1
    have hBU := below_step hbq1 hb1
    have hsq := Lib.hid (And.intro (hsh.out.1.carry hBq) (hsh.out.2.carry hBq))
    generalize axesV s t (p0, p1) (q0, q1) = AX at *
    have hcp := hrow.le
    have hcm := hrow.max
    unfold maxLen at hcm
    rw [hlen] at hcp
    have hrow' := Lib.hid hrow
    have hlen' := Lib.hid hlen
    obtain ⟨N, hN⟩ : ∃ N, N = ndir s t := ⟨_, rfl⟩
    have hN' := Lib.hid hN
    rw [← hN] at hnp hn13 hcp ⊢
    clear hown hrow hlen hb1 hbq1 A0 A1 P0 P1 B0 B1 Q0 Q1 hN hsV
    go_wp2_with fail
    go_loopw [12] (fun i wr => ∃ k : Nat, k ≤ N ∧ i = .int .i64 k ∧ wr.heap[U.heap.size]? = some (curC (curV (axisV s t (p0, p1) (q0, q1)) (dpt s t (p0, p1) (q0, q1)) k)) ∧ wr.heap[w.heap.size + 4]? = some (curC (0, 0, 0)) ∧ Below U.heap.size U wr ∧ Row wr g cap AX ∧ (∀ i, i < k → 0 < dpt s t (p0, p1) (q0, q1) i)) (fun i _ => N - (intOf i).toNat)
    case atStart => exact ⟨0, Nat.zero_le _, rfl, hC, hR, hBU, hrow'.out, fun i hi => absurd hi (Nat.not_lt_zero _)⟩
    case round =>
      clear hC hR hBU hrow' hB
      obtain ⟨k, hkN, rfl, hC, hR, hBr, hrow, hpos⟩ := hrel
      have hpos' := Lib.hid hpos
      have hrow' := Lib.hid hrow
      obtain ⟨A0, A1, P0, P1, B0, B1, Q0, Q1⟩ := hq8.out
      replace A0 := carry (hBr) A0
      replace A1 := carry (hBr) A1
      replace P0 := carry (hBr) P0
      replace P1 := carry (hBr) P1
      replace B0 := carry (hBr) B0
      replace B1 := carry (hBr) B1
      replace Q0 := carry (hBr) Q0
      replace Q1 := carry (hBr) Q1
      have hsr := Lib.hid (And.intro (hsq.out.1.carry hBr) (hsq.out.2.carry hBr))
      clear hpos hrow
      by_cases hlt : k < N
      · obtain ⟨vx, vy⟩ := hrow'.out.at (i := k) (by rw [hlen'.out, ← hN'.out]; exact hlt)
        rw [hax.out k (by rw [← hN'.out]; exact hlt)] at vx vy
        have hbd := axis_bd s t (p0, p1) (q0, q1) k
        have kP1 := fun w (h : Sh w s) => h.refProject p0 p1 (axisV s t (p0, p1) (q0, q1) k).1 (axisV s t (p0, p1) (q0, q1) k).2 hp0.bp hp1.bp (small_bd' hbd.1) (small_bd' hbd.2)
        have kP2 := fun w (h : Sh w t) => h.refProject q0 q1 (axisV s t (p0, p1) (q0, q1) k).1 (axisV s t (p0, p1) (q0, q1) k).2 hq0.bp hq1.bp (small_bd' hbd.1) (small_bd' hbd.2)
        have d1 := hsh.out.1.proj_bd hp0.bp hp1.bp (small_bd' hbd.1) (small_bd' hbd.2)
        have d2 := hsh.out.2.proj_bd hq0.bp hq1.bp (small_bd' hbd.1) (small_bd' hbd.2)
        have hdk : dpt s t (p0, p1) (q0, q1) k = min (s.ph p0 p1 (axisV s t (p0, p1) (q0, q1) k).1 (axisV s t (p0, p1) (q0, q1) k).2) (t.ph q0 q1 (axisV s t (p0, p1) (q0, q1) k).1 (axisV s t (p0, p1) (q0, q1) k).2) - max (s.pl p0 p1 (axisV s t (p0, p1) (q0, q1) k).1 (axisV s t (p0, p1) (q0, q1) k).2) (t.pl q0 q1 (axisV s t (p0, p1) (q0, q1) k).1 (axisV s t (p0, p1) (q0, q1) k).2) := rfl
        obtain ⟨ax, hax1⟩ : ∃ ax, ax = axisV s t (p0, p1) (q0, q1) := ⟨_, rfl⟩
        obtain ⟨D, hD1⟩ : ∃ D, D = dpt s t (p0, p1) (q0, q1) := ⟨_, rfl⟩
        rw [← hax1] at hC vx vy kP1 kP2 d1 d2 hdk
        rw [← hD1] at hC hdk
        have hpos2 : ∀ i, i < k → 0 < D i := fun i hi => by rw [hD1]; exact hpos'.out i hi
        obtain ⟨x0, hx0⟩ : ∃ x, x = (ax k).1 := ⟨_, rfl⟩
        obtain ⟨x1, hx1⟩ : ∃ x, x = (ax k).2 := ⟨_, rfl⟩
        rw [← hx0] at vx kP1 kP2 d1 d2 hdk
        rw [← hx1] at vy kP1 kP2 d1 d2 hdk
        generalize s.pl p0 p1 x0 x1 = sl at *
        generalize s.ph p0 p1 x0 x1 = sh at *
        generalize t.pl q0 q1 x0 x1 = tl at *
        generalize t.ph q0 q1 x0 x1 = th at *
        have hmn := min_if sh th
        have hmx := max_if sl tl
        obtain ⟨mn, hmn'⟩ : ∃ m, m = min sh th := ⟨_, rfl⟩
        obtain ⟨mx, hmx'⟩ : ∃ m, m = max sl tl := ⟨_, rfl⟩
        rw [← hmn'] at hmn hdk
        rw [← hmx'] at hmx hdk
        have hb1 : -9223372036854775808 ≤ mn - mx := by omega
        have hb2 : mn - mx ≤ 9223372036854775807 := by omega
        have hkk := Lib.hid (And.intro kP1 kP2)
        have hmm := Lib.hid (And.intro hmn hmx)
        have hDk := Lib.hid hdk
        have hnames := Lib.hid (And.intro hax1 (And.intro hD1 (And.intro hx0 hx1)))
        have hpos3 := Lib.hid hpos2
        have hkci : (k : Int) < (N : Int) := by omega
        clear kP1 kP2 d1 d2 hmn' hmx' hmn hmx hdk hbd hax1 hD1 hx0 hx1 hpos2
        go_upto_region 8 with fail
        refine wp_region_made (by kernel_rfl) (by kernel_rfl) ?_
        intro W hK
        have g_A0 := fun x => carry ((hK.below x)) A0
        have g_A1 := fun x => carry ((hK.below x)) A1
        have g_P0 := fun x => carry ((hK.below x)) P0
        have g_P1 := fun x => carry ((hK.below x)) P1
        have g_B0 := fun x => carry ((hK.below x)) B0
        have g_B1 := fun x => carry ((hK.below x)) B1
        have g_Q0 := fun x => carry ((hK.below x)) Q0
        have g_Q1 := fun x => carry ((hK.below x)) Q1
        have g_vx := fun x => carry ((hK.below x)) vx
        have g_vy := fun x => carry ((hK.below x)) vy
        repeat (go_big_quiet_step ((go_at_call 51; with_reducible exact met_made (hkk.out.1 _ (hsr.out.1.carry (hK.below _))))))
        refine wpQuiet_nil ?_
        intro wq hw'
        have hbq := kept_in hK hw'
        clear g_A0 g_A1 g_P0 g_P1 g_B0 g_B1 g_Q0 g_Q1 g_vx g_vy
        clear hw' hK W
        replace A0 := carry (hbq) A0
        replace A1 := carry (hbq) A1
        replace P0 := carry (hbq) P0
        replace P1 := carry (hbq) P1
        replace B0 := carry (hbq) B0
        replace B1 := carry (hbq) B1
        replace Q0 := carry (hbq) Q0
        replace Q1 := carry (hbq) Q1
        replace vx := carry (hbq) vx
        replace vy := carry (hbq) vy
        replace hC := rcarry hbq hC
        replace hR := rcarry hbq hR
        replace hBr := below_step hBr hbq
        replace hsr := Lib.hid (And.intro (hsr.out.1.carry hbq) (hsr.out.2.carry hbq))
        replace hrow' := Lib.hid (hrow'.out.carry hbq)
        clear hbq
        go_upto_region 9 with fail
        refine wp_region_made (by kernel_rfl) (by kernel_rfl) ?_
        intro W hK
        have g_A0 := fun x => carry ((hK.below x)) A0
        have g_A1 := fun x => carry ((hK.below x)) A1
        have g_P0 := fun x => carry ((hK.below x)) P0
        have g_P1 := fun x => carry ((hK.below x)) P1
        have g_B0 := fun x => carry ((hK.below x)) B0
        have g_B1 := fun x => carry ((hK.below x)) B1
        have g_Q0 := fun x => carry ((hK.below x)) Q0
        have g_Q1 := fun x => carry ((hK.below x)) Q1
        have g_vx := fun x => carry ((hK.below x)) vx
        have g_vy := fun x => carry ((hK.below x)) vy
        repeat (go_big_quiet_step ((go_at_call 51; with_reducible exact met_made (hkk.out.2 _ (hsr.out.2.carry (hK.below _))))))
        refine wpQuiet_nil ?_
        intro wq hw'
        have hbq := kept_in hK hw'
        clear g_A0 g_A1 g_P0 g_P1 g_B0 g_B1 g_Q0 g_Q1 g_vx g_vy
        clear hw' hK W
        replace A0 := carry (hbq) A0
        replace A1 := carry (hbq) A1
        replace P0 := carry (hbq) P0
        replace P1 := carry (hbq) P1
        replace B0 := carry (hbq) B0
        replace B1 := carry (hbq) B1
        replace Q0 := carry (hbq) Q0
        replace Q1 := carry (hbq) Q1
        replace vx := carry (hbq) vx
        replace vy := carry (hbq) vy
        replace hC := rcarry hbq hC
        replace hR := rcarry hbq hR
        replace hBr := below_step hBr hbq
        replace hrow' := Lib.hid (hrow'.out.carry hbq)
        clear hbq
        have hmn := hmm.out.1
        have hmx := hmm.out.2
        go_upto_region 11 with fail
        obtain ⟨d, hd⟩ : ∃ d, d = mn - mx := ⟨_, rfl⟩
        have hd' := Lib.hid hd
        rw [show mn - mx = d from hd'.out.symm]
        have hdD : D k = d := by rw [hDk.out, hd]
        have hx := Lib.hid (And.intro hnames.out.2.2.1 (And.intro hnames.out.2.2.2 hdD))
        clear hmn hmx hd hdD hb1 hb2
        by_cases hd0 : d ≤ 0
        · have e1 : decide (d ≤ 0) = true := decide_eq_true hd0
          have hno : ¬ Hit s t (p0, p1) (q0, q1) := fun h => h.2 ⟨k, by rw [← hN'.out]; exact hlt, by rw [← hnames.out.2.1, hx.out.2.2]; exact hd0⟩
          have hno' := Lib.hid hno
          obtain ⟨r0, r1, r2⟩ := cur_cells hR
          have f0 := heap_frozen hR 0
          have f1 := heap_frozen hR 1
          have f2 := heap_frozen hR 2
          simp only at r0 r1 r2
          clear hd0 hno
          go_wp2
          refine bodyPost_ret (v := .tuple #[.agg #[.int .i64 0, .int .i64 0, .int .i64 0], .bool false]) (by simp [results, Try.results19, go_sem, r0, r1, r2]) rfl ⟨.inl ⟨hno'.out, rfl⟩, ?_⟩
          exact (((below_step hBq hBr).setCell (p := ⟨w.heap.size + 4, 0, none⟩) (by simp only; omega) _).setCell (p := ⟨w.heap.size + 4, 1, none⟩) (by simp only; omega) _).setCell (p := ⟨w.heap.size + 4, 2, none⟩) (by simp only; omega) _
        · have e1 : decide (d ≤ 0) = false := decide_eq_false hd0
          have hall : ∀ i, i < k + 1 → 0 < dpt s t (p0, p1) (q0, q1) i := fun i hi => by
            rw [← hnames.out.2.1]
            by_cases e : i = k
            · subst e; rw [hx.out.2.2]; omega
            · exact hpos3.out i (by omega)
          have hall' := Lib.hid hall
          have hd0' := Lib.hid hd0
          clear hall hd0
          by_cases hk0 : k = 0
          · have h1 : ((k : Int) == 0) = true := by simp [hk0]
            have hnew := Lib.hid (show curV ax D (k + 1) = (x0, x1, d) from by rw [cur_new (.inl hk0), ← hx.out.1, ← hx.out.2.1, hx.out.2.2])
            clear hk0
            obtain ⟨l0, l1, l2⟩ := cur_cells hC
            have g0 := heap_frozen hC 0
            have g1 := heap_frozen hC 1
            have g2 := heap_frozen hC 2
            go_wp2_with fail
            go_roundw
            case rel => exact ⟨k + 1, by omega, by go_num, by rw [← hnames.out.1, ← hnames.out.2.1, hnew.out]; exact cur_store hC x0 x1 d, rset3 _ _ _ _ hR (by omega),
              ((hBr.setCell (p := ⟨U.heap.size, 0, none⟩) (Nat.le_refl _) _).setCell (p := ⟨U.heap.size, 1, none⟩) (Nat.le_refl _) _).setCell (p := ⟨U.heap.size, 2, none⟩) (Nat.le_refl _) _,
              hrow'.out.keep (S := fun r => r ≠ U.heap.size) (((KeepOn.setCell (S := fun r => r ≠ U.heap.size) (p := ⟨U.heap.size, 0, none⟩) _ (fun h => h rfl)).trans (KeepOn.setCell (S := fun r => r ≠ U.heap.size) (p := ⟨U.heap.size, 1, none⟩) _ (fun h => h rfl))).trans (KeepOn.setCell (S := fun r => r ≠ U.heap.size) (p := ⟨U.heap.size, 2, none⟩) _ (fun h => h rfl))) (by omega), hall'.out⟩
            case measure => simp [intOf]; omega
          · have h1 : ((k : Int) == 0) = false := by simp only [beq_eq_false_iff_ne, ne_eq]; omega
            obtain ⟨c, hc⟩ : ∃ c, c = curV ax D k := ⟨_, rfl⟩
            rw [← hc] at hC
            obtain ⟨n0, n1, sd⟩ := c
            have l2 := (cur_cells hC).2.2
            simp only at l2
            by_cases hltd : d < sd
            · have e2 : decide (d < sd) = true := decide_eq_true hltd
              have hnew := Lib.hid (show curV ax D (k + 1) = (x0, x1, d) from by rw [cur_new (.inr (by rw [← hc, hx.out.2.2]; exact hltd)), ← hx.out.1, ← hx.out.2.1, hx.out.2.2])
              clear hk0 hltd hc
              obtain ⟨l0, l1, l2⟩ := cur_cells hC
              have g0 := heap_frozen hC 0
              have g1 := heap_frozen hC 1
              have g2 := heap_frozen hC 2
              go_wp2_with fail
              go_roundw
              case rel => exact ⟨k + 1, by omega, by go_num, by rw [← hnames.out.1, ← hnames.out.2.1, hnew.out]; exact cur_store hC x0 x1 d, rset3 _ _ _ _ hR (by omega),
                ((hBr.setCell (p := ⟨U.heap.size, 0, none⟩) (Nat.le_refl _) _).setCell (p := ⟨U.heap.size, 1, none⟩) (Nat.le_refl _) _).setCell (p := ⟨U.heap.size, 2, none⟩) (Nat.le_refl _) _,
                hrow'.out.keep (S := fun r => r ≠ U.heap.size) (((KeepOn.setCell (S := fun r => r ≠ U.heap.size) (p := ⟨U.heap.size, 0, none⟩) _ (fun h => h rfl)).trans (KeepOn.setCell (S := fun r => r ≠ U.heap.size) (p := ⟨U.heap.size, 1, none⟩) _ (fun h => h rfl))).trans (KeepOn.setCell (S := fun r => r ≠ U.heap.size) (p := ⟨U.heap.size, 2, none⟩) _ (fun h => h rfl))) (by omega), hall'.out⟩
              case measure => simp [intOf]; omega
            · have e2 : decide (d < sd) = false := decide_eq_false hltd
              have hsame := Lib.hid (show curV ax D (k + 1) = (n0, n1, sd) from by rw [cur_same hk0 (by rw [← hc, hx.out.2.2]; exact hltd), ← hc])
              clear hk0 hltd hc
              go_wp2_with fail
              go_roundw
              case rel => exact ⟨k + 1, by omega, by go_num, by rw [← hnames.out.1, ← hnames.out.2.1, hsame.out]; exact hC, hR, hBr, hrow'.out, hall'.out⟩
              case measure => simp [intOf]; omega
      · obtain rfl : k = N := by omega
        have hit : Hit s t (p0, p1) (q0, q1) := ⟨hov.out, by
          rintro ⟨i, hi, hd⟩
          have := hpos'.out i (by rw [hN'.out]; exact hi)
          omega⟩
        have hcN := cur_all (s := s) (t := t) (p := (p0, p1)) (q := (q0, q1)) (by rw [← hN'.out]; exact hnp)
        rw [hN'.out, hcN] at hC
        have hA1 := axV_bd (dirV s t (p0, p1) (q0, q1) (hitK s t (p0, p1) (q0, q1)))
        rw [show axV (dirV s t (p0, p1) (q0, q1) (hitK s t (p0, p1) (q0, q1))) = hitA s t (p0, p1) (q0, q1) from rfl] at hA1
        have kN := fun w => refNeg_any (hitA s t (p0, p1) (q0, q1)).1 (hitA s t (p0, p1) (q0, q1)).2 w (small_bd' hA1.1) (small_bd' hA1.2)
        have kS := fun w => refSub_any q0 q1 p0 p1 w hq0.bd hq1.bd hp0.bd hp1.bd
        have kD := fun w => refDot_any (q0 - p0) (q1 - p1) (hitA s t (p0, p1) (q0, q1)).1 (hitA s t (p0, p1) (q0, q1)).2 w (by unfold Be at *; unfold Bd; omega) (by unfold Be at *; unfold Bd; omega) (small_bd' hA1.1) (small_bd' hA1.2)
        have hNe : hitN s t (p0, p1) (q0, q1) = if flr ((q0 - p0) * (hitA s t (p0, p1) (q0, q1)).1 + (q1 - p1) * (hitA s t (p0, p1) (q0, q1)).2) 1024 < 0 then (-(hitA s t (p0, p1) (q0, q1)).1, -(hitA s t (p0, p1) (q0, q1)).2) else ((hitA s t (p0, p1) (q0, q1)).1, (hitA s t (p0, p1) (q0, q1)).2) := rfl
        obtain ⟨d, hdd⟩ : ∃ d, d = hitD s t (p0, p1) (q0, q1) := ⟨_, rfl⟩
        rw [← hdd] at hC
        generalize (hitA s t (p0, p1) (q0, q1)).1 = a0 at *
        generalize (hitA s t (p0, p1) (q0, q1)).2 = a1 at *
        generalize flr ((q0 - p0) * a0 + (q1 - p1) * a1) 1024 = dt at *
        generalize q0 - p0 = z0 at *
        generalize q1 - p1 = z1 at *
        have hkk := Lib.hid (And.intro kN (And.intro kS kD))
        have hfx := Lib.hid (And.intro hit (And.intro hNe hdd))
        obtain ⟨l0, l1, l2⟩ := cur_cells hC
        simp only at l0 l1 l2
        clear kN kS kD hit hNe hdd hcN hA1
        go_upto_region 15 with fail
        refine wp_region_made (by kernel_rfl) (by kernel_rfl) ?_
        intro W hK
        have g_P0 := fun x => carry ((hK.below x)) P0
        have g_P1 := fun x => carry ((hK.below x)) P1
        have g_Q0 := fun x => carry ((hK.below x)) Q0
        have g_Q1 := fun x => carry ((hK.below x)) Q1
        have g_l0 := fun x => carry ((hK.below x)) l0
        have g_l1 := fun x => carry ((hK.below x)) l1
        have g_l2 := fun x => carry ((hK.below x)) l2
        repeat (go_big_quiet_step ((first | (go_at_call 43; with_reducible exact met_made (hkk.out.2.1 _)) | (go_at_call 52; with_reducible exact met_made (hkk.out.2.2 _)))))
        refine wpQuiet_nil ?_
        intro wq hw'
        have hbq := kept_in hK hw'
        clear g_P0 g_P1 g_Q0 g_Q1 g_l0 g_l1 g_l2
        clear hw' hK W
        replace P0 := carry (hbq) P0
        replace P1 := carry (hbq) P1
        replace Q0 := carry (hbq) Q0
        replace Q1 := carry (hbq) Q1
        replace l0 := carry (hbq) l0
        replace l1 := carry (hbq) l1
        replace l2 := carry (hbq) l2
        replace hC := rcarry hbq hC
        replace hR := rcarry hbq hR
        replace hBr := below_step hBr hbq
        clear hbq
        by_cases hdt : dt < 0
        · have e1 : decide (dt < 0) = true := decide_eq_true hdt
          have hdt' := Lib.hid hdt
          go_wp2_with fail
          refine (hkk.out.1 _).mono ?_
          rintro e Z ⟨rfl, hbZ⟩
          replace hC := rcarry hbZ hC
          replace hR := rcarry hbZ hR
          replace hBr := below_step hBr hbZ
          obtain ⟨l0, l1, l2⟩ := cur_cells hC
          have g0 := heap_frozen hC 0
          have g1 := heap_frozen hC 1
          simp only at l0 l1 l2
          clear hbZ
          go_upto_region 17 with fail
          have hC2 : ((Z.setCell ⟨U.heap.size, 0, none⟩ (.int .i64 (-a0))).setCell ⟨U.heap.size, 1, none⟩ (.int .i64 (-a1))).heap[U.heap.size]? = some (curC (-a0, -a1, d)) := by
            have := heap_setCell (heap_setCell hC 0 (.int .i64 (-a0))) 1 (.int .i64 (-a1))
            simpa [curC] using this
          replace hR := rset2 U.heap.size (.int .i64 (-a0)) (.int .i64 (-a1)) hR (by omega)
          replace hBr := (hBr.setCell (p := ⟨U.heap.size, 0, none⟩) (Nat.le_refl _) (.int .i64 (-a0))).setCell (p := ⟨U.heap.size, 1, none⟩) (Nat.le_refl _) (.int .i64 (-a1))
          clear l0 l1 l2 g0 g1 hC
          generalize (Z.setCell ⟨U.heap.size, 0, none⟩ (.int .i64 (-a0))).setCell ⟨U.heap.size, 1, none⟩ (.int .i64 (-a1)) = Y at *
          have hC := hC2
          obtain ⟨l0, l1, l2⟩ := cur_cells hC
          obtain ⟨r0, r1, r2⟩ := cur_cells hR
          have f0 := heap_frozen hR 0
          have f1 := heap_frozen hR 1
          have f2 := heap_frozen hR 2
          simp only at l0 l1 l2 r0 r1 r2
          go_wp2
          refine bodyPost_ret (v := .tuple #[.agg #[.int .i64 (-a0), .int .i64 (-a1), .int .i64 d], .bool true]) (by simp [results, Try.results19, go_sem, r0, r1, r2]) rfl ⟨.inr ⟨hfx.out.1, by rw [hfx.out.2.1, if_pos hdt'.out, ← hfx.out.2.2]⟩, ?_⟩
          exact (((below_step hBq hBr).setCell (p := ⟨w.heap.size + 4, 0, none⟩) (by simp only; omega) _).setCell (p := ⟨w.heap.size + 4, 1, none⟩) (by simp only; omega) _).setCell (p := ⟨w.heap.size + 4, 2, none⟩) (by simp only; omega) _
        · have e1 : decide (dt < 0) = false := decide_eq_false hdt
          have hdt' := Lib.hid hdt
          go_upto_region 17 with fail
          clear l0 l1 l2
          obtain ⟨l0, l1, l2⟩ := cur_cells hC
          obtain ⟨r0, r1, r2⟩ := cur_cells hR
          have f0 := heap_frozen hR 0
          have f1 := heap_frozen hR 1
          have f2 := heap_frozen hR 2
          simp only at l0 l1 l2 r0 r1 r2
          go_wp2
          refine bodyPost_ret (v := .tuple #[.agg #[.int .i64 (a0), .int .i64 (a1), .int .i64 d], .bool true]) (by simp [results, Try.results19, go_sem, r0, r1, r2]) rfl ⟨.inr ⟨hfx.out.1, by rw [hfx.out.2.1, if_neg (show ¬ dt < 0 from by have := hdt'.out; omega), ← hfx.out.2.2]⟩, ?_⟩
          exact (((below_step hBq hBr).setCell (p := ⟨w.heap.size + 4, 0, none⟩) (by simp only; omega) _).setCell (p := ⟨w.heap.size + 4, 1, none⟩) (by simp only; omega) _).setCell (p := ⟨w.heap.size + 4, 2, none⟩) (by simp only; omega) _
end Go.Proofs.Ytfbgghkkgmgnjaa
