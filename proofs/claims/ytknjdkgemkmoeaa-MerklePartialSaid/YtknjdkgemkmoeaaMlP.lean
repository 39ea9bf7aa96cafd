/- Package merkle: NewPartial. -/
import Derived.Test.YtknjdkgemkmoeaaMlO
import Derived.Test.YtknjdkgemkmoeaaMlD
import Derived.Test.YtknjdkgemkmoeaaMkF
namespace Go.Proofs.Ytknjdkgemkmoeaa
open Go.ChangeShapes Go.WideShapes Go.ChangeAt Go.RowKit Go.Shelf
set_option linter.unusedSimpArgs false
set_option linter.unusedVariables false
attribute [local go_sem] Oper.semAt_some

/-- The values behind t leaves. -/
def valD (ls : List Lf) : Nat → DataW Unit
  | 0 => .map []
  | t + 1 => match ls[t]? with
    | some f => (valD ls t).put (.int .i64 f.i) (.lit (.int .i64 f.v))
    | none => valD ls t
/-- The hashes behind t leaves. -/
def hashD (root : W64) (H : Nat) (ls : List Lf) : Nat → DataW Unit
  | 0 => (DataW.map []).put (kP H 0) (.lit (.int .u64 (root.toNat : Int)))
  | t + 1 => match ls[t]? with
    | some f => lrn (hashD root H ls t) f.i.toNat f.l H
    | none => hashD root H ls t
theorem valD_succ {ls : List Lf} {t : Nat} {f : Lf} (h : ls[t]? = some f) : valD ls (t + 1) = (valD ls t).put (.int .i64 f.i) (.lit (.int .i64 f.v)) := by
  show (match ls[t]? with | some f => _ | none => _) = _
  rw [h]
theorem hashD_succ {root : W64} {H : Nat} {ls : List Lf} {t : Nat} {f : Lf} (h : ls[t]? = some f) : hashD root H ls (t + 1) = lrn (hashD root H ls t) f.i.toNat f.l H := by
  show (match ls[t]? with | some f => _ | none => _) = _
  rw [h]
theorem lit_ne {x y : Int} (h : x ≠ y) : (Lit.int .i64 x) ≠ .int .i64 y := fun e => h (by cases e; rfl)
theorem clash_no {h f : Lf} (hc : clash h f = false) (e : h.i = f.i) : h.v = f.v := by
  unfold clash at hc
  rw [e] at hc
  simpa using hc
theorem lt_of_some {ls : List Lf} {t k : Nat} {f : Lf} (hf : ls[t]? = none) (a : k < t + 1) (b : ls[k]? = some f) : k < t := by
  rcases Nat.lt_or_ge k t with h | h
  · exact h
  · obtain rfl : k = t := by omega
    rw [hf] at b; cases b
theorem lt_of_ne {ls : List Lf} {t k : Nat} {f g : Lf} (hf : ls[t]? = some f) (a : k < t + 1) (b : ls[k]? = some g) (e : g ≠ f) : k < t := by
  rcases Nat.lt_or_ge k t with h | h
  · exact h
  · obtain rfl : k = t := by omega
    rw [hf] at b; cases b; exact absurd rfl e
theorem valD_inv {root : W64} {n : Nat} {ls : List Lf} : ∀ t, (∀ q, q < t → okI root n ls q) → Maps.IsMap (valD ls t) ∧ (∀ x, Maps.has (valD ls t) (.int .i64 x) = true ↔ ∃ k f, k < t ∧ ls[k]? = some f ∧ f.i = x) ∧
    (∀ k f, k < t → ls[k]? = some f → ∀ z, (valD ls t).atKey (.int .i64 f.i) z = .lit (.int .i64 f.v))
  | 0, _ => ⟨Maps.isMap_empty, fun x => ⟨fun h => (by cases h), fun ⟨k, f, h, _⟩ => absurd h (Nat.not_lt_zero _)⟩, fun k f h => absurd h (Nat.not_lt_zero _)⟩
  | t + 1, hok => by
    obtain ⟨h1, h2, h3⟩ := valD_inv t fun q hq => hok q (by omega)
    cases hf : ls[t]? with
    | none =>
      have e : valD ls (t + 1) = valD ls t := by
        show (match ls[t]? with | some f => _ | none => _) = _
        rw [hf]
      rw [e]
      refine ⟨h1, fun x => ?_, fun k f hk hkf => ?_⟩
      · rw [h2]
        exact ⟨fun ⟨k, f, a, b, c⟩ => ⟨k, f, by omega, b, c⟩, fun ⟨k, f, a, b, c⟩ => ⟨k, f, lt_of_some hf a b, b, c⟩⟩
      · rcases Nat.lt_or_ge k t with h | h
        · exact h3 k f h hkf
        · obtain rfl : k = t := by omega
          rw [hf] at hkf; cases hkf
    | some f =>
      rw [valD_succ hf]
      refine ⟨h1.put _ _, fun x => ?_, fun k g hk hkg z => ?_⟩
      · by_cases e : f.i = x
        · subst e
          rw [Maps.has_put_same (k := .int .i64 f.i) h1 trivial]
          exact ⟨fun _ => ⟨t, f, Nat.lt_succ_self t, hf, rfl⟩, fun _ => rfl⟩
        · rw [Maps.has_put_other (lit_ne (Ne.symm e)), h2]
          exact ⟨fun ⟨k, g, a, b, c⟩ => ⟨k, g, by omega, b, c⟩, fun ⟨k, g, a, b, c⟩ => ⟨k, g, lt_of_ne hf a b (fun h => e (h ▸ c)), b, c⟩⟩
      · by_cases e : g.i = f.i
        · rw [e, Maps.atKey_put_same (k := .int .i64 f.i) h1 trivial]
          rcases Nat.lt_or_ge k t with h | h
          · rw [clash_no ((hok t (Nat.lt_succ_self t) f hf).2 k g h hkg) e]
          · obtain rfl : k = t := by omega
            rw [hf] at hkg; cases hkg; rfl
        · rw [Maps.atKey_put_other (lit_ne e)]
          rcases Nat.lt_or_ge k t with h | h
          · exact h3 k g h hkg z
          · obtain rfl : k = t := by omega
            rw [hf] at hkg; cases hkg; exact absurd rfl e
theorem okI_yes {root : W64} {n : Nat} {ls : List Lf} {t : Nat} {f : Lf} {c : Int} (hok : ∀ q, q < t → okI root n ls q) (hf : ls[t]? = some f) (hv : verW root n f.i f.v f.l = true)
    (hc : (valD ls t).atKey (.int .i64 f.i) (.lit (.int .i64 0)) = .lit (.int .i64 c)) (h : Maps.has (valD ls t) (.int .i64 f.i) = false ∨ c = f.v) : okI root n ls t := by
  obtain ⟨_, h2, h3⟩ := valD_inv t hok
  intro g hg
  rw [hf] at hg
  cases hg
  refine ⟨hv, fun k y hk hy => ?_⟩
  unfold clash
  by_cases e : y.i = f.i
  · have hh := (h2 f.i).2 ⟨k, y, hk, hy, e⟩
    rcases h with h | h
    · rw [h] at hh; cases hh
    · have := h3 k y hk hy (.lit (.int .i64 0))
      rw [e, hc] at this
      have e2 : c = y.v := by simpa using this
      simp [e, ← e2, h]
  · simp [e]
theorem okI_no {root : W64} {n : Nat} {ls : List Lf} {t : Nat} {f : Lf} {c : Int} (hok : ∀ q, q < t → okI root n ls q) (hf : ls[t]? = some f)
    (hc : (valD ls t).atKey (.int .i64 f.i) (.lit (.int .i64 0)) = .lit (.int .i64 c)) (h : Maps.has (valD ls t) (.int .i64 f.i) = true) (hne : c ≠ f.v) : ¬ okL root n ls := by
  intro hL
  obtain ⟨_, h2, h3⟩ := valD_inv t hok
  obtain ⟨k, y, hk, hy, e⟩ := (h2 f.i).1 h
  have := h3 k y hk hy (.lit (.int .i64 0))
  rw [e, hc] at this
  have e2 : c = y.v := by simpa using this
  exact hne (e2.trans (clash_no ((hL t f hf).2 k y hk hy) e))
theorem okL_all {root : W64} {n : Nat} {ls : List Lf} (h : ∀ t, t < ls.length → okI root n ls t) : okL root n ls := fun t => by
  rcases Nat.lt_or_ge t ls.length with h1 | h1
  · exact h t h1
  · intro f hf
    rw [List.getElem?_eq_none h1] at hf
    cases hf

set_option maxRecDepth 100000 in
set_option maxHeartbeats 8000000 in
theorem newPartial_any (root : W64) (n : Nat) (v : Value) (ls : List Lf) (w : World) (h : LL w v ls) (hn : n ≤ 65536) (hl : ls.length ≤ 1000) (h64 : ∀ (k : Nat) (f : Lf), ls[k]? = some f → (Lit.int .i64 f.i).wf = true ∧ (Lit.int .i64 f.v).wf = true) :
    Calls Try.prog 16 #[.int .u64 (root.toNat : Int), .int .i64 (n : Nat), v] w fun e w' =>
      (okL root n ls ∧ ∃ b b1 b2, e = .returned (.tuple #[.pointer (some ⟨b, 0, none⟩), .int .i64 0]) ∧ Pa w' b b1 b2 (ht n) (valD ls ls.length) (hashD root (ht n) ls ls.length) (1 + ls.length * (1 + ht n)) ∧ (w.heap.size ≤ b ∧ w.heap.size ≤ b1 ∧ w.heap.size ≤ b2) ∧ Below w.heap.size w w') ∨
      (¬ okL root n ls ∧ e = .returned (.tuple #[.pointer none, .int .i64 22]) ∧ Below w.heap.size w w') := by
  obtain ⟨a, cap, rfl, h1, h2, h3⟩ := h
  unfold maxLen at h2
  obtain ⟨m, hm⟩ : ∃ m, m = ls.length := ⟨_, rfl⟩
  have hm' := Lib.hid hm
  rw [← hm] at h1 h3 hl ⊢
  have hc := Lib.hid h3
  have h64' := Lib.hid h64
  have kH := Lib.hid (fun W => (height_any n W hn).mono (R' := fun e w' => e = .returned (.int .i64 ((ht n : Nat) : Int)) ∧ W = w') fun e w' h => ⟨h.1, h.2.symm⟩)
  have h16 := ht_small hn
  have hn' := Lib.hid hn
  clear hm h3 h64
  obtain ⟨H, hH⟩ : ∃ H, ht n = H := ⟨_, rfl⟩
  have hH' := Lib.hid hH
  rw [hH] at kH h16 ⊢
  clear hH
  have hmm := @run_makeMap Try.prog
  go_enter Try.func16, Try.ntmps16
  go_wp2_with fail
  refine (kH.out _).mono ?_
  rintro e w1 ⟨rfl, rfl⟩
  go_wp2_with fail
  obtain ⟨V, hV⟩ : ∃ V, V = ((w.alloc (.map #[] 0)).alloc (.map #[] 0)).alloc (.cells #[.int .i64 (H : Nat), .map (some w.heap.size), .map (some (w.heap.size + 1))] 105) := ⟨_, rfl⟩
  have hBV : Below w.heap.size w V := by rw [hV]; exact below_step (below_step (alloc_below _ _) (alloc_below _ _)) (alloc_below _ _)
  have hzV : V.heap.size = w.heap.size + 3 := by rw [hV]; simp
  have hPV : Pa V (w.heap.size + 2) w.heap.size (w.heap.size + 1) H (.map []) (.map []) 0 := by
    rw [hV]
    refine ⟨?_, ((World.ownsMap_made w _ _ _).alloc _).alloc _, ?_, by omega⟩
    · have := World.alloc_heap_new ((w.alloc (.map #[] 0)).alloc (.map #[] 0)) (.cells #[.int .i64 (H : Nat), .map (some w.heap.size), .map (some (w.heap.size + 1))] 105)
      simpa using this
    · have := (World.ownsMap_made (w.alloc (.map #[] 0)) Try.prog 99 (plainElem (H := Unit) Try.prog 36)).alloc (.cells #[.int .i64 (H : Nat), .map (some w.heap.size), .map (some (w.heap.size + 1))] 105)
      simpa using this
  rw [← hV, show w.heap.size + 1 + 1 = w.heap.size + 2 from rfl]
  clear hV hmm
  obtain ⟨b, hb0⟩ : ∃ b, b = w.heap.size + 2 := ⟨_, rfl⟩
  obtain ⟨b2, hb2⟩ : ∃ b2, b2 = w.heap.size + 1 := ⟨_, rfl⟩
  obtain ⟨b1, hb1⟩ : ∃ b1, b1 = w.heap.size := ⟨_, rfl⟩
  rw [← hb0, ← hb2] at hPV ⊢
  rw [show Pa V b w.heap.size b2 H (.map []) (.map []) 0 = Pa V b b1 b2 H (.map []) (.map []) 0 from by rw [hb1]] at hPV
  have hge : w.heap.size ≤ b ∧ w.heap.size ≤ b1 ∧ w.heap.size ≤ b2 := ⟨by omega, by omega, by omega⟩
  clear hb0 hb1 hb2
  obtain ⟨ge0, ge1, ge2⟩ := hge
  have c2 := hPV.c2
  have hP := Lib.hid hPV
  have n0 := hPV.lt.1
  have hkT := Lib.hid (fun W (hW : Below V.heap.size V W) => top_any b b1 b2 H 0 (.map []) (.map []) W (hP.out.carry hW))
  clear hPV
  refine wp_region_tail 7 (by kernel_rfl) (by kernel_rfl) ?_
  intro W hK
  obtain ⟨hcx, hf, hz, hb⟩ := hK
  simp only [List.take_succ_cons, List.take_zero, List.drop_succ_cons, List.drop_zero]
  have g_1 := fun x => carry (hb x) c2
  repeat (go_big_quiet_step ((go_at_call 61; with_reducible exact met_made (hkT.out _ (hb _)))))
  refine wpQuiet_nil ?_
  intro _ hw'
  obtain ⟨xq, hw''⟩ := hw'
  subst hw''
  have hbq := hb xq
  have hP1 := Lib.hid (hP.out.carry hbq)
  have hB1 := Lib.hid (below_step hBV hbq)
  clear hcx hf hz hb hbq hP hBV g_1 hkT
  generalize over W xq = W1 at *
  have hm2 := Lib.hid hP1.out.m2
  have hkey := Lib.hid (show keyOf Try.prog 99 (.agg #[.int .i64 (H : Nat), .int .i64 0]) = some (kP H 0) from keyOf_place H 0 (wf_nat (by omega)) (by decide))
  have hval := Lib.hid (plainElem_int (H := Unit) (P := Try.prog) Try.underlying36 (wf_word root))
  refine wpList_mapUpdate_own _ rfl _ _ _ 103 rfl 99 36 keyP Try.underlying103 _ b2 0 (.map []) rfl hm2.out (by unfold maxLen; omega) _ _ (kP H 0) rfl rfl hkey.out (.lit (.int .u64 (root.toNat : Int))) [] hval.out ?_
  intro U hown hgrow
  simp only [Act.put]
  have hP2 := Lib.hid (hP1.out.put2 hgrow hown)
  have hB2 := Lib.hid (hB1.out.grown hgrow hB1.out.size fun r e => by cases e; omega)
  clear hown hgrow hm2 hkey hval hP1 hB1 W1 c2
  go_wp2_with fail
  go_loopw [28] (fun i wr => ∃ t : Nat, t ≤ m ∧ i = .int .i64 (t : Nat) ∧ (∀ q, q < t → okI root n ls q) ∧ Pa wr b b1 b2 H (valD ls t) (hashD root H ls t) (1 + t * (1 + H)) ∧ Below w.heap.size w wr) (fun i _ => m - (intOf i).toNat)
  case atStart => exact ⟨0, Nat.zero_le _, rfl, fun q hq => absurd hq (Nat.not_lt_zero _), by rw [Nat.zero_mul]; exact hP2.out, hB2.out⟩
  case round =>
    obtain ⟨t, ht, rfl, hok, hPr, hBr⟩ := hrel
    have hok' := Lib.hid hok
    have hB' := Lib.hid hBr
    have hP' := Lib.hid hPr
    clear hok hBr hPr hP2 hB2
    by_cases hlt : t < m
    · obtain ⟨g, off, rfl, hg, hcc⟩ := hc.out (by omega)
      obtain ⟨f, hf⟩ : ∃ f, ls[t]? = some f := ⟨_, List.getElem?_eq_getElem (by rw [← hm'.out]; exact hlt)⟩
      have hF := (hcc t f hf).carry hB'.out
      have h64f := h64'.out t f hf
      have hff := Lib.hid hf
      have hvs := Lib.hid (valD_succ hf)
      have hhs := Lib.hid (hashD_succ (root := root) (H := H) hf)
      clear hcc hf
      obtain ⟨fi, fv, pv, fl⟩ := f
      obtain ⟨c0, c1, cc, hpr, hfew⟩ := hF
      obtain ⟨pa, pc, hpv, g1, g2, g3⟩ := WL.shape hpr
      clear g3
      simp only at hpv c0 c1 cc hpr hfew h64f
      subst hpv
      unfold maxLen at g2
      obtain ⟨wfi, wfv⟩ := h64f
      obtain ⟨c, hrun0, hat0, wfc⟩ := hP'.out.m1.lookup_int keyI Try.underlying102 Try.underlying3 (zero_int wr) (Maps.keyOf_int_mk Try.underlying3 wfi)
      have hat := Lib.hid hat0
      clear hrun0
      have hpr' := Lib.hid hpr
      have kG := Lib.hid (fun W (hW : Below wr.heap.size wr W) => get_any b b1 b2 H _ _ _ fi c wfi W (hP'.out.carry hW) hat.out)
      have kV := Lib.hid (fun W (hW : Below wr.heap.size wr W) => verify_any root n fi fv (.slice pa fl.length pc) fl W (hpr'.out.carry hW) hn'.out hfew)
      clear hat0 hpr
      obtain ⟨bv, hbv⟩ : ∃ bv, verW root n fi fv fl = bv := ⟨_, rfl⟩
      rw [hbv] at kV
      have hver := Lib.hid hbv
      clear hbv
      obtain ⟨hs, hhas⟩ : ∃ hs, Maps.has (valD ls t) (.int .i64 fi) = hs := ⟨_, rfl⟩
      rw [hhas] at kG
      have hhas' := Lib.hid hhas
      clear hhas
      cases bv with
      | false =>
        have hno := Lib.hid (show ¬ okL root n ls from fun h => by have := (h t _ hff.out).1; rw [hver.out] at this; cases this)
        go_wp2_with (first | (go_at_call 22; with_reducible refine (kG.out _ (alloc_below _ _)).mono ?_; rintro e w3 ⟨rfl, rfl⟩) | (go_at_call 62; with_reducible refine (kV.out _ (alloc_below _ _)).mono ?_; rintro e w4 ⟨rfl, hb4⟩; have hB4 := Lib.hid (below_step (alloc_below wr _) hb4); have l0 := carry hb4 (lf_cells wr fi fv (.slice pa fl.length pc) 30).1; have l1 := carry hb4 (lf_cells wr fi fv (.slice pa fl.length pc) 30).2.1; have l2 := carry hb4 (lf_cells wr fi fv (.slice pa fl.length pc) 30).2.2; clear hb4))
        refine bodyPost_ret (v := .tuple #[.pointer none, .int .i64 22]) (by simp [results, Try.results16, go_sem]) rfl (.inr ⟨hno.out, rfl, below_step hB'.out hB4.out⟩)
      | true =>
        obtain ⟨v1, v2, v3, v4⟩ := verW_iff.1 hver.out
        clear v4
        obtain ⟨i, rfl⟩ : ∃ i : Nat, fi = (i : Int) := ⟨fi.toNat, by omega⟩
        have hlen : fl.length = H := by rw [v3, hH'.out]
        have hnx := Lib.hid (show Pa = Pa from rfl)
        clear hnx
        have hbd : t * (1 + H) ≤ 1000 * 17 := Nat.mul_le_mul (by omega) (by omega)
        have kL := Lib.hid (fun W (hW : Below wr.heap.size wr W) => learn_any b b1 b2 H _ _ _ i fv (.slice pa fl.length pc) fl W (hP'.out.carry hW) (hpr'.out.carry hW) hlen (by have := hn'.out; omega) (by omega) wfv (by omega))
        have e1 : 1 + t * (1 + H) + 1 + H = 1 + (t + 1) * (1 + H) := by rw [Nat.add_mul]; omega
        simp only [Int.toNat_natCast] at hhs
        rw [e1] at kL
        have hnx := Lib.hid (show (Pa · b b1 b2 H (valD ls (t + 1)) (hashD root H ls (t + 1)) (1 + (t + 1) * (1 + H))) = (Pa · b b1 b2 H ((valD ls t).put (.int .i64 (i : Nat)) (.lit (.int .i64 fv))) (lrn (hashD root H ls t) i fl H) (1 + (t + 1) * (1 + H))) from by rw [hvs.out, hhs.out])
        clear e1 hbd v1 v2 v3 hlen
        cases hs with
        | false =>
          have hok2 := Lib.hid (okI_yes hok'.out hff.out hver.out hat.out (.inl hhas'.out))
          go_wp2_with (first | (go_at_call 22; with_reducible refine (kG.out _ (alloc_below _ _)).mono ?_; rintro e w3 ⟨rfl, rfl⟩) | (go_at_call 62; with_reducible refine (kV.out _ (alloc_below _ _)).mono ?_; rintro e w4 ⟨rfl, hb4⟩; have hB4 := Lib.hid (below_step (alloc_below wr _) hb4); have l0 := carry hb4 (lf_cells wr (i : Nat) fv (.slice pa fl.length pc) 30).1; have l1 := carry hb4 (lf_cells wr (i : Nat) fv (.slice pa fl.length pc) 30).2.1; have l2 := carry hb4 (lf_cells wr (i : Nat) fv (.slice pa fl.length pc) 30).2.2; clear hb4) | (go_at_call 63; with_reducible refine (kL.out _ hB4.out).mono ?_; rintro e w5 ⟨⟨u, rfl⟩, hP5, hM5⟩))
          have hB5 := Lib.hid (hM5.toBelow (below_step hB'.out hB4.out) fun r hr ho => by omega)
          replace hP5 := (congrFun hnx.out w5).mpr hP5
          go_roundw
          case rel => exact ⟨t + 1, by omega, by go_num, fun q hq => by
            rcases Nat.lt_or_ge q t with h1 | h1
            · exact hok'.out q h1
            · obtain rfl : q = t := by omega
              exact hok2.out, hP5, hB5.out⟩
          case measure => simp [intOf]; omega
        | true =>
          by_cases hcv : c = fv
          · obtain rfl := hcv.symm
            have bn : (fv != fv) = false := by simp
            have hok2 := Lib.hid (okI_yes hok'.out hff.out hver.out hat.out (.inr rfl))
            go_wp2_with (first | (go_at_call 22; with_reducible refine (kG.out _ (alloc_below _ _)).mono ?_; rintro e w3 ⟨rfl, rfl⟩) | (go_at_call 62; with_reducible refine (kV.out _ (alloc_below _ _)).mono ?_; rintro e w4 ⟨rfl, hb4⟩; have hB4 := Lib.hid (below_step (alloc_below wr _) hb4); have l0 := carry hb4 (lf_cells wr (i : Nat) fv (.slice pa fl.length pc) 30).1; have l1 := carry hb4 (lf_cells wr (i : Nat) fv (.slice pa fl.length pc) 30).2.1; have l2 := carry hb4 (lf_cells wr (i : Nat) fv (.slice pa fl.length pc) 30).2.2; clear hb4) | (go_at_call 63; with_reducible refine (kL.out _ hB4.out).mono ?_; rintro e w5 ⟨⟨u, rfl⟩, hP5, hM5⟩))
            have hB5 := Lib.hid (hM5.toBelow (below_step hB'.out hB4.out) fun r hr ho => by omega)
            replace hP5 := (congrFun hnx.out w5).mpr hP5
            go_roundw
            case rel => exact ⟨t + 1, by omega, by go_num, fun q hq => by
              rcases Nat.lt_or_ge q t with h1 | h1
              · exact hok'.out q h1
              · obtain rfl : q = t := by omega
                exact hok2.out, hP5, hB5.out⟩
            case measure => simp [intOf]; omega
          · have hno := Lib.hid (okI_no hok'.out hff.out hat.out hhas'.out hcv)
            have bn : (c != fv) = true := by simpa using hcv
            go_wp2_with (first | (go_at_call 22; with_reducible refine (kG.out _ (alloc_below _ _)).mono ?_; rintro e w3 ⟨rfl, rfl⟩) | (go_at_call 62; with_reducible refine (kV.out _ (alloc_below _ _)).mono ?_; rintro e w4 ⟨rfl, hb4⟩; have hB4 := Lib.hid (below_step (alloc_below wr _) hb4); have l0 := carry hb4 (lf_cells wr (i : Nat) fv (.slice pa fl.length pc) 30).1; have l1 := carry hb4 (lf_cells wr (i : Nat) fv (.slice pa fl.length pc) 30).2.1; have l2 := carry hb4 (lf_cells wr (i : Nat) fv (.slice pa fl.length pc) 30).2.2; clear hb4))
            refine bodyPost_ret (v := .tuple #[.pointer none, .int .i64 22]) (by simp [results, Try.results16, go_sem]) rfl (.inr ⟨hno.out, rfl, below_step hB'.out hB4.out⟩)
    · obtain rfl : t = m := by omega
      go_wp2_with fail
      refine bodyPost_ret (v := .tuple #[.pointer (some ⟨b, 0, none⟩), .int .i64 0]) (by simp [results, Try.results16, go_sem]) rfl (.inl ⟨okL_all fun q hq => hok'.out q (by rw [hm'.out]; exact hq), b, b1, b2, rfl, hP'.out, ⟨ge0, ge1, ge2⟩, hB'.out⟩)
end Go.Proofs.Ytknjdkgemkmoeaa
