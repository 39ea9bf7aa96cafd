/- Package merkle: a partial tree's Set. -/
import Derived.Test.YtknjdkgemkmoeaaMlO
namespace Go.Proofs.Ytknjdkgemkmoeaa
open Go.ChangeShapes Go.WideShapes Go.ChangeAt Go.RowKit Go.Shelf
set_option linter.unusedSimpArgs false
set_option linter.unusedVariables false
attribute [local go_sem] Oper.semAt_some

theorem kP_inj {l x l' x' : Nat} (h1 : (Lit.int .i64 (l : Nat)).wf = true) (h2 : (Lit.int .i64 (x : Nat)).wf = true) (h3 : (Lit.int .i64 (l' : Nat)).wf = true) (h4 : (Lit.int .i64 (x' : Nat)).wf = true) (h : kP l x = kP l' x') : l = l' ∧ x = x' := by
  unfold kP at h
  simp only [Lit.string.injEq] at h
  have e := keyBytes_inj (l := [.int .i64 (l : Nat), .int .i64 (x : Nat)]) (l' := [.int .i64 (l' : Nat), .int .i64 (x' : Nat)]) ⟨rfl, rfl, trivial⟩
    (fun a ha => by simp only [List.mem_cons, List.not_mem_nil, or_false] at ha; rcases ha with rfl | rfl; (· exact h1); (· exact h2))
    (fun a ha => by simp only [List.mem_cons, List.not_mem_nil, or_false] at ha; rcases ha with rfl | rfl; (· exact h3); (· exact h4)) h
  simp only [List.cons.injEq, Lit.int.injEq, and_true, true_and] at e
  omega
theorem kP_level {l x l' x' : Nat} (h1 : l < 1000000) (h2 : x < 1000000) (h3 : l' < 1000000) (h4 : x' < 1000000) (h : l ≠ l' ∨ x ≠ x') : kP l x ≠ kP l' x' := fun e => by
  have := kP_inj (wf_nat h1) (wf_nat h2) (wf_nat h3) (wf_nat h4) e
  omega
/-- The hashes behind k rounds of a Set. -/
def rse (D : DataW Unit) (i : Nat) (v : Int) (sb : Nat → W64) : Nat → DataW Unit
  | 0 => D
  | k + 1 => (rse D i v sb k).put (kP k (i / 2 ^ k)) (.lit (.int .u64 ((hsW i v sb k).toNat : Int)))
theorem rse_other {D : DataW Unit} {i : Nat} {v : Int} {sb : Nat → W64} (hi : i < 100000) {l x : Nat} (hl : l < 1000000) (hx : x < 1000000) (z : DataW Unit) : ∀ k, k ≤ 100 → (∀ j, j < k → l ≠ j ∨ x ≠ i / 2 ^ j) → (rse D i v sb k).atKey (kP l x) z = D.atKey (kP l x) z
  | 0, _, _ => rfl
  | k + 1, hk, h => by
    show ((rse D i v sb k).put (kP k (i / 2 ^ k)) _).atKey _ _ = _
    rw [Maps.atKey_put_other (kP_level hl hx (by omega) (Nat.lt_of_le_of_lt (Nat.div_le_self i (2 ^ k)) (by omega)) (h k (Nat.lt_succ_self k)))]
    exact rse_other hi hl hx z k (by omega) fun j hj => h j (by omega)

set_option maxRecDepth 100000 in
set_option maxHeartbeats 8000000 in
theorem partSet_any (b b1 b2 H n : Nat) (D1 D2 : DataW Unit) (i : Nat) (v c : Int) (sb : Nat → W64) (w : World) (p : Pa w b b1 b2 H D1 D2 n) (hi : i < 2 ^ H) (hH : H ≤ 16) (hv : (Lit.int .i64 v).wf = true) (hn : n ≤ 1000000)
    (hc : D1.atKey (.int .i64 (i : Nat)) (.lit (.int .i64 0)) = .lit (.int .i64 c)) (hhas : Maps.has D1 (.int .i64 (i : Nat)) = true)
    (hsb : ∀ k, k < H → D2.atKey (kP k (sib (i / 2 ^ k))) (.lit (.int .u64 0)) = .lit (.int .u64 ((sb k).toNat : Int))) :
    Calls Try.prog 19 #[.pointer (some ⟨b, 0, none⟩), .int .i64 (i : Nat), .int .i64 v] w fun e w' => e = .returned (.bool true) ∧
      Pa w' b b1 b2 H (D1.put (.int .i64 (i : Nat)) (.lit (.int .i64 v))) (rse D2 i v sb (H + 1)) (n + 1 + (H + 1)) ∧ Mv (fun r => r = b1 ∨ r = b2) w w' := by
  have hi2 : i < 65537 := Nat.lt_of_lt_of_le hi (Nat.le_trans (Nat.pow_le_pow_right (by decide) hH) (by decide))
  obtain ⟨V, hV⟩ : ∃ V, V = w.alloc (.cells #[.pointer (some ⟨b, 0, none⟩)] 32) := ⟨_, rfl⟩
  have hBV : Below w.heap.size w V := by rw [hV]; exact alloc_below _ _
  have hzV : V.heap.size = w.heap.size + 1 := by rw [hV]; simp
  have p0 : V.cell? ⟨w.heap.size, 0, none⟩ = some (.pointer (some ⟨b, 0, none⟩)) := by rw [hV]; simp [go_sem]
  have hP := Lib.hid (p.carry hBV)
  have hlt := p.lt
  have c1 := hP.out.c1
  have hlook := hP.out.look1 (wf_nat (k := i) (by omega)) hc
  rw [hhas] at hlook
  have hBV' := Lib.hid hBV
  have hself' := Lib.hid hi
  have hn0 : ¬ (w.heap.size = b1 ∨ w.heap.size = b2) := by omega
  have hmf : ∀ (fn : Fn) (first cap : Array Value) (w : World), (Instr.makeFunc fn first cap).run Try.prog w = .ok (.func fn first cap) w := fun _ _ _ _ => rfl
  have m0 := block_lt_of_cell p0
  have m1 := block_lt_of_cell c1
  simp only at m0 m1
  have hkey := Lib.hid (Maps.keyOf_int_mk (P := Try.prog) Try.underlying3 (wf_nat (k := i) (by omega)))
  have hval := Lib.hid (plainElem_int (H := Unit) (P := Try.prog) Try.underlying3 hv)
  have hm1 := Lib.hid hP.out.m1
  clear p hc hhas hBV hi
  refine (callsIn_wide (n := 9)).1 (callsIn_of_wp_marks Try.func19 rfl trivial (wpIn_wide.2 ?_) rfl)
  simp only [Try.ntmps19, List.size_toArray, List.length_cons, List.length_nil, Nat.reduceAdd, Nat.reduceSub, Array.replicate_succ, Array.replicate_zero, List.push_toArray, List.append_toArray, List.nil_append, List.cons_append]
  go_upto_region 1 with fail
  rw [← hV]
  clear hV
  go_upto_region 4 with fail
  go_upto_region 5 with (at_mapUpdate; refine wpList_mapUpdate_own _ rfl _ _ _ 102 rfl 3 3 keyI Try.underlying102 _ b1 n D1 rfl hm1.out (by unfold maxLen; omega) _ _ (.int .i64 (i : Nat)) rfl rfl hkey.out (.lit (.int .i64 v)) [] hval.out ?_; intro U hown hgrow; simp only [Act.put])
  have hP2 := Lib.hid (hP.out.put1 hgrow hown)
  have hM2 := Lib.hid ((Mv.below (O := fun r => r = b1 ∨ r = b2) (Below.refl _ V)).grown hgrow fun r e _ => .inl (by cases e; rfl))
  have u0 := hM2.out.cell p0 hn0
  have u2 := hP2.out.c0
  have hzU := hM2.out.size
  have hV0 := Lib.hid p0
  clear hown hgrow hm1 hkey hval c1 m0 m1 p0 hP hlook
  have m0 := block_lt_of_cell u0
  have m2 := block_lt_of_cell u2
  simp only at m0 m2
  refine wp_region_tail 8 (by kernel_rfl) (by kernel_rfl) ?_
  intro W hK
  obtain ⟨hcx, hf, hz, hb⟩ := hK
  simp only [List.take_succ_cons, List.take_zero, List.drop_succ_cons, List.drop_zero]
  have g_0 := fun x => carry (hb x) u0
  have g_1 := fun x => carry (hb x) u2
  repeat (go_big_quiet_step (fail))
  refine wpQuiet_nil ?_
  intro _ hw'
  obtain ⟨xq, hw''⟩ := hw'
  subst hw''
  have hbq := hb xq
  have hP3 := Lib.hid (hP2.out.carry hbq)
  have hM3 := Lib.hid (hM2.out.trans (Mv.below hbq))
  have hzq := hbq.size
  clear g_0 g_1 hcx hf hz hb hbq hP2 hM2 u0 u2 m0 m2
  generalize over W xq = W3 at *
  go_wp2_with fail
  refine (rise_any _ _ _ _ _ _ _).mono ?_
  rintro e Y ⟨rfl, hY⟩
  obtain ⟨hbY, hzY, d0, d1, d2, d3⟩ := rise_boxes hY
  have hP4 := Lib.hid (hP3.out.carry hbY)
  have hM4 := Lib.hid (hM3.out.trans (Mv.below hbY))
  clear hY hbY hP3 hM3 hmf
  generalize W3.heap.size = xb at *
  go_wp2_with fail
  refine (wpIn_wide (n := 9)).1 ?_
  refine range_givesQ (w0 := Y) (N := H + 1) (S := fun r => xb ≤ r ∧ r < xb + 4) rfl (enters_of Try.func89 (by kernel_rfl) rfl)
    (rise_gives i v H sb 65 #[.pointer (some ⟨b, 0, none⟩)] #[] (enters_of Try.func65 (by kernel_rfl) rfl) xb (xb + 1) (xb + 2) (xb + 3) _ Y d0 d1 d2 d3 (by omega) (by rintro r h; omega) hself'.out hH)
    (Below.refl _ _) (by rintro r h; omega) (fun _ => rfl)
    (fun k Z => Pa Z b b1 b2 H (D1.put (.int .i64 (i : Nat)) (.lit (.int .i64 v))) (rse D2 i v sb k) (n + 1 + k) ∧ Mv (fun r => r = b1 ∨ r = b2) V Z) (fun _ _ => False) ?hI (fun _ _ _ _ h _ _ => h) ⟨hP4.out, hM4.out⟩ ?hQ ?round ?done ?stop
  case hI =>
    exact Steady.and (Pa.steady (n := fun k => n + 1 + k) fun r h => by have h1 : Y.heap.size ≤ r := h; omega) (steady_mv fun r h hl => by have h1 : Y.heap.size ≤ r := h; omega)
  case hQ =>
    rintro k Z hk ⟨hZ, _⟩ hkH
    have hdl : i / 2 ^ k < 65537 := Nat.lt_of_le_of_lt (Nat.div_le_self i (2 ^ k)) hi2
    have hsl : sib (i / 2 ^ k) < 65538 := sib_lt hdl
    have := partHash_any b b1 b2 H _ _ (rse D2 i v sb (k + 1)) k (sib (i / 2 ^ k)) _ (wf_nat (by omega)) (wf_nat (by omega)) Z hZ (by
      rw [rse_other (by omega) (by omega) (by omega) _ (k + 1) (by omega) (fun j hj => by
        rcases Nat.lt_or_ge j k with h1 | h1
        · exact .inl (by omega)
        · obtain rfl : j = k := by omega
          exact .inr (sib_ne _))]
      exact hsb k hkH)
    simpa using this
  case round =>
    rintro l1 k Z hk hsz ⟨hZ, hMZ⟩
    have hjm := Nat.lt_of_le_of_lt (Nat.div_le_self i (2 ^ k)) hi2
    obtain ⟨E3, hE3⟩ : ∃ E3, rse D2 i v sb (k + 1) = E3 := ⟨_, rfl⟩
    have hE3' := Lib.hid hE3
    have hlr := Lib.hid (show E3 = (rse D2 i v sb k).put (kP k (i / 2 ^ k)) (.lit (.int .u64 ((hsW i v sb k).toNat : Int))) from hE3.symm)
    clear hE3
    have hkey := Lib.hid (keyOf_place k (i / 2 ^ k) (wf_nat (by omega)) (wf_nat (by omega)))
    have hval := Lib.hid (plainElem_int (H := Unit) (P := Try.prog) Try.underlying36 (wf_word (hsW i v sb k)))
    simp only [riE]
    generalize hsW i v sb k = z at *
    generalize rse D2 i v sb k = E2 at *
    generalize i / 2 ^ k = jk at *
    gi_wp2
    refine ⟨KeepOn.below (alloc_below _ _), fun T hT => ?_⟩
    have hz : Z.heap.size + 1 ≤ T.heap.size := by have := hT.size; simpa using this
    have t0 : T.cell? ⟨Z.heap.size, 0, none⟩ = some (.int .i64 (k : Nat)) := hT.cell (by simp [go_sem]) (by simp only; omega)
    have t1 : T.cell? ⟨Z.heap.size, 1, none⟩ = some (.int .i64 (jk : Nat)) := hT.cell (by simp [go_sem]) (by simp only; omega)
    have hZT := Lib.hid (hT.steady (J := fun _ W => Pa W b b1 b2 H (D1.put (.int .i64 (i : Nat)) (.lit (.int .i64 v))) E2 (n + 1 + k)) (k := 0) (Pa.steady (D2 := fun _ => E2) (n := fun _ => n + 1 + k) fun r h => by have h1 : Y.heap.size ≤ r := h.1; omega) (hZ.carry (alloc_below _ _)))
    have hMT := Lib.hid (hT.steady (J := fun _ W => Mv (fun r => r = b1 ∨ r = b2) V W) (k := 0) (steady_mv fun r h hl => by have h1 : Y.heap.size ≤ r := h.1; omega) (hMZ.trans (Mv.below (alloc_below _ _))))
    clear hZ hMZ hT
    have t2 := hMT.out.cell hV0.out hn0
    have t5 := hZT.out.c2
    generalize Z.heap.size = pb at *
    gi_wp2_with fail
    have m0 := block_lt_of_cell t0
    have m2 := block_lt_of_cell t2
    have m5 := block_lt_of_cell t5
    simp only at m0 m2 m5
    refine round_tail 6 (by kernel_rfl) (by kernel_rfl) (by kernel_rfl) (fun _ _ h => h) ?_
    intro Z2 hZ2
    obtain ⟨hcx, hf, hz2, hb2⟩ := hZ2
    have g_0 := fun x => carry (hb2 x) t0
    have g_1 := fun x => carry (hb2 x) t1
    have g_2 := fun x => carry (hb2 x) t2
    have g_5 := fun x => carry (hb2 x) t5
    simp only [List.take_succ_cons, List.take_zero, List.drop_succ_cons, List.drop_zero]
    repeat (go_big_quiet_step (fail))
    refine wpQuiet_nil ?_
    intro _ hw'
    obtain ⟨xq, hw''⟩ := hw'
    subst hw''
    have hbq := hb2 xq
    have hZ3 := Lib.hid (hZT.out.carry hbq)
    have hM3 := Lib.hid (hMT.out.trans (Mv.below hbq))
    have hk3 := KeepOn.below (S := fun r => (xb ≤ r ∧ r < xb + 4) ∨ Y.heap.size ≤ r) hbq
    clear g_0 g_1 g_2 g_5 hcx hf hz2 hb2 t0 t1 t2 t5 hbq
    generalize over Z2 xq = w4 at *
    have hm2 := Lib.hid hZ3.out.m2
    refine wpList_mapUpdate_own _ rfl _ _ _ 103 rfl 99 36 keyP Try.underlying103 _ b2 (n + 1 + k) E2 rfl hm2.out (by unfold maxLen; omega) _ _ (kP k jk) rfl rfl hkey.out (.lit (.int .u64 (z.toNat : Int))) [] hval.out ?_
    intro w5 hown hgrow
    simp only [Act.put]
    have hZ5 := hZ3.out.put2 hgrow hown
    rw [← hlr.out, ← hE3'.out] at hZ5
    have hM5 := hM3.out.grown hgrow fun r e _ => .inr (by cases e; rfl)
    have hk5 := hk3.trans (KeepOn.grown hgrow fun r e => by cases e; omega)
    go_wp2
    exact ⟨hk5, hZ5, hM5⟩
  case done =>
    rintro D Z rfl ⟨hZ, hMZ⟩ hD
    go_wp2
    refine ⟨by simp, .inl ⟨_, _, rfl, run_takeDeferred hD, ?_⟩⟩
    refine ⟨.bool true, by simp [results, Try.results19, go_sem], rfl, hZ.kept (grownBy_putObj' Z _ _) fun r e => by cases e; omega, ?_⟩
    exact ((Mv.below hBV'.out).trans hMZ).grown (grownBy_putObj' Z _ _) fun r e hr => by cases e; omega
  case stop => exact fun _ _ _ _ _ h _ => h.elim
end Go.Proofs.Ytknjdkgemkmoeaa
