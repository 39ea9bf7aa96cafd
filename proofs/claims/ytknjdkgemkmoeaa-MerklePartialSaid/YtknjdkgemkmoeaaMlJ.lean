/- Package merkle: a tree's Set. -/
import Derived.Test.YtknjdkgemkmoeaaMlI
namespace Go.Proofs.Ytknjdkgemkmoeaa
open Go.ChangeShapes Go.WideShapes Go.ChangeAt Go.RowKit Go.Shelf
set_option linter.unusedSimpArgs false
set_option linter.unusedVariables false
attribute [local go_sem] Oper.semAt_some

/-- The cells behind a Set. -/
def putC (C : List Int) (i v : Int) : List Int := if 0 ≤ i ∧ i < C.length then C.set i.toNat v else C
theorem putC_len (C : List Int) (i v : Int) : (putC C i v).length = C.length := by unfold putC; split <;> simp

set_option maxRecDepth 100000 in
set_option maxHeartbeats 8000000 in
theorem treeSet_any (w : World) (b : Nat) (x : TrX) (C : List Int) (i v : Int) (h : Tr w b x C (rowsW C)) (hl : C.length ≤ 1000) :
    Calls Try.prog 20 #[.pointer (some ⟨b, 0, none⟩), .int .i64 i, .int .i64 v] w fun e w' => (∃ u, e = .returned u) ∧ Tr w' b x (putC C i v) (rowsW (putC C i v)) ∧ Mv (x.on (ht C.length)) w w' := by
  have hB0 := alloc_below w (.cells #[.pointer (some ⟨b, 0, none⟩)] 24)
  have p0 : (w.alloc (.cells #[.pointer (some ⟨b, 0, none⟩)] 24)).cell? ⟨w.heap.size, 0, none⟩ = some (.pointer (some ⟨b, 0, none⟩)) := by simp [go_sem]
  have hz0 : (w.alloc (.cells #[.pointer (some ⟨b, 0, none⟩)] 24)).heap.size = w.heap.size + 1 := by simp
  have hT := Lib.hid (h.carry hB0)
  have hlt := Lib.hid fun r hr => h.lt (r := r) hr
  have hbb : b < w.heap.size := h.lt (.inl rfl)
  by_cases hin : 0 ≤ i ∧ i < C.length
  · obtain ⟨j, rfl⟩ : ∃ j : Nat, i = (j : Int) := ⟨i.toNat, by omega⟩
    have hj : j < C.length := by omega
    have hpc : putC C (j : Int) v = C.set j v := by unfold putC; rw [if_pos hin, Int.toNat_natCast]
    rw [hpc]
    have hhas := decide_eq_true hin
    have hD := Lib.hid (And.intro hin hj)
    clear hpc h hin
    have kh := Lib.hid (fun W hW => (treeHas_any W b x C (rowsW C) (j : Int) hW hl))
    rw [hhas] at kh
    clear hhas
    refine (callsIn_wide (n := 9)).1 (callsIn_of_wp_marks Try.func20 rfl trivial (wpIn_wide.2 ?_) rfl)
    simp only [Try.ntmps20, List.size_toArray, List.length_cons, List.length_nil, Nat.reduceAdd, Nat.reduceSub, Array.replicate_succ, Array.replicate_zero, List.push_toArray, List.append_toArray, List.nil_append, List.cons_append]
    go_wp2_with fail
    generalize w.alloc (.cells #[.pointer (some ⟨b, 0, none⟩)] 24) = V at *
    refine (kh.out V hT.out).mono ?_
    rintro e w1 ⟨rfl, rfl⟩
    obtain ⟨ca, cc, hcv, g1, g2, _, g4⟩ := hT.out.ce.shape Nat.one_pos
    obtain ⟨gc, off, rfl, hgc, hcell⟩ := g4 (by omega)
    have c0 := hT.out.c0
    rw [hcv] at c0
    obtain ⟨y, hy⟩ : ∃ y, C[j]? = some y := ⟨_, List.getElem?_eq_getElem hj⟩
    have cj := (hcell j (.int .i64 y) (by unfold ints; rw [List.getElem?_map, hy]; rfl))
    have cj1 := cj.1
    have cj2 := cj.2
    have hT2 := Lib.hid (hT.out.putC hcv rfl hj v)
    have hMv0 := Lib.hid ((Mv.below (O := x.on (ht C.length)) hB0).grown (grownBy_set V ⟨gc, off + j, none⟩ (.int .i64 v)) fun r e _ => by cases e; exact .inl (by rw [hcv]; rfl))
    have hpne : w.heap.size ≠ gc := fun e => by have := hlt.out gc (.inr (.inl (by rw [hcv]; rfl))); omega
    have p1 := (KeepOn.setCell (S := fun r => r = w.heap.size) (X := V) (p := ⟨gc, off + j, none⟩) (.int .i64 v) (fun e => hpne e.symm)).cell p0 rfl
    have hz1 : (V.setCell ⟨gc, off + j, none⟩ (.int .i64 v)).heap.size = w.heap.size + 1 := by rw [World.size_setCell]; exact hz0
    obtain ⟨n, hn⟩ : ∃ n, n = C.length := ⟨_, rfl⟩
    rw [← hn] at c0 g1 hj hl
    have hn' := Lib.hid hn
    unfold maxLen at g2
    clear hn hcell cj hy kh g4
    go_upto_region 3 with fail
    clear c0 cj1 cj2
    generalize V.setCell ⟨gc, off + j, none⟩ (.int .i64 v) = U at *
    obtain ⟨H, hH⟩ : ∃ H, H = ht C.length := ⟨_, rfl⟩
    have h16 : H ≤ 16 := by rw [hH]; exact ht_small (by rw [← hn'.out]; omega)
    have hself : j < 2 ^ H := by rw [hH]; exact Nat.lt_of_lt_of_le (by rw [← hn'.out]; exact hj) (ht_self _)
    have hcl : (C.set j v).length = C.length := List.length_set
    have kg := Lib.hid (fun Z (hZ : Below U.heap.size U Z) => by
      have := treeHeight_any Z b x (C.set j v) _ (hT2.out.carry hZ) (by rw [hcl, ← hn'.out]; exact hl)
      rw [hcl, ← hH] at this
      exact this)
    have hself' := Lib.hid hself
    have hH' := Lib.hid hH
    rw [← hH] at hMv0 hlt
    have hmf : ∀ (fn : Fn) (first cap : Array Value) (w : World), (Instr.makeFunc fn first cap).run Try.prog w = .ok (.func fn first cap) w := fun _ _ _ _ => rfl
    have n0 : w.heap.size < U.heap.size := by omega
    clear hself hH
    refine wp_region_tail 6 (by kernel_rfl) (by kernel_rfl) ?_
    intro W hK
    obtain ⟨hc, hf, hz, hb⟩ := hK
    simp only [List.take_succ_cons, List.take_zero, List.drop_succ_cons, List.drop_zero]
    repeat (go_big_quiet_step ((go_at_call 57; with_reducible exact met_same (kg.out _ (hb _)))))
    refine wpQuiet_nil ?_
    intro _ hw'
    obtain ⟨xq, hw''⟩ := hw'
    subst hw''
    have hbq := hb xq
    have hT3 := Lib.hid (hT2.out.carry hbq)
    have hMv3 := Lib.hid (hMv0.out.trans (Mv.below hbq))
    have p3 := carry hbq p1
    have hzq := hbq.size
    clear hc hf hz hb hbq hT2 hMv0 kg
    generalize over W xq = X at *
    go_wp2_with fail
    refine (rise_any _ _ _ _ _ _ _).mono ?_
    rintro e Y ⟨rfl, hY⟩
    obtain ⟨hbY, hzY, d0, d1, d2, d3⟩ := rise_boxes hY
    have hT4 := Lib.hid (hT3.out.carry hbY)
    have hMv4 := Lib.hid (hMv3.out.trans (Mv.below hbY))
    replace p3 := carry hbY p3
    clear hY hbY hT3 hMv3 hmf
    generalize X.heap.size = xb at *
    go_wp2_with fail
    have hall : ∀ r, x.all b (ht (C.set j v).length) r → r < w.heap.size := by rw [hcl, ← hH'.out]; exact hlt.out
    have hall' := Lib.hid hall
    have hl2 : (C.set j v).length ≤ 1000 := by rw [hcl, ← hn'.out]; exact hl
    have hl2' := Lib.hid hl2
    have hjC : j < C.length := by rw [← hn'.out]; exact hj
    have hjC' := Lib.hid hjC
    clear hall hl2 hjC
    refine (wpIn_wide (n := 9)).1 ?_
    refine range_givesQ (w0 := Y) (N := H + 1) (S := fun r => xb ≤ r ∧ r < xb + 4) rfl (enters_of Try.func89 (by kernel_rfl) rfl)
      (rise_gives j v H (fun k => nodeW C k (sib (j / 2 ^ k))) 59 #[.pointer (some ⟨b, 0, none⟩)] #[] (enters_of Try.func59 (by kernel_rfl) rfl) xb (xb + 1) (xb + 2) (xb + 3) _ Y d0 d1 d2 d3 (by omega) (by rintro r h; omega) hself'.out h16)
      (Below.refl _ _) (by rintro r h; omega) (fun _ => rfl)
      (fun k Z => Tr Z b x (C.set j v) (RK C (C.set j v) k) ∧ Mv (x.on H) w Z ∧ Z.cell? ⟨w.heap.size, 0, none⟩ = some (.pointer (some ⟨b, 0, none⟩))) (fun _ _ => False) ?hI (fun _ _ _ _ h _ _ => h) ⟨hT4.out.congr fun t _ => (RK_zero C _ t).symm, hMv4.out, p3⟩ ?hQ ?round ?done ?stop
    case hI =>
      refine Steady.and (Tr.steady (N := Y.heap.size) (fun r h => h) fun r hr => by have := hall'.out r hr; omega) (Steady.and (steady_mv fun r h hl => by have h1 : Y.heap.size ≤ r := h; omega) (steady_cell (by simp only; omega)))
    case hQ =>
      rintro k Z hk ⟨hZ, _, _⟩ hkH
      have hkp : k < ht C.length := by rw [← hH'.out]; exact hkH
      have hs : sib (j / 2 ^ k) < pw (C.set j v).length k := by rw [hcl]; exact pw_sib hjC'.out hkp
      have hz : (RK C (C.set j v) (k + 1) k)[sib (j / 2 ^ k)]? = some (nodeW C k (sib (j / 2 ^ k))) := by
        unfold RK
        rw [if_pos (Nat.lt_succ_self k)]
        show (rowW (C.set j v) k (pw (C.set j v).length k))[_]? = _
        unfold rowW
        rw [rw_at _ hs, node_sib]
      have := treeHash_any Z b x (C.set j v) _ k (sib (j / 2 ^ k)) _ hZ (by rw [hcl]; omega) hz hl2'.out
      simpa using this
    case round =>
      rintro l1 k Z hk hsz ⟨hZ, hM1, p1⟩
      have hkp : k ≤ ht (C.set j v).length := by rw [hcl, ← hH'.out]; omega
      have hjp : j / 2 ^ k < pw (C.set j v).length k := by rw [hcl]; exact pw_in hjC'.out
      have hhs := hsW_node v hjC'.out k
      have hrk := Lib.hid (RK_succ v hjC'.out k)
      simp only [riE]
      rw [hhs]
      have hpb : pw (C.set j v).length k ≤ 1002 := by
        have h1 := wd_le (C.set j v).length k
        have h2 := hl2'.out
        unfold pw; split <;> omega
      obtain ⟨gr, off', cr, hrv, s1, s2, sg, sc⟩ := hZ.shape
      have ct := sc k hkp
      have c1 := hZ.c1
      rw [hrv] at c1
      obtain ⟨z0, hz0⟩ : ∃ z0, (RK C (C.set j v) k k)[j / 2 ^ k]? = some z0 := ⟨_, List.getElem?_eq_getElem (by rw [(hZ.ro k hkp).2]; exact hjp)⟩
      obtain ⟨cx, fx⟩ := (hZ.ro k hkp).1.cell hz0
      have hgk : x.G k < w.heap.size := hall'.out _ (.inr (.inr (.inr ⟨k, hkp, rfl⟩)))
      have hgr : gr < w.heap.size := hall'.out _ (.inr (.inr (.inl (by rw [hrv]; rfl))))
      have hput := Lib.hid (fun W (hW : Tr W b x (C.set j v) (RK C (C.set j v) k)) => hW.putR hkp hjp (nodeW (C.set j v) k (j / 2 ^ k)))
      have hon := Lib.hid (show x.on H (x.G k) from .inr ⟨k, by omega, rfl⟩)
      have hcap := (hZ.ro k hkp).1.bounds
      rw [(hZ.ro k hkp).2] at hcap
      rw [hcl, ← hH'.out] at s1 c1
      unfold maxLen at hcap s2
      have fx' := Lib.hid (fun W (hW : Tr W b x (C.set j v) (RK C (C.set j v) k)) => ((hW.ro k hkp).1.cell hz0).2)
      clear hz0 sc hkp hrv hhs
      generalize nodeW (C.set j v) k (j / 2 ^ k) = z at *
      generalize pw (C.set j v).length k = m at *
      generalize x.cap k = cp at *
      generalize x.G k = gk at *
      generalize j / 2 ^ k = jk at *
      gi_wp2
      refine ⟨KeepOn.below (alloc_below _ _), fun T hT => ?_⟩
      have hz : Z.heap.size + 1 ≤ T.heap.size := by have := hT.size; simpa using this
      have q0 : T.cell? ⟨Z.heap.size, 0, none⟩ = some (.int .i64 (k : Nat)) := hT.cell (by simp [go_sem]) (by simp only; omega)
      have q1 : T.cell? ⟨Z.heap.size, 1, none⟩ = some (.int .i64 (jk : Nat)) := hT.cell (by simp [go_sem]) (by simp only; omega)
      have q3 := hT.cell (carry (alloc_below _ _) p1) (by simp only; omega)
      have q4 := hT.cell (carry (alloc_below _ _) c1) (by simp only; omega)
      have q5 := hT.cell (carry (alloc_below _ _) ct) (by simp only; omega)
      have q6 := hT.cell (carry (alloc_below _ _) cx) (by simp only; omega)
      have hZT := Lib.hid (hT.steady (J := fun _ W => Tr W b x (C.set j v) (RK C (C.set j v) k)) (k := 0) (Tr.steady (R := fun _ => RK C (C.set j v) k) (N := Y.heap.size) (fun r h => h.1) fun r hr => by have := hall'.out r hr; omega) (hZ.carry (alloc_below _ _)))
      have hMT := Lib.hid (hT.steady (J := fun _ W => Mv (x.on H) w W) (k := 0) (steady_mv fun r h hl => by have h1 : Y.heap.size ≤ r := h.1; omega) (hM1.trans (Mv.below (alloc_below _ _))))
      clear hZ hM1 hT p1 c1 ct cx fx
      generalize Z.heap.size = pb at *
      gi_wp2_with fail
      have m0 := block_lt_of_cell q3
      have m1 := block_lt_of_cell q4
      have m2 := block_lt_of_cell q5
      have m3 := block_lt_of_cell q6
      simp only at m0 m1 m2 m3
      have m4 : pb < T.heap.size := by omega
      have f6 : T.frozen? ⟨gk, jk, none⟩ = false := fx'.out T hZT.out
      refine round_tail 12 (by kernel_rfl) (by kernel_rfl) (by kernel_rfl) (fun _ _ h => h) ?_
      intro Z2 hZ2
      obtain ⟨hc, hf, hz2, hb2⟩ := hZ2
      simp only [List.take_succ_cons, List.take_zero, List.drop_succ_cons, List.drop_zero]
      repeat (go_big_quiet_step (fail))
      refine wpQuiet_nil ?_
      intro _ hw'
      obtain ⟨xq, hw''⟩ := hw'
      subst hw''
      have hbq := hb2 xq
      have r6 := carry hbq q6
      have g6 : (over Z2 xq).frozen? ⟨gk, jk, none⟩ = false := (hbq.frozen m3).trans f6
      have r3 := carry hbq q3
      have hZ3 := Lib.hid (hput.out _ (hZT.out.carry hbq))
      have hM3 := Lib.hid ((hMT.out.trans (Mv.below hbq)).grown (grownBy_set (over Z2 xq) ⟨gk, jk, none⟩ (.int .u64 (z.toNat : Int))) fun r e _ => by cases e; exact hon.out)
      have hk3 := KeepOn.below (S := fun r => (xb ≤ r ∧ r < xb + 4) ∨ Y.heap.size ≤ r) hbq
      clear hc hf hz2 hb2 q0 q1 q3 q4 q5 q6 hbq hput
      generalize over Z2 xq = w4 at *
      go_wp2
      refine ⟨hk3.trans (KeepOn.setCell _ (by simp only; omega)), hZ3.out.congr fun t _ => hrk.out t, hM3.out, ?_⟩
      exact (KeepOn.setCell (S := fun r => r = w.heap.size) _ (by simp only; omega)).cell r3 rfl
    case done =>
      rintro D Z rfl ⟨hZ, hM1, p1⟩ hD
      go_wp2
      have hend : Tr Z b x (C.set j v) (rowsW (C.set j v)) := hZ.congr fun t ht' => if_pos (by rw [hcl, ← hH'.out] at ht'; omega)
      refine ⟨by simp, .inl ⟨_, _, rfl, run_takeDeferred hD, ?_⟩⟩
      refine ⟨_, results_none rfl _ _ _, ⟨_, rfl⟩, hend.keep fun r hr => ?_, ?_⟩
      · have := hall'.out r hr
        exact World.putObj_heap_other (by omega)
      · rw [← hH'.out]
        exact hM1.grown (grownBy_putObj' Z _ _) fun r e hr => by cases e; omega
    case stop => exact fun _ _ _ _ _ h _ => h.elim
  · have hpc : putC C i v = C := if_neg hin
    rw [hpc]
    have hhas := decide_eq_false hin
    have kh := Lib.hid (fun W hW => (treeHas_any W b x C (rowsW C) i hW hl))
    rw [hhas] at kh
    clear hhas hpc h hin
    go_enter Try.func20, Try.ntmps20
    go_wp2_with fail
    generalize w.alloc (.cells #[.pointer (some ⟨b, 0, none⟩)] 24) = V at *
    refine (kh.out V hT.out).mono ?_
    rintro e w1 ⟨rfl, rfl⟩
    go_wp2
    refine bodyPost_ret (results_none rfl _ _ _) rfl ⟨⟨_, rfl⟩, hT.out, Mv.below hB0⟩
end Go.Proofs.Ytknjdkgemkmoeaa
