/- Package cellmem: operations made of numbers (the reference's Ops); one of them performed; a memory with a history. -/
import Derived.Test.YtlpacihkmfgegaaCmJ
namespace Go.Proofs.Ytlpacihkmfgegaa
open Go.ChangeShapes Go.WideShapes Go.ChangeAt Go.RowKit
open Cm
set_option linter.unusedSimpArgs false
set_option linter.unusedVariables false

/-! ## Slices of operations -/
def opC (o : Op3) : List Value := [.int .i64 o.d, .int .i64 o.n, .int .i64 o.v]
theorem opC_len : ∀ o : Op3, (opC o).length = 3 := fun _ => rfl
theorem opC_one : ∀ x : Op3, ∀ v ∈ opC x, v.oneCell' = true := fun x v hv => by
  simp only [opC, List.mem_cons, List.not_mem_nil, or_false] at hv
  rcases hv with rfl | rfl | rfl <;> rfl
def flatO (l : List Op3) : List Value := l.flatMap opC
theorem flatO_length (l : List Op3) : (flatO l).length = l.length * 3 := flat_length opC_len l
theorem flatO_snoc (l : List Op3) (o : Op3) : flatO (l ++ [o]) = flatO l ++ [.int .i64 o.d, .int .i64 o.n, .int .i64 o.v] := by unfold flatO; rw [List.flatMap_append]; rfl
/-- v is a slice of operations. -/
def OL (w : World) (v : Value) (l : List Op3) : Prop :=
  ∃ (a : Option Addr) (cap : Nat), v = .slice a l.length cap ∧ l.length ≤ cap ∧ cap ≤ maxLen ∧
    (0 < l.length → ∃ g off, a = some ⟨g, off, none⟩ ∧ g < w.heap.size ∧ ∀ (i : Nat) (o : Op3), l[i]? = some o → w.cell? ⟨g, off + i * 3, none⟩ = some (.int .i64 o.d) ∧ w.cell? ⟨g, off + i * 3 + 1, none⟩ = some (.int .i64 o.n) ∧ w.cell? ⟨g, off + i * 3 + 2, none⟩ = some (.int .i64 o.v))
theorem OL.owned {w : World} {base : Nat} {e : TypeId} {v : Value} {n : Nat} {l : List Op3} (h : w.ownsRow base e 3 v n (flatO l)) : OL w v l := by
  have hn : n = l.length := by have := h.1; rw [flatO_length] at this; omega
  subst hn
  obtain ⟨a, cap, rfl, h2, h3, _, h4⟩ := (SRow.owned h).shape (by decide)
  refine ⟨a, cap, rfl, h2, h3, fun h0 => ?_⟩
  obtain ⟨g, off, rfl, h5, h6⟩ := h4 h0
  refine ⟨g, off, rfl, h5, fun i o ho => ?_⟩
  have f := fun (j : Nat) (u : Value) (hj : j < 3) (hu : (opC o)[j]? = some u) => (h6 (i * 3 + j) u ((flat_get opC_len l i o j ho hj).trans hu)).1
  exact ⟨f 0 _ (by decide) rfl, by have := f 1 _ (by decide) rfl; rw [Nat.add_assoc]; exact this, by have := f 2 _ (by decide) rfl; rw [Nat.add_assoc]; exact this⟩
theorem OL.carry {w w' : World} {v : Value} {l : List Op3} (h : OL w v l) (hb : Below w.heap.size w w') : OL w' v l := by
  obtain ⟨a, cap, h1, h2, h3, h4⟩ := h
  refine ⟨a, cap, h1, h2, h3, fun h0 => ?_⟩
  obtain ⟨g, off, h5, h6, h7⟩ := h4 h0
  exact ⟨g, off, h5, Nat.lt_of_lt_of_le h6 hb.size, fun i o ho => ⟨Proofs.Ytlpacihkmfgegaa.carry hb (h7 i o ho).1, Proofs.Ytlpacihkmfgegaa.carry hb (h7 i o ho).2.1, Proofs.Ytlpacihkmfgegaa.carry hb (h7 i o ho).2.2⟩⟩
theorem OL.moves {O O' : Nat → Prop} {w w' : World} {v : Value} {l : List Op3} (h : OL w v l) (hm : Moves O w O' w') (hne : ∀ k, v.ownBlock = some k → ¬ O k) : OL w' v l := by
  obtain ⟨a, cap, h1, h2, h3, h4⟩ := h
  refine ⟨a, cap, h1, h2, h3, fun h0 => ?_⟩
  obtain ⟨g, off, rfl, h6, h7⟩ := h4 h0
  have hg : ¬ O g := hne g (by rw [h1]; rfl)
  have e : ∀ o, w'.cell? ⟨g, o, none⟩ = w.cell? ⟨g, o, none⟩ := fun o => World.cell?_of_block (hm.block g h6 hg)
  exact ⟨g, off, rfl, Nat.lt_of_lt_of_le h6 hm.size, fun i o ho => ⟨(e _).trans (h7 i o ho).1, (e _).trans (h7 i o ho).2.1, (e _).trans (h7 i o ho).2.2⟩⟩
theorem info_op : (Try.prog.info? 34).map (fun i => (i.zero, i.size, i.bytes)) = some (some (.agg #[.int .i64 0, .int .i64 0, .int .i64 0]), 3, 24) := by kernel_rfl
theorem three_news (w : World) (x y z : Int) (t : TypeId) : ∀ j u, [Value.int .i64 x, .int .i64 y, .int .i64 z][j]? = some u → (w.alloc (.cells #[.int .i64 x, .int .i64 y, .int .i64 z] t)).cell? ((⟨w.heap.size, 0, none⟩ : Addr).add j) = some u := fun j u hu => by
  have ha : (⟨w.heap.size, 0, none⟩ : Addr).add j = ⟨w.heap.size, j, none⟩ := by unfold Addr.add; split <;> simp_all
  rw [ha, World.cell?_alloc_new]
  simpa using hu
theorem three_one (x y z : Int) : ∀ u ∈ [Value.int .i64 x, .int .i64 y, .int .i64 z], u.oneCell' = true := fun u hu => by
  simp only [List.mem_cons, List.not_mem_nil, or_false] at hu
  rcases hu with rfl | rfl | rfl <;> rfl
theorem i64_bd {n : Int} (h : (Lit.int .i64 n).wf = true) : -9223372036854775808 ≤ n ∧ n ≤ 9223372036854775807 := by
  have h1 : IntKind.i64.min = -9223372036854775808 := rfl
  have h2 : IntKind.i64.max = 9223372036854775807 := rfl
  simp only [Lit.wf, Bool.and_eq_true, decide_eq_true_eq] at h
  omega
theorem int_at {w : World} {v : Value} {Z : Nat → Int} {l i : Nat} (h : IntsAt w v 1 Z l) (hi : i < l) : ∃ g off cap, v = .slice (some ⟨g, off, none⟩) l cap ∧ l ≤ cap ∧ w.cell? ⟨g, off + i, none⟩ = some (.int .i64 (Z i)) ∧ (-9223372036854775808 ≤ Z i ∧ Z i ≤ 9223372036854775807) := by
  obtain ⟨a, cap, rfl, h1, h2, hZ, h3⟩ := h
  rcases h3 with e | ⟨g, off, rfl, hc⟩
  · omega
  · exact ⟨g, off, cap, rfl, h1, hc i (by omega), i64_bd (hZ i)⟩
/-- What the numbers of one operation are. -/
theorem op_facts (n : Int) (h : 0 ≤ n) : n.tdiv 16 = n / 16 ∧ n.tdiv 128 = n / 128 ∧ n.tmod 16 = n % 16 ∧ (n / 16).tmod 8 = n / 16 % 8 ∧ (n / 128).tmod 9 = n / 128 % 9 ∧ (n / 16).tmod 5 = n / 16 % 5 ∧ (n / 16).tmod 7 = n / 16 % 7 := by
  have h1 : 0 ≤ n / 16 := by omega
  have h2 : 0 ≤ n / 128 := by omega
  exact ⟨Int.tdiv_eq_ediv_of_nonneg h, Int.tdiv_eq_ediv_of_nonneg h, Int.tmod_eq_emod_of_nonneg h, Int.tmod_eq_emod_of_nonneg h1, Int.tmod_eq_emod_of_nonneg h2, Int.tmod_eq_emod_of_nonneg h1, Int.tmod_eq_emod_of_nonneg h1⟩

theorem op_sel (p : Nat) (n : Int) : (n % 16 = 0 ∧ opDo n = 1 ∧ opN p n = p - n / 16 % 5) ∨ (n % 16 = 1 ∧ opDo n = 1 ∧ opN p n = p - n / 16 % 5) ∨ (n % 16 = 2 ∧ opDo n = 2 ∧ opN p n = p - n / 16 % 7) ∨
    (n % 16 = 3 ∧ opDo n = 3 ∧ opN p n = p + 1 - n / 16 % 8) ∨ (n % 16 = 4 ∧ opDo n = 3 ∧ opN p n = p + 1 - n / 16 % 8) ∨
    (((n % 16 == 0) = false ∧ (n % 16 == 1) = false ∧ (n % 16 == 2) = false ∧ (n % 16 == 3) = false ∧ (n % 16 == 4) = false) ∧ opDo n = 0 ∧ opN p n = n / 16 % 8 - 1) := by
  unfold opDo opN
  by_cases h0 : n % 16 = 0
  · exact .inl ⟨h0, by rw [if_pos (.inl h0)], by rw [if_pos (.inl h0)]⟩
  by_cases h1 : n % 16 = 1
  · exact .inr (.inl ⟨h1, by rw [if_pos (.inr h1)], by rw [if_pos (.inr h1)]⟩)
  have n1 : ¬ (n % 16 = 0 ∨ n % 16 = 1) := by omega
  rw [if_neg n1, if_neg n1]
  by_cases h2 : n % 16 = 2
  · exact .inr (.inr (.inl ⟨h2, by rw [if_pos h2], by rw [if_pos h2]⟩))
  rw [if_neg h2, if_neg h2]
  by_cases h3 : n % 16 = 3
  · exact .inr (.inr (.inr (.inl ⟨h3, by rw [if_pos (.inl h3)], by rw [if_pos (.inl h3)]⟩)))
  by_cases h4 : n % 16 = 4
  · exact .inr (.inr (.inr (.inr (.inl ⟨h4, by rw [if_pos (.inr h4)], by rw [if_pos (.inr h4)]⟩))))
  have n2 : ¬ (n % 16 = 3 ∨ n % 16 = 4) := by omega
  rw [if_neg n2, if_neg n2]
  exact .inr (.inr (.inr (.inr (.inr ⟨⟨by simpa using h0, by simpa using h1, by simpa using h2, by simpa using h3, by simpa using h4⟩, rfl, rfl⟩))))
set_option maxRecDepth 100000 in
set_option maxHeartbeats 8000000 in
theorem ops_any (v : Value) (Z : Nat → Int) (l : Nat) (w : World) (h : IntsAt w v 1 Z l) :
    Calls Try.prog 15 #[v] w fun e w' => ∃ v', e = .returned v' ∧ w'.ownsRow w.heap.size 34 3 v' (min l 30) (flatO (opsN Z (min l 30))) ∧ Below w.heap.size w w' := by
  have h' := Lib.hid h
  obtain ⟨a, cap, rfl, h1, h2, hZ, h3⟩ := h
  clear hZ h3
  unfold maxLen at h2
  obtain ⟨i0, hi0, hz0, hz1, hz2⟩ := info_parts info_op
  have hi0' := Lib.hid hi0; clear hi0
  have hz0' := Lib.hid hz0; clear hz0
  have hz1' := Lib.hid hz1; clear hz1
  have hz2' := Lib.hid hz2; clear hz2
  go_enter Try.func15, Try.ntmps15
  go_wp2_with fail
  go_loopw [3, 4, 5] (fun out at' i wr => ∃ t : Nat, t ≤ min l 30 ∧ i = .int .i64 (t : Nat) ∧ at' = .int .i64 (atN Z t : Nat) ∧ wr.ownsRow w.heap.size 34 3 out t (flatO (opsN Z t)) ∧ Below w.heap.size w wr) (fun _ _ i _ => 30 - (intOf i).toNat)
  case atStart => exact ⟨0, Nat.zero_le _, rfl, rfl, World.ownsRow_nil _ _ _ _, Below.refl _ _⟩
  case round =>
    obtain ⟨t, ht, rfl, rfl, hown, hB⟩ := hrel
    have hown' := Lib.hid hown
    have hB' := Lib.hid hB
    clear hown hB
    by_cases hlt : t < l
    · by_cases h30 : t < 30
      · obtain ⟨g, off, cap', e, hcap, hc, hz1, hz2⟩ := int_at h'.out hlt
        simp only [Value.slice.injEq, true_and] at e
        obtain ⟨rfl, rfl⟩ := e
        have c0 := carry hB'.out hc
        clear hc
        have d0 : decide (((t : Nat) : Int) < (l : Int)) = true := decide_eq_true (by omega)
        have ka := Lib.hid (fun W => around_any (Z t) 1000000 W hz1 hz2 (by omega))
        obtain ⟨n0, n1⟩ := num_bd Z t
        have hnum : arnd (Z t) 1000000 = num Z t := rfl
        rw [hnum] at ka
        have hst := Lib.hid (opsN_succ Z t)
        have hat1 := atN_le Z t
        have hop := Lib.hid (show Cm.opAt Z t = ⟨opDo (num Z t), opN (atN Z t) (num Z t), opV (num Z t)⟩ from rfl)
        have hat := Lib.hid (show atN Z (t + 1) = atN Z t + (if opDo (num Z t) = 0 then 1 else 0) from rfl)
        clear hnum hz1 hz2
        generalize atN Z t = p at *
        generalize Z t = z at *
        generalize num Z t = n at *
        obtain ⟨f1, f2, f3, f4, f5, f6, f7⟩ := op_facts n n0
        go_upto_region 8 with (first | (go_at_call 33; with_reducible refine (ka.out _).mono ?_; rintro e u1 ⟨rfl, rfl⟩))
        have hsel := op_sel p n
        have hv := Lib.hid (show opV n = n / 128 % 9 - 4 from rfl)
        have y8b : 0 ≤ n / 16 % 8 ∧ n / 16 % 8 < 8 := by omega
        have y9b : 0 ≤ n / 128 % 9 ∧ n / 128 % 9 < 9 := by omega
        have y5b : 0 ≤ n / 16 % 5 ∧ n / 16 % 5 < 5 := by omega
        have y7b : 0 ≤ n / 16 % 7 ∧ n / 16 % 7 < 7 := by omega
        clear f1 f2 f4 f5 f6 f7
        generalize hr : n % 16 = r at *
        clear hr
        rcases hsel with ⟨rfl, e1, e2⟩ | ⟨rfl, e1, e2⟩ | ⟨rfl, e1, e2⟩ | ⟨rfl, e1, e2⟩ | ⟨rfl, e1, e2⟩ | ⟨⟨b0, b1, b2, b3, b4⟩, e1, e2⟩
        · have hh := Lib.hid (And.intro e1 e2)
          clear e1 e2
          go_upto_region 21 with fail
          have oV := Lib.hid (World.ownsRow.alloc hown'.out (.cells #[.int .i64 1, .int .i64 ((p : Int) - n / 16 % 5), .int .i64 (n / 128 % 9 - 4)] 34))
          have bV := Lib.hid (hB'.out.alloc hB'.out.size (.cells #[.int .i64 1, .int .i64 ((p : Int) - n / 16 % 5), .int .i64 (n / 128 % 9 - 4)] 34))
          have k0 := World.cell?_alloc_new (w := wr) #[Value.int .i64 1, .int .i64 ((p : Int) - n / 16 % 5), .int .i64 (n / 128 % 9 - 4)] 34 0
          have k1 := World.cell?_alloc_new (w := wr) #[Value.int .i64 1, .int .i64 ((p : Int) - n / 16 % 5), .int .i64 (n / 128 % 9 - 4)] 34 1
          have k2 := World.cell?_alloc_new (w := wr) #[Value.int .i64 1, .int .i64 ((p : Int) - n / 16 % 5), .int .i64 (n / 128 % 9 - 4)] 34 2
          generalize wr.alloc _ = V at *
          have hVs := bV.out.size
          have hlo := Lib.hid oV.out.lt
          go_wp2_with (first
            | (at_builtin; refine wpList_append_own _ rfl _ _ 30 rfl w.heap.size 34 i0 _ 3 24 Try.underlying30 hi0'.out hz0'.out hz1'.out hz2'.out rfl (by decide) _ t (flatO (opsN Z t)) rfl (World.ownsRow.alloc oV.out _) ⟨V.heap.size, 0, none⟩ 1 1 [.int .i64 1, .int .i64 ((p : Int) - n / 16 % 5), .int .i64 (n / 128 % 9 - 4)] rfl rfl (three_news _ _ _ _ _) (three_one _ _ _) (by unfold maxLen; omega) (by omega) (by simp; omega) ?_; intro v5 w5 hown5 hgrow5 _; have hown5' := Lib.hid hown5; have hB5 := Lib.hid ((bV.out.alloc hVs _).grown hgrow5 (by simp; omega) (fun j hj => (hlo.out j hj).1)); clear hown5 hgrow5))
          refine ⟨⟨t + 1, by omega, by go_num, ?_, ?_, hB5.out⟩, ?_⟩
          · rw [hat.out, hh.out.1]; rfl
          · rw [hst.out, flatO_snoc, hop.out, hh.out.1, hh.out.2, hv.out]; exact hown5'.out
          · simp [intOf]; omega
        · have hh := Lib.hid (And.intro e1 e2)
          clear e1 e2
          go_upto_region 21 with fail
          have oV := Lib.hid (World.ownsRow.alloc hown'.out (.cells #[.int .i64 1, .int .i64 ((p : Int) - n / 16 % 5), .int .i64 (n / 128 % 9 - 4)] 34))
          have bV := Lib.hid (hB'.out.alloc hB'.out.size (.cells #[.int .i64 1, .int .i64 ((p : Int) - n / 16 % 5), .int .i64 (n / 128 % 9 - 4)] 34))
          have k0 := World.cell?_alloc_new (w := wr) #[Value.int .i64 1, .int .i64 ((p : Int) - n / 16 % 5), .int .i64 (n / 128 % 9 - 4)] 34 0
          have k1 := World.cell?_alloc_new (w := wr) #[Value.int .i64 1, .int .i64 ((p : Int) - n / 16 % 5), .int .i64 (n / 128 % 9 - 4)] 34 1
          have k2 := World.cell?_alloc_new (w := wr) #[Value.int .i64 1, .int .i64 ((p : Int) - n / 16 % 5), .int .i64 (n / 128 % 9 - 4)] 34 2
          generalize wr.alloc _ = V at *
          have hVs := bV.out.size
          have hlo := Lib.hid oV.out.lt
          go_wp2_with (first
            | (at_builtin; refine wpList_append_own _ rfl _ _ 30 rfl w.heap.size 34 i0 _ 3 24 Try.underlying30 hi0'.out hz0'.out hz1'.out hz2'.out rfl (by decide) _ t (flatO (opsN Z t)) rfl (World.ownsRow.alloc oV.out _) ⟨V.heap.size, 0, none⟩ 1 1 [.int .i64 1, .int .i64 ((p : Int) - n / 16 % 5), .int .i64 (n / 128 % 9 - 4)] rfl rfl (three_news _ _ _ _ _) (three_one _ _ _) (by unfold maxLen; omega) (by omega) (by simp; omega) ?_; intro v5 w5 hown5 hgrow5 _; have hown5' := Lib.hid hown5; have hB5 := Lib.hid ((bV.out.alloc hVs _).grown hgrow5 (by simp; omega) (fun j hj => (hlo.out j hj).1)); clear hown5 hgrow5))
          refine ⟨⟨t + 1, by omega, by go_num, ?_, ?_, hB5.out⟩, ?_⟩
          · rw [hat.out, hh.out.1]; rfl
          · rw [hst.out, flatO_snoc, hop.out, hh.out.1, hh.out.2, hv.out]; exact hown5'.out
          · simp [intOf]; omega
        · have hh := Lib.hid (And.intro e1 e2)
          clear e1 e2
          go_upto_region 21 with fail
          have oV := Lib.hid (World.ownsRow.alloc hown'.out (.cells #[.int .i64 2, .int .i64 ((p : Int) - n / 16 % 7), .int .i64 (n / 128 % 9 - 4)] 34))
          have bV := Lib.hid (hB'.out.alloc hB'.out.size (.cells #[.int .i64 2, .int .i64 ((p : Int) - n / 16 % 7), .int .i64 (n / 128 % 9 - 4)] 34))
          have k0 := World.cell?_alloc_new (w := wr) #[Value.int .i64 2, .int .i64 ((p : Int) - n / 16 % 7), .int .i64 (n / 128 % 9 - 4)] 34 0
          have k1 := World.cell?_alloc_new (w := wr) #[Value.int .i64 2, .int .i64 ((p : Int) - n / 16 % 7), .int .i64 (n / 128 % 9 - 4)] 34 1
          have k2 := World.cell?_alloc_new (w := wr) #[Value.int .i64 2, .int .i64 ((p : Int) - n / 16 % 7), .int .i64 (n / 128 % 9 - 4)] 34 2
          generalize wr.alloc _ = V at *
          have hVs := bV.out.size
          have hlo := Lib.hid oV.out.lt
          go_wp2_with (first
            | (at_builtin; refine wpList_append_own _ rfl _ _ 30 rfl w.heap.size 34 i0 _ 3 24 Try.underlying30 hi0'.out hz0'.out hz1'.out hz2'.out rfl (by decide) _ t (flatO (opsN Z t)) rfl (World.ownsRow.alloc oV.out _) ⟨V.heap.size, 0, none⟩ 1 1 [.int .i64 2, .int .i64 ((p : Int) - n / 16 % 7), .int .i64 (n / 128 % 9 - 4)] rfl rfl (three_news _ _ _ _ _) (three_one _ _ _) (by unfold maxLen; omega) (by omega) (by simp; omega) ?_; intro v5 w5 hown5 hgrow5 _; have hown5' := Lib.hid hown5; have hB5 := Lib.hid ((bV.out.alloc hVs _).grown hgrow5 (by simp; omega) (fun j hj => (hlo.out j hj).1)); clear hown5 hgrow5))
          refine ⟨⟨t + 1, by omega, by go_num, ?_, ?_, hB5.out⟩, ?_⟩
          · rw [hat.out, hh.out.1]; rfl
          · rw [hst.out, flatO_snoc, hop.out, hh.out.1, hh.out.2, hv.out]; exact hown5'.out
          · simp [intOf]; omega
        · have hh := Lib.hid (And.intro e1 e2)
          clear e1 e2
          go_upto_region 21 with fail
          have oV := Lib.hid (World.ownsRow.alloc hown'.out (.cells #[.int .i64 3, .int .i64 ((p : Int) + 1 - n / 16 % 8), .int .i64 (n / 128 % 9 - 4)] 34))
          have bV := Lib.hid (hB'.out.alloc hB'.out.size (.cells #[.int .i64 3, .int .i64 ((p : Int) + 1 - n / 16 % 8), .int .i64 (n / 128 % 9 - 4)] 34))
          have k0 := World.cell?_alloc_new (w := wr) #[Value.int .i64 3, .int .i64 ((p : Int) + 1 - n / 16 % 8), .int .i64 (n / 128 % 9 - 4)] 34 0
          have k1 := World.cell?_alloc_new (w := wr) #[Value.int .i64 3, .int .i64 ((p : Int) + 1 - n / 16 % 8), .int .i64 (n / 128 % 9 - 4)] 34 1
          have k2 := World.cell?_alloc_new (w := wr) #[Value.int .i64 3, .int .i64 ((p : Int) + 1 - n / 16 % 8), .int .i64 (n / 128 % 9 - 4)] 34 2
          generalize wr.alloc _ = V at *
          have hVs := bV.out.size
          have hlo := Lib.hid oV.out.lt
          go_wp2_with (first
            | (at_builtin; refine wpList_append_own _ rfl _ _ 30 rfl w.heap.size 34 i0 _ 3 24 Try.underlying30 hi0'.out hz0'.out hz1'.out hz2'.out rfl (by decide) _ t (flatO (opsN Z t)) rfl (World.ownsRow.alloc oV.out _) ⟨V.heap.size, 0, none⟩ 1 1 [.int .i64 3, .int .i64 ((p : Int) + 1 - n / 16 % 8), .int .i64 (n / 128 % 9 - 4)] rfl rfl (three_news _ _ _ _ _) (three_one _ _ _) (by unfold maxLen; omega) (by omega) (by simp; omega) ?_; intro v5 w5 hown5 hgrow5 _; have hown5' := Lib.hid hown5; have hB5 := Lib.hid ((bV.out.alloc hVs _).grown hgrow5 (by simp; omega) (fun j hj => (hlo.out j hj).1)); clear hown5 hgrow5))
          refine ⟨⟨t + 1, by omega, by go_num, ?_, ?_, hB5.out⟩, ?_⟩
          · rw [hat.out, hh.out.1]; rfl
          · rw [hst.out, flatO_snoc, hop.out, hh.out.1, hh.out.2, hv.out]; exact hown5'.out
          · simp [intOf]; omega
        · have hh := Lib.hid (And.intro e1 e2)
          clear e1 e2
          go_upto_region 21 with fail
          have oV := Lib.hid (World.ownsRow.alloc hown'.out (.cells #[.int .i64 3, .int .i64 ((p : Int) + 1 - n / 16 % 8), .int .i64 (n / 128 % 9 - 4)] 34))
          have bV := Lib.hid (hB'.out.alloc hB'.out.size (.cells #[.int .i64 3, .int .i64 ((p : Int) + 1 - n / 16 % 8), .int .i64 (n / 128 % 9 - 4)] 34))
          have k0 := World.cell?_alloc_new (w := wr) #[Value.int .i64 3, .int .i64 ((p : Int) + 1 - n / 16 % 8), .int .i64 (n / 128 % 9 - 4)] 34 0
          have k1 := World.cell?_alloc_new (w := wr) #[Value.int .i64 3, .int .i64 ((p : Int) + 1 - n / 16 % 8), .int .i64 (n / 128 % 9 - 4)] 34 1
          have k2 := World.cell?_alloc_new (w := wr) #[Value.int .i64 3, .int .i64 ((p : Int) + 1 - n / 16 % 8), .int .i64 (n / 128 % 9 - 4)] 34 2
          generalize wr.alloc _ = V at *
          have hVs := bV.out.size
          have hlo := Lib.hid oV.out.lt
          go_wp2_with (first
            | (at_builtin; refine wpList_append_own _ rfl _ _ 30 rfl w.heap.size 34 i0 _ 3 24 Try.underlying30 hi0'.out hz0'.out hz1'.out hz2'.out rfl (by decide) _ t (flatO (opsN Z t)) rfl (World.ownsRow.alloc oV.out _) ⟨V.heap.size, 0, none⟩ 1 1 [.int .i64 3, .int .i64 ((p : Int) + 1 - n / 16 % 8), .int .i64 (n / 128 % 9 - 4)] rfl rfl (three_news _ _ _ _ _) (three_one _ _ _) (by unfold maxLen; omega) (by omega) (by simp; omega) ?_; intro v5 w5 hown5 hgrow5 _; have hown5' := Lib.hid hown5; have hB5 := Lib.hid ((bV.out.alloc hVs _).grown hgrow5 (by simp; omega) (fun j hj => (hlo.out j hj).1)); clear hown5 hgrow5))
          refine ⟨⟨t + 1, by omega, by go_num, ?_, ?_, hB5.out⟩, ?_⟩
          · rw [hat.out, hh.out.1]; rfl
          · rw [hst.out, flatO_snoc, hop.out, hh.out.1, hh.out.2, hv.out]; exact hown5'.out
          · simp [intOf]; omega
        · have hh := Lib.hid (And.intro e1 e2)
          clear e1 e2
          go_upto_region 21 with fail
          have oV := Lib.hid (World.ownsRow.alloc hown'.out (.cells #[.int .i64 0, .int .i64 (n / 16 % 8 - 1), .int .i64 (n / 128 % 9 - 4)] 34))
          have bV := Lib.hid (hB'.out.alloc hB'.out.size (.cells #[.int .i64 0, .int .i64 (n / 16 % 8 - 1), .int .i64 (n / 128 % 9 - 4)] 34))
          have k0 := World.cell?_alloc_new (w := wr) #[Value.int .i64 0, .int .i64 (n / 16 % 8 - 1), .int .i64 (n / 128 % 9 - 4)] 34 0
          have k1 := World.cell?_alloc_new (w := wr) #[Value.int .i64 0, .int .i64 (n / 16 % 8 - 1), .int .i64 (n / 128 % 9 - 4)] 34 1
          have k2 := World.cell?_alloc_new (w := wr) #[Value.int .i64 0, .int .i64 (n / 16 % 8 - 1), .int .i64 (n / 128 % 9 - 4)] 34 2
          generalize wr.alloc _ = V at *
          have hVs := bV.out.size
          have hlo := Lib.hid oV.out.lt
          go_wp2_with (first
            | (at_builtin; refine wpList_append_own _ rfl _ _ 30 rfl w.heap.size 34 i0 _ 3 24 Try.underlying30 hi0'.out hz0'.out hz1'.out hz2'.out rfl (by decide) _ t (flatO (opsN Z t)) rfl (World.ownsRow.alloc oV.out _) ⟨V.heap.size, 0, none⟩ 1 1 [.int .i64 0, .int .i64 (n / 16 % 8 - 1), .int .i64 (n / 128 % 9 - 4)] rfl rfl (three_news _ _ _ _ _) (three_one _ _ _) (by unfold maxLen; omega) (by omega) (by simp; omega) ?_; intro v5 w5 hown5 hgrow5 _; have hown5' := Lib.hid hown5; have hB5 := Lib.hid ((bV.out.alloc hVs _).grown hgrow5 (by simp; omega) (fun j hj => (hlo.out j hj).1)); clear hown5 hgrow5))
          refine ⟨⟨t + 1, by omega, by go_num, ?_, ?_, hB5.out⟩, ?_⟩
          · rw [hat.out, hh.out.1]; go_num
          · rw [hst.out, flatO_snoc, hop.out, hh.out.1, hh.out.2, hv.out]; exact hown5'.out
          · simp [intOf]; omega
      · have d0 : decide (((t : Nat) : Int) < (l : Int)) = true := decide_eq_true (by omega)
        have e : min l 30 = t := by omega
        go_wp2_with fail
        go_ret
        exact ⟨u3, rfl, by rw [e]; exact hown'.out, hB'.out⟩
    · have d0 : decide (((t : Nat) : Int) < (l : Int)) = false := decide_eq_false (by omega)
      have e : min l 30 = t := by omega
      go_wp2_with fail
      go_ret
      exact ⟨u3, rfl, by rw [e]; exact hown'.out, hB'.out⟩
end Go.Proofs.Ytlpacihkmfgegaa
