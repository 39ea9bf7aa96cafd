/- Package merkle: a partial tree as a whole (what it knows of which cells), an unknown cell's Set, and the reference's Has. -/
import Derived.Test.YtknjdkgemkmoeaaMlS
import Derived.Test.YtknjdkgemkmoeaaMlM
import Derived.BigQuiet
namespace Go.Proofs.Ytknjdkgemkmoeaa
open Go.ChangeShapes Go.WideShapes Go.ChangeAt Go.RowKit Go.Shelf
set_option linter.unusedSimpArgs false
set_option linter.unusedVariables false

set_option maxHeartbeats 2000000 in
theorem hasI_any (v : Value) (l : List Int) (n : Int) (w : World) (h : IL w v l) :
    Calls Try.prog 18 #[v, .int .i64 n] w fun e w' => e = .returned (.bool (decide (n ∈ l))) ∧ w = w' := by
  obtain ⟨a, cap, rfl, h1, h2, h3⟩ := h.shape
  clear h
  unfold maxLen at h2
  have h3' := Lib.hid h3
  clear h3
  obtain ⟨m, hm⟩ : ∃ m, m = l.length := ⟨_, rfl⟩
  rw [← hm] at h1 h3' ⊢
  have hm' := Lib.hid hm
  clear hm
  go_enter Try.func18, Try.ntmps18
  go_wp2_with fail
  go_loop [5] (fun i => ∃ k : Nat, k ≤ m ∧ i = .int .i64 (k : Nat) ∧ ∀ t z, t < k → l[t]? = some z → z ≠ n) (fun i => m - (intOf i).toNat)
  case atStart => exact ⟨0, Nat.zero_le _, rfl, fun t z ht => absurd ht (Nat.not_lt_zero _)⟩
  case round =>
    obtain ⟨k, hk, rfl, hno⟩ := hrel
    have hno' := Lib.hid hno
    clear hno
    by_cases hlt : k < m
    · obtain ⟨g, off, rfl, hg, hc⟩ := h3'.out (by omega)
      obtain ⟨z, hz⟩ : ∃ z, l[k]? = some z := ⟨_, List.getElem?_eq_getElem (by rw [← hm'.out]; exact hlt)⟩
      have c0 := hc k _ hz
      have hz' := Lib.hid hz
      clear hz hc
      by_cases e : z = n
      · have hy := Lib.hid (show decide (n ∈ l) = true from decide_eq_true (by rw [← e]; exact List.mem_of_getElem? hz'.out))
        rw [e] at c0
        have b1 : (n == n) = true := by simp
        clear e
        go_wp2
        go_ret
        exact ⟨by rw [hy.out]; rfl, rfl⟩
      · have b1 : (z == n) = false := by simpa using e
        have e' := Lib.hid e
        clear e
        go_wp2
        go_round
        case rel => exact ⟨k + 1, by omega, by go_num, fun t y ht hy => by
          rcases Nat.lt_or_ge t k with hl | hl
          · exact hno'.out t y hl hy
          · obtain rfl : t = k := by omega
            rw [hz'.out] at hy
            cases hy
            exact e'.out⟩
        case measure => simp [intOf]; omega
    · obtain rfl : k = m := by omega
      have hy := Lib.hid (show decide (n ∈ l) = false from decide_eq_false (fun hm => by
        obtain ⟨t, ht, e⟩ := List.getElem_of_mem hm
        exact hno'.out t _ (by rw [hm'.out]; exact ht) (List.getElem?_eq_getElem ht) e))
      go_wp2
      go_ret
      exact ⟨by rw [hy.out]; rfl, rfl⟩

theorem ownsRow_block {w w' : World} {B : Nat} {e : TypeId} {sz : Nat} {v : Value} {n : Nat} {xs : List Value} (h : w.ownsRow B e sz v n xs) (hk : ∀ r, v.ownBlock = some r → w'.heap[r]? = w.heap[r]?) : w'.ownsRow B e sz v n xs := by
  obtain ⟨h1, h2⟩ := h
  rcases h2 with ⟨h3, h4⟩ | ⟨g, cap, cur, rfl, h4, h5, h6⟩
  · exact ⟨h1, .inl ⟨h3, h4⟩⟩
  · exact ⟨h1, .inr ⟨g, cap, cur, rfl, h4, (hk g rfl).trans h5, h6⟩⟩

/-- What a partial tree of C knows, that has learned the cells of own. -/
structure Kn (own : List Int) (C : List Int) (D1 D2 : DataW Unit) : Prop where
  m1 : Maps.IsMap D1
  m2 : Maps.IsMap D2
  bd : ∀ x, x ∈ own → ∃ i : Nat, x = (i : Nat) ∧ i < C.length
  has : ∀ x, Maps.has D1 (.int .i64 x) = decide (x ∈ own)
  val : ∀ (i : Nat) (y : Int), ((i : Nat) : Int) ∈ own → C[i]? = some y → ∀ z, D1.atKey (.int .i64 (i : Nat)) z = .lit (.int .i64 y)
  side : ∀ i : Nat, ((i : Nat) : Int) ∈ own → Side D2 C (ht C.length) i
  top : At D2 (ht C.length) 0 (rootW C)

theorem okL_of {C : List Int} {ls : List Lf} (hof : ∀ (k : Nat) (f : Lf), ls[k]? = some f → Of C f) : okL (rootW C) C.length ls := by
  intro t f hf
  obtain ⟨j, y, hy, e1, e2, e3⟩ := hof t f hf
  refine ⟨by rw [e1, e2, e3]; exact ver_proof hy, fun k h hk hh => ?_⟩
  obtain ⟨j', y', hy', e1', e2', e3'⟩ := hof k h hh
  unfold clash
  by_cases e : h.i = f.i
  · have : j' = j := by rw [e1, e1'] at e; omega
    subst this
    rw [hy] at hy'
    cases hy'
    simp [e2, e2']
  · simp [e]
theorem mem_is {ls : List Lf} {x : Int} : x ∈ ls.map Lf.i ↔ ∃ (k : Nat) (f : Lf), ls[k]? = some f ∧ f.i = x := by
  rw [List.mem_map]
  constructor
  · rintro ⟨f, hf, e⟩
    obtain ⟨k, hk⟩ := List.getElem?_of_mem hf
    exact ⟨k, f, hk, e⟩
  · rintro ⟨k, f, hk, e⟩
    exact ⟨f, List.mem_of_getElem? hk, e⟩
theorem Kn.start {C : List Int} {ls : List Lf} (hC : C.length ≤ 1000) (hof : ∀ (k : Nat) (f : Lf), ls[k]? = some f → Of C f) :
    Kn (ls.map Lf.i) C (valD ls ls.length) (hashD (rootW C) (ht C.length) ls ls.length) := by
  obtain ⟨v1, v2, v3⟩ := valD_inv (root := rootW C) (n := C.length) (ls := ls) ls.length fun q _ => okL_of hof q
  obtain ⟨k1, k2⟩ := hash_known hC hof ls.length (Nat.le_refl _)
  refine ⟨v1, hashD_map _ _ _ _, fun x hx => ?_, fun x => ?_, fun i y hi hy z => ?_, fun i hi => ?_, k1⟩
  · obtain ⟨k, f, hk, rfl⟩ := mem_is.1 hx
    obtain ⟨j, y, hy, e1, _⟩ := hof k f hk
    exact ⟨j, e1, (List.getElem?_eq_some_iff.1 hy).1⟩
  · rw [Bool.eq_iff_iff, v2 x, decide_eq_true_iff, mem_is]
    constructor
    · rintro ⟨k, f, _, hk, e⟩
      exact ⟨k, f, hk, e⟩
    · rintro ⟨k, f, hk, e⟩
      exact ⟨k, f, (List.getElem?_eq_some_iff.1 hk).1, hk, e⟩
  · obtain ⟨k, f, hk, e⟩ := mem_is.1 hi
    obtain ⟨j, y', hy', e1, e2, _⟩ := hof k f hk
    have : j = i := by omega
    subst this
    rw [hy] at hy'
    cases hy'
    have := v3 k f (List.getElem?_eq_some_iff.1 hk).1 hk z
    rw [e, e2] at this
    exact this
  · obtain ⟨k, f, hk, e⟩ := mem_is.1 hi
    have := k2 k f (List.getElem?_eq_some_iff.1 hk).1 hk
    rw [e, Int.toNat_natCast] at this
    exact this
theorem Kn.set {own C : List Int} {D1 D2 : DataW Unit} (h : Kn own C D1 D2) (hC : C.length ≤ 1000) {i : Nat} (hi : ((i : Nat) : Int) ∈ own) (v : Int) :
    Kn own (C.set i v) (D1.put (.int .i64 (i : Nat)) (.lit (.int .i64 v))) (rse D2 i v (fun k => nodeW C k (sib (i / 2 ^ k))) (ht C.length + 1)) := by
  have hiC : i < C.length := by obtain ⟨j, e, hj⟩ := h.bd _ hi; omega
  obtain ⟨r1, r2⟩ := rse_known (v := v) h.m2 hiC hC
  have hl : (C.set i v).length = C.length := List.length_set
  refine ⟨h.m1.put _ _, rse_map h.m2 _ _ _ _, fun x hx => ?_, fun x => ?_, fun j y hj hy z => ?_, fun j hj => ?_, ?_⟩
  · rw [hl]; exact h.bd x hx
  · by_cases e : x = (i : Nat)
    · subst e
      rw [Maps.has_put_same (k := .int .i64 (i : Nat)) h.m1 trivial, decide_eq_true hi]
    · rw [Maps.has_put_other (lit_ne e)]; exact h.has x
  · by_cases e : j = i
    · subst e
      rw [List.getElem?_set_self hiC] at hy
      cases hy
      exact Maps.atKey_put_same (k := .int .i64 (j : Nat)) h.m1 trivial _ _
    · rw [Maps.atKey_put_other (lit_ne (by omega))]
      rw [List.getElem?_set_ne (by omega)] at hy
      exact h.val j y hj hy z
  · rw [hl]
    obtain ⟨j', e, hj'⟩ := h.bd _ hj
    have : j' = j := by omega
    subst this
    exact r2 j' hj' (h.side j' hj)
  · rw [hl]; exact r1

set_option maxRecDepth 100000 in
set_option maxHeartbeats 8000000 in
theorem partSet_no (b b1 b2 H n : Nat) (D1 D2 : DataW Unit) (i v : Int) (w : World) (p : Pa w b b1 b2 H D1 D2 n) (hi : (Lit.int .i64 i).wf = true) (hhas : Maps.has D1 (.int .i64 i) = false) :
    Calls Try.prog 19 #[.pointer (some ⟨b, 0, none⟩), .int .i64 i, .int .i64 v] w fun e w' => e = .returned (.bool false) ∧ Below w.heap.size w w' := by
  obtain ⟨V, hV⟩ : ∃ V, V = w.alloc (.cells #[.pointer (some ⟨b, 0, none⟩)] 32) := ⟨_, rfl⟩
  have hBV : Below w.heap.size w V := by rw [hV]; exact alloc_below _ _
  have hzV : V.heap.size = w.heap.size + 1 := by rw [hV]; simp
  have p0 : V.cell? ⟨w.heap.size, 0, none⟩ = some (.pointer (some ⟨b, 0, none⟩)) := by rw [hV]; simp [go_sem]
  have hP := Lib.hid (p.carry hBV)
  have hlt := p.lt
  have c1 := hP.out.c1
  have hlook := hP.out.look1 hi (Maps.atKey_of_not_has hhas _)
  rw [hhas] at hlook
  have hBV' := Lib.hid hBV
  have m0 := block_lt_of_cell p0
  have m1 := block_lt_of_cell c1
  simp only at m0 m1
  clear p hhas hBV hi
  refine (callsIn_wide (n := 9)).1 (callsIn_of_wp_marks Try.func19 rfl trivial (wpIn_wide.2 ?_) rfl)
  simp only [Try.ntmps19, List.size_toArray, List.length_cons, List.length_nil, Nat.reduceAdd, Nat.reduceSub, Array.replicate_succ, Array.replicate_zero, List.push_toArray, List.append_toArray, List.nil_append, List.cons_append]
  go_upto_region 1 with fail
  rw [← hV]
  clear hV
  go_wp2_with fail
  refine ⟨.bool false, by simp [results, Try.results19, go_sem], rfl, hBV'.out⟩
end Go.Proofs.Ytknjdkgemkmoeaa
