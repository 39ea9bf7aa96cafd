/- The reference of merkle: Same, Verify. -/
import Derived.Test.YthpdohfekillkaaMkA
import Derived.BigQuiet
import Derived.Deep.DeepCutAuto
import Derived.Deep.CutBlock
namespace Go.Proofs.Ythpdohfekillkaa
open Go.ChangeShapes Go.WideShapes Go.ChangeAt Go.RowKit Go.Shelf
set_option linter.unusedSimpArgs false
set_option linter.unusedVariables false

/-- A row of words, by its cells. -/
theorem WL.shape {w : World} {v : Value} {l : List W64} (h : VL w v (u64s l)) : ∃ a cap, v = .slice a l.length cap ∧ l.length ≤ cap ∧ cap ≤ maxLen ∧
    (0 < l.length → ∃ h off, a = some ⟨h, off, none⟩ ∧ h < w.heap.size ∧ ∀ (i : Nat) (x : W64), l[i]? = some x → w.cell? ⟨h, off + i, none⟩ = some (.int .u64 (x.toNat : Int))) := by
  obtain ⟨a, cap, h1, h2, h3, h4⟩ := h.shape
  rw [u64s_len] at h1 h2 h4
  exact ⟨a, cap, h1, h2, h3, fun hp => let ⟨g, off, e, hg, hc⟩ := h4 hp; ⟨g, off, e, hg, fun i x hi => hc i _ (u64s_at hi)⟩⟩
abbrev lfV (i v : Int) (pv : Value) : Value := .agg #[.int .i64 i, .int .i64 v, pv]
theorem lf_cells (w : World) (i v : Int) (pv : Value) (t : TypeId) : (w.alloc (.cells #[.int .i64 i, .int .i64 v, pv] t)).cell? ⟨w.heap.size, 0, none⟩ = some (.int .i64 i) ∧
    (w.alloc (.cells #[.int .i64 i, .int .i64 v, pv] t)).cell? ⟨w.heap.size, 1, none⟩ = some (.int .i64 v) ∧ (w.alloc (.cells #[.int .i64 i, .int .i64 v, pv] t)).cell? ⟨w.heap.size, 2, none⟩ = some pv := by
  refine ⟨?_, ?_, ?_⟩ <;> rw [World.cell?_alloc_new] <;> rfl

set_option maxHeartbeats 8000000 in
theorem refSame_any (i v j u : Int) (pv qv : Value) (l m : List W64) (w : World) (h : VL w pv (u64s l)) (h' : VL w qv (u64s m)) :
    Calls Try.prog 17 #[.agg #[.int .i64 i, .int .i64 v, pv], .agg #[.int .i64 j, .int .i64 u, qv]] w fun e w' => e = .returned (.bool (decide (i = j ∧ v = u ∧ l = m))) ∧ Below w.heap.size w w' := by
  obtain ⟨a, cap, rfl, h1, h2, h3⟩ := WL.shape h
  obtain ⟨a', cap', rfl, h1', h2', h3'⟩ := WL.shape h'
  clear h h'
  unfold maxLen at h2 h2'
  have hc := Lib.hid h3
  have hd := Lib.hid h3'
  clear h3 h3'
  have hB0 := Lib.hid (below_step (alloc_below w (.cells #[.int .i64 i, .int .i64 v, .slice a l.length cap] 33)) (alloc_below _ (.cells #[.int .i64 j, .int .i64 u, .slice a' m.length cap'] 33)))
  by_cases e1 : i = j
  · subst e1
    by_cases e2 : v = u
    · subst e2
      by_cases e3 : l.length = m.length
      · obtain ⟨n, hn⟩ : ∃ n, n = l.length := ⟨_, rfl⟩
        rw [← hn] at h1 hc hB0 ⊢
        rw [← e3, ← hn] at h1' hd hB0 ⊢
        have hn' := Lib.hid (And.intro hn (hn.trans e3))
        have hdec := Lib.hid (show decide (i = i ∧ v = v ∧ l = m) = decide (l = m) from by simp)
        clear hn e3
        rw [hdec.out]
        go_enter Try.func17, Try.ntmps17
        go_wp2_with fail
        obtain ⟨p0, p1, p2⟩ := lf_cells w i v (.slice a n cap) 33
        obtain ⟨q0, q1, q2⟩ := lf_cells (w.alloc (.cells #[.int .i64 i, .int .i64 v, .slice a n cap] 33)) i v (.slice a' n cap') 33
        replace p2 := carry (alloc_below _ (.cells #[.int .i64 i, .int .i64 v, .slice a' n cap'] 33)) p2
        rw [World.size_alloc] at q2
        clear p0 p1 q0 q1
        generalize (w.alloc (.cells #[.int .i64 i, .int .i64 v, .slice a n cap] 33)).alloc (.cells #[.int .i64 i, .int .i64 v, .slice a' n cap'] 33) = V at *
        go_loopw [5] (fun i wr => ∃ k : Nat, k ≤ n ∧ i = .int .i64 (k : Nat) ∧ (∀ t x y, t < k → l[t]? = some x → m[t]? = some y → x = y) ∧ Below V.heap.size V wr) (fun i _ => n - (intOf i).toNat)
        case atStart => exact ⟨0, Nat.zero_le _, rfl, fun t x y ht => absurd ht (Nat.not_lt_zero _), Below.refl _ _⟩
        case round =>
          obtain ⟨k, hk, rfl, hall, hb⟩ := hrel
          have hall' := Lib.hid hall
          have hb' := Lib.hid hb
          have hbw := Lib.hid (below_step hB0.out hb)
          replace p2 := carry hb p2
          replace q2 := carry hb q2
          clear hall hb
          by_cases hlt : k < n
          · obtain ⟨g, off, rfl, hg, hcc⟩ := hc.out (by omega)
            obtain ⟨g', off', rfl, hg', hdd⟩ := hd.out (by omega)
            obtain ⟨x, hx⟩ : ∃ z, l[k]? = some z := ⟨_, List.getElem?_eq_getElem (by rw [← hn'.out.1]; exact hlt)⟩
            obtain ⟨y, hy⟩ : ∃ z, m[k]? = some z := ⟨_, List.getElem?_eq_getElem (by rw [← hn'.out.2]; exact hlt)⟩
            have c0 := carry hbw.out (hcc k _ hx)
            have c1 := carry hbw.out (hdd k _ hy)
            have hxy := Lib.hid (And.intro hx hy)
            clear hx hy hcc hdd
            by_cases e : x = y
            · subst e
              have b1 := bq_self (x.toNat : Int)
              generalize (x.toNat : Int) = xn at *
              go_wp2_with fail
              go_quiet (fail)
              go_wp2
              go_roundw
              case rel => exact ⟨k + 1, by omega, by go_num, fun t p q ht hp hq => by
                rcases Nat.lt_or_ge t k with hl | hl
                · exact hall'.out t p q hl hp hq
                · obtain rfl : t = k := by omega
                  rw [hxy.out.1] at hp
                  rw [hxy.out.2] at hq
                  cases hp
                  cases hq
                  rfl, below_step hb'.out (below_drewN _ _)⟩
              case measure => simp [intOf]; omega
            · have b1 : ((x.toNat : Int) == (y.toNat : Int)) = false := by rw [bq_toNat]; exact decide_eq_false e
              have hy := Lib.hid (show decide (l = m) = false from decide_eq_false (fun h => e (by
                have h1 := hxy.out.1
                rw [h, hxy.out.2] at h1
                exact (Option.some.inj h1).symm)))
              generalize (x.toNat : Int) = xn at *
              generalize (y.toNat : Int) = yn at *
              clear e
              go_wp2_with fail
              go_quiet (fail)
              go_wp2
              refine bodyPost_ret (v := .bool false) (by simp [results, Try.results17, go_sem]) rfl ⟨by rw [hy.out], below_step hbw.out (below_drewN _ _)⟩
          · obtain rfl : k = n := by omega
            have hy := Lib.hid (show decide (l = m) = true from decide_eq_true (by
              refine List.ext_getElem? fun t => ?_
              rcases Nat.lt_or_ge t k with h | h
              · obtain ⟨p, e1⟩ : ∃ p, l[t]? = some p := ⟨_, List.getElem?_eq_getElem (by rw [← hn'.out.1]; exact h)⟩
                obtain ⟨q, e2⟩ : ∃ p, m[t]? = some p := ⟨_, List.getElem?_eq_getElem (by rw [← hn'.out.2]; exact h)⟩
                rw [e1, e2, hall'.out t _ _ h e1 e2]
              · rw [List.getElem?_eq_none (by rw [← hn'.out.1]; exact h), List.getElem?_eq_none (by rw [← hn'.out.2]; exact h)]))
            go_wp2
            go_ret
            exact ⟨by rw [hy.out]; rfl, hbw.out⟩
      · have hy := Lib.hid (show decide (i = i ∧ v = v ∧ l = m) = false from decide_eq_false fun h => e3 (by rw [h.2.2]))
        have e3' : ¬ (l.length : Int) = (m.length : Int) := by omega
        rw [hy.out]
        generalize l.length = n at *
        generalize m.length = n' at *
        clear e3 hc hd
        go_enter Try.func17, Try.ntmps17
        go_wp2
        go_ret
        exact ⟨rfl, hB0.out⟩
    · have hy := Lib.hid (show decide (i = i ∧ v = u ∧ l = m) = false from decide_eq_false fun h => e2 h.2.1)
      rw [hy.out]
      generalize l.length = n at *
      generalize m.length = n' at *
      clear hc hd
      go_enter Try.func17, Try.ntmps17
      go_wp2
      go_ret
      exact ⟨rfl, hB0.out⟩
  · have hy := Lib.hid (show decide (i = j ∧ v = u ∧ l = m) = false from decide_eq_false fun h => e1 h.1)
    rw [hy.out]
    generalize l.length = n at *
    generalize m.length = n' at *
    clear hc hd
    go_enter Try.func17, Try.ntmps17
    go_wp2
    go_ret
    exact ⟨rfl, hB0.out⟩
end Go.Proofs.Ythpdohfekillkaa
