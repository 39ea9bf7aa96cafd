/- SameInts, SameBytes; an argument of integers as a list. -/
import Derived.Test.YtknjdkgemkmoeaaHaK
import Derived.BigQuiet
namespace Go.Proofs.Ytknjdkgemkmoeaa
open Go.ChangeShapes Go.WideShapes Go.ChangeAt Go.RowKit Go.Shelf
set_option linter.unusedSimpArgs false
set_option linter.unusedVariables false

theorem IntsAt.il {w : World} {v : Value} {Z : Nat → Int} {l : Nat} (h : IntsAt w v 1 Z l) : IL w v ((List.range l).map Z) := by
  obtain ⟨a, cap, rfl, h1, h2, hZ, h3⟩ := h
  have hl : (ints ((List.range l).map Z)).length = l := by rw [ints_length]; simp
  refine ⟨a, cap, by rw [hl], by rw [hl]; exact h1, h2, ?_⟩
  rcases h3 with rfl | ⟨g, off, rfl, h4⟩
  · exact .inl rfl
  · rcases Nat.eq_zero_or_pos l with rfl | hp
    · exact .inl rfl
    · refine .inr ⟨g, off, rfl, block_lt_of_cell (h4 0 (by omega)), fun i u hu => ?_⟩
      have hi : i < l := by rw [← hl]; exact (List.getElem?_eq_some_iff.1 hu).1
      have e : (ints ((List.range l).map Z))[i]? = some (.int .i64 (Z i)) := ints_at (by simp [hi])
      rw [e] at hu
      cases hu
      exact h4 i (by omega)
set_option maxHeartbeats 4000000 in
theorem sameI_any (v u : Value) (l m : List Int) (w : World) (h : IL w v l) (h' : IL w u m) :
    Calls Try.prog 39 #[v, u] w fun e w' => e = .returned (.bool (decide (l = m))) ∧ Below w.heap.size w w' := by
  obtain ⟨a, cap, rfl, h1, h2, h3⟩ := h.shape
  obtain ⟨a', cap', rfl, h1', h2', h3'⟩ := h'.shape
  clear h h'
  unfold maxLen at h2 h2'
  have hc := Lib.hid h3
  have hd := Lib.hid h3'
  clear h3 h3'
  by_cases hne : l.length = m.length
  · obtain ⟨n, hn⟩ : ∃ n, n = l.length := ⟨_, rfl⟩
    rw [← hne, ← hn] at h1'
    rw [← hne, ← hn]
    rw [← hn] at h1 hc
    rw [← hne, ← hn] at hd
    have hn' := Lib.hid (And.intro hn (hn.trans hne))
    clear hn hne
    have b0 : ((n : Int) == (n : Int)) = true := by simp
    go_enter Try.func39, Try.ntmps39
    go_wp2_with fail
    go_loopw [5] (fun i wr => ∃ k : Nat, k ≤ n ∧ i = .int .i64 (k : Nat) ∧ (∀ t x y, t < k → l[t]? = some x → m[t]? = some y → x = y) ∧ Below w.heap.size w wr) (fun i _ => n - (intOf i).toNat)
    case atStart => exact ⟨0, Nat.zero_le _, rfl, fun t x y ht => absurd ht (Nat.not_lt_zero _), Below.refl _ _⟩
    case round =>
      obtain ⟨k, hk, rfl, hall, hb⟩ := hrel
      have hall' := Lib.hid hall
      have hb' := Lib.hid hb
      clear hall hb
      by_cases hlt : k < n
      · obtain ⟨g, off, rfl, hg, hcc⟩ := hc.out (by omega)
        obtain ⟨g', off', rfl, hg', hdd⟩ := hd.out (by omega)
        obtain ⟨x, hx⟩ : ∃ z, l[k]? = some z := ⟨_, List.getElem?_eq_getElem (by rw [← hn'.out.1]; exact hlt)⟩
        obtain ⟨y, hy⟩ : ∃ z, m[k]? = some z := ⟨_, List.getElem?_eq_getElem (by rw [← hn'.out.2]; exact hlt)⟩
        have c0 := carry hb'.out (hcc k _ hx)
        have c1 := carry hb'.out (hdd k _ hy)
        have hxy := Lib.hid (And.intro hx hy)
        clear hx hy hcc hdd
        by_cases e : x = y
        · subst e
          have b1 : (x == x) = true := by simp
          go_wp2_with fail
          go_quiet (fail)
          go_wp2
          go_roundw
          case rel => exact ⟨k + 1, by omega, by go_num, fun t p q ht hp hq => by
            rcases Nat.lt_or_ge t k with hl | hl
            · exact hall'.out t p q hl hp hq
            · obtain rfl : t = k := by omega
              rw [hxy.out.1] at hp
              rw [hxy.out.2] at hq
              cases hp
              cases hq
              rfl, below_step hb'.out (below_drewN _ _)⟩
          case measure => simp [intOf]; omega
        · have b1 : (x == y) = false := by simpa using e
          have hy := Lib.hid (show decide (l = m) = false from decide_eq_false (fun h => e (by
            have h1 := hxy.out.1
            rw [h, hxy.out.2] at h1
            exact (Option.some.inj h1).symm)))
          clear e
          go_wp2_with fail
          go_quiet (fail)
          go_wp2
          refine bodyPost_ret (v := .bool false) (by simp [results, Try.results39, go_sem]) rfl ⟨by rw [hy.out], below_step hb'.out (below_drewN _ _)⟩
      · obtain rfl : k = n := by omega
        have hy := Lib.hid (show decide (l = m) = true from decide_eq_true (by
          refine List.ext_getElem? fun t => ?_
          rcases Nat.lt_or_ge t k with h | h
          · obtain ⟨p, e1⟩ : ∃ p, l[t]? = some p := ⟨_, List.getElem?_eq_getElem (by rw [← hn'.out.1]; exact h)⟩
            obtain ⟨q, e2⟩ : ∃ p, m[t]? = some p := ⟨_, List.getElem?_eq_getElem (by rw [← hn'.out.2]; exact h)⟩
            rw [e1, e2, hall'.out t _ _ h e1 e2]
          · rw [List.getElem?_eq_none (by rw [← hn'.out.1]; exact h), List.getElem?_eq_none (by rw [← hn'.out.2]; exact h)]))
        go_wp2
        go_ret
        exact ⟨by rw [hy.out]; rfl, hb'.out⟩
  · have b0 : ((l.length : Int) == (m.length : Int)) = false := by simp only [beq_eq_false_iff_ne, ne_eq]; omega
    have hy := Lib.hid (show decide (l = m) = false from decide_eq_false (fun h => hne (by rw [h])))
    clear hne
    obtain ⟨n, hn⟩ : ∃ n, n = l.length := ⟨_, rfl⟩
    obtain ⟨n', hn'⟩ : ∃ n', n' = m.length := ⟨_, rfl⟩
    rw [← hn] at b0 ⊢
    rw [← hn'] at b0 ⊢
    clear hn hn'
    go_enter Try.func39, Try.ntmps39
    go_wp2
    go_ret
    exact ⟨by rw [hy.out]; rfl, Below.refl _ _⟩


/-! ## The helpers at the law's numbers -/
theorem ints12 (v : Value) (l : List Int) (w : World) (h : IL w v l) (hnn : ∀ n c, v = .slice none n c → v = .slice none 0 0) : Calls Try.prog 42 #[v, .int .i64 12] w fun e w' => (∃ v, e = .returned v ∧ w'.ownsRow w.heap.size 3 1 v (l.take 12).length (ints (l.take 12))) ∧ Below w.heap.size w w' := ints_any v l 12 w h hnn (by decide)
theorem ints9 (v : Value) (l : List Int) (w : World) (h : IL w v l) (hnn : ∀ n c, v = .slice none n c → v = .slice none 0 0) : Calls Try.prog 42 #[v, .int .i64 9] w fun e w' => (∃ v, e = .returned v ∧ w'.ownsRow w.heap.size 3 1 v (l.take 9).length (ints (l.take 9))) ∧ Below w.heap.size w w' := ints_any v l 9 w h hnn (by decide)
theorem ints10 (v : Value) (l : List Int) (w : World) (h : IL w v l) (hnn : ∀ n c, v = .slice none n c → v = .slice none 0 0) : Calls Try.prog 42 #[v, .int .i64 10] w fun e w' => (∃ v, e = .returned v ∧ w'.ownsRow w.heap.size 3 1 v (l.take 10).length (ints (l.take 10))) ∧ Below w.heap.size w w' := ints_any v l 10 w h hnn (by decide)
theorem ints6 (v : Value) (l : List Int) (w : World) (h : IL w v l) (hnn : ∀ n c, v = .slice none n c → v = .slice none 0 0) : Calls Try.prog 42 #[v, .int .i64 6] w fun e w' => (∃ v, e = .returned v ∧ w'.ownsRow w.heap.size 3 1 v (l.take 6).length (ints (l.take 6))) ∧ Below w.heap.size w w' := ints_any v l 6 w h hnn (by decide)

/-- A word out of an argument. -/
theorem lit_word {n : Int} (h : (Lit.int .u64 n).wf = true) : ∃ x : W64, n = (x.toNat : Int) := by
  have h1 : IntKind.u64.min = 0 := rfl
  have h2 : IntKind.u64.max = 18446744073709551615 := rfl
  simp only [Lit.wf, Bool.and_eq_true, decide_eq_true_eq] at h
  refine ⟨BitVec.ofInt 64 n, ?_⟩
  rw [BitVec.toNat_ofInt]
  omega
theorem ByRow.few {w : World} {B : Nat} {e : TypeId} {v : Value} {q : Nat} {L : List Nat} (h : w.ownsRow B e 1 v (L.take q).length (byts (L.take q))) (hB : Byt L) :
    ∃ a m cap, v = .slice a m cap ∧ m ≤ q ∧ ByRow w (fun r => r < w.heap.size) a m cap (L.take q) ∧ (a = none → cap = 0) := by
  obtain ⟨a, cap, h1, h2, h3⟩ := ByRow.owned h fun b hb => hB b (List.mem_of_mem_take hb)
  exact ⟨a, _, cap, h1, by rw [List.length_take]; omega, h2, h3⟩
theorem take_small {α : Type} (L : List α) {q : Nat} (hq : q ≤ 100) : (L.take q).length ≤ 1000 := by rw [List.length_take]; omega
theorem size_small {r : ByteArray} {q : Nat} (h : r.size ≤ q) (hq : q ≤ 100) : r.size ≤ 1000 := by omega
theorem ByRow.up {w w' : World} {a : Option Addr} {n cap : Nat} {L : List Nat} (h : ByRow w (fun r => r < w.heap.size) a n cap L) (hb : Below w.heap.size w w') : ByRow w' (fun r => r < w'.heap.size) a n cap L :=
  (h.carry hb).mono fun r hr => Nat.lt_of_lt_of_le hr hb.size
theorem beq_self_int (z : Int) : (z == z) = true := by simp
end Go.Proofs.Ytknjdkgemkmoeaa
