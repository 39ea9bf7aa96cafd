/- The reference of package unionfind: Has, SameInts, in, New, Same, Union, Edges. -/
import Derived.Test.YtalglkeabppabaaUfI
import Derived.BigQuiet
namespace Go.Proofs.Ytalglkeabppabaa
open Go.ChangeShapes Go.WideShapes Go.ChangeAt Go.RowKit
open Uf
set_option linter.unusedSimpArgs false
set_option linter.unusedVariables false

theorem cells_new (w : World) (cs : List Value) (t : TypeId) (n : Nat) (hn : n = w.heap.size) : ∀ j u, cs[j]? = some u → (w.alloc (.cells cs.toArray t)).cell? ((⟨n, 0, none⟩ : Addr).add j) = some u := fun j u hu => by
  subst hn
  rw [show (⟨w.heap.size, 0, none⟩ : Addr).add j = ⟨w.heap.size, j, none⟩ by simp [Addr.add]; intro h; exact h.symm]
  have := World.cell?_alloc_new (w := w) cs.toArray t j
  rw [this]
  simpa using hu

set_option maxHeartbeats 2000000 in
theorem hasI_any (v : Value) (l : List Int) (n : Int) (w : World) (h : IL w v l) :
    Calls Try.prog 26 #[v, .int .i64 n] w fun e w' => e = .returned (.bool (decide (n ∈ l))) ∧ w = w' := by
  obtain ⟨a, cap, rfl, h1, h2, h3⟩ := h.shape
  clear h
  unfold maxLen at h2
  have h3' := Lib.hid h3
  clear h3
  obtain ⟨m, hm⟩ : ∃ m, m = l.length := ⟨_, rfl⟩
  rw [← hm] at h1 h3' ⊢
  have hm' := Lib.hid hm
  clear hm
  go_enter Try.func26, Try.ntmps26
  go_wp2_with fail
  go_loop [5] (fun i => ∃ k : Nat, k ≤ m ∧ i = .int .i64 (k : Nat) ∧ ∀ t z, t < k → l[t]? = some z → z ≠ n) (fun i => m - (intOf i).toNat)
  case atStart => exact ⟨0, Nat.zero_le _, rfl, fun t z ht => absurd ht (Nat.not_lt_zero _)⟩
  case round =>
    obtain ⟨k, hk, rfl, hno⟩ := hrel
    have hno' := Lib.hid hno
    clear hno
    by_cases hlt : k < m
    · obtain ⟨g, off, rfl, hg, hc⟩ := h3'.out (by omega)
      obtain ⟨z, hz⟩ : ∃ z, l[k]? = some z := ⟨_, List.getElem?_eq_getElem (by rw [← hm'.out]; exact hlt)⟩
      have c0 := hc k _ hz
      have hz' := Lib.hid hz
      clear hz hc
      by_cases e : z = n
      · have hy := Lib.hid (show decide (n ∈ l) = true from decide_eq_true (by rw [← e]; exact List.mem_of_getElem? hz'.out))
        rw [e] at c0
        have b1 : (n == n) = true := by simp
        clear e
        go_wp2
        go_ret
        exact ⟨by rw [hy.out]; rfl, rfl⟩
      · have b1 : (z == n) = false := by simpa using e
        have e' := Lib.hid e
        clear e
        go_wp2
        go_round
        case rel => exact ⟨k + 1, by omega, by go_num, fun t y ht hy => by
          rcases Nat.lt_or_ge t k with hl | hl
          · exact hno'.out t y hl hy
          · obtain rfl : t = k := by omega
            rw [hz'.out] at hy
            cases hy
            exact e'.out⟩
        case measure => simp [intOf]; omega
    · obtain rfl : k = m := by omega
      have hy := Lib.hid (show decide (n ∈ l) = false from decide_eq_false (fun hm => by
        obtain ⟨t, ht, e⟩ := List.getElem_of_mem hm
        exact hno'.out t _ (by rw [hm'.out]; exact ht) (List.getElem?_eq_getElem ht) e))
      go_wp2
      go_ret
      exact ⟨by rw [hy.out]; rfl, rfl⟩

set_option maxHeartbeats 4000000 in
theorem sameI_any (v u : Value) (l m : List Int) (w : World) (h : IL w v l) (h' : IL w u m) :
    Calls Try.prog 28 #[v, u] w fun e w' => e = .returned (.bool (decide (l = m))) ∧ Below w.heap.size w w' := by
  obtain ⟨a, cap, rfl, h1, h2, h3⟩ := h.shape
  obtain ⟨a', cap', rfl, h1', h2', h3'⟩ := h'.shape
  clear h h'
  unfold maxLen at h2 h2'
  have hc := Lib.hid h3
  have hd := Lib.hid h3'
  clear h3 h3'
  by_cases hne : l.length = m.length
  · obtain ⟨n, hn⟩ : ∃ n, n = l.length := ⟨_, rfl⟩
    rw [← hne, ← hn] at h1'
    rw [← hne, ← hn]
    rw [← hn] at h1 hc
    rw [← hne, ← hn] at hd
    have hn' := Lib.hid (And.intro hn (hn.trans hne))
    clear hn hne
    have b0 : ((n : Int) == (n : Int)) = true := by simp
    go_enter Try.func28, Try.ntmps28
    go_wp2_with fail
    go_loopw [5] (fun i wr => ∃ k : Nat, k ≤ n ∧ i = .int .i64 (k : Nat) ∧ (∀ t x y, t < k → l[t]? = some x → m[t]? = some y → x = y) ∧ Below w.heap.size w wr) (fun i _ => n - (intOf i).toNat)
    case atStart => exact ⟨0, Nat.zero_le _, rfl, fun t x y ht => absurd ht (Nat.not_lt_zero _), Below.refl _ _⟩
    case round =>
      obtain ⟨k, hk, rfl, hall, hb⟩ := hrel
      have hall' := Lib.hid hall
      have hb' := Lib.hid hb
      clear hall hb
      by_cases hlt : k < n
      · obtain ⟨g, off, rfl, hg, hcc⟩ := hc.out (by omega)
        obtain ⟨g', off', rfl, hg', hdd⟩ := hd.out (by omega)
        obtain ⟨x, hx⟩ : ∃ z, l[k]? = some z := ⟨_, List.getElem?_eq_getElem (by rw [← hn'.out.1]; exact hlt)⟩
        obtain ⟨y, hy⟩ : ∃ z, m[k]? = some z := ⟨_, List.getElem?_eq_getElem (by rw [← hn'.out.2]; exact hlt)⟩
        have c0 := carry hb'.out (hcc k _ hx)
        have c1 := carry hb'.out (hdd k _ hy)
        have hxy := Lib.hid (And.intro hx hy)
        clear hx hy hcc hdd
        by_cases e : x = y
        · subst e
          have b1 : (x == x) = true := by simp
          go_wp2_with fail
          go_quiet (fail)
          go_wp2
          go_roundw
          case rel => exact ⟨k + 1, by omega, by go_num, fun t p q ht hp hq => by
            rcases Nat.lt_or_ge t k with hl | hl
            · exact hall'.out t p q hl hp hq
            · obtain rfl : t = k := by omega
              rw [hxy.out.1] at hp
              rw [hxy.out.2] at hq
              cases hp
              cases hq
              rfl, below_step hb'.out (below_drewN _ _)⟩
          case measure => simp [intOf]; omega
        · have b1 : (x == y) = false := by simpa using e
          have hy := Lib.hid (show decide (l = m) = false from decide_eq_false (fun h => e (by
            have h1 := hxy.out.1
            rw [h, hxy.out.2] at h1
            exact (Option.some.inj h1).symm)))
          clear e
          go_wp2_with fail
          go_quiet (fail)
          go_wp2
          refine bodyPost_ret (v := .bool false) (by simp [results, Try.results28, go_sem]) rfl ⟨by rw [hy.out], below_step hb'.out (below_drewN _ _)⟩
      · obtain rfl : k = n := by omega
        have hy := Lib.hid (show decide (l = m) = true from decide_eq_true (by
          refine List.ext_getElem? fun t => ?_
          rcases Nat.lt_or_ge t k with h | h
          · obtain ⟨p, e1⟩ : ∃ p, l[t]? = some p := ⟨_, List.getElem?_eq_getElem (by rw [← hn'.out.1]; exact h)⟩
            obtain ⟨q, e2⟩ : ∃ p, m[t]? = some p := ⟨_, List.getElem?_eq_getElem (by rw [← hn'.out.2]; exact h)⟩
            rw [e1, e2, hall'.out t _ _ h e1 e2]
          · rw [List.getElem?_eq_none (by rw [← hn'.out.1]; exact h), List.getElem?_eq_none (by rw [← hn'.out.2]; exact h)]))
        go_wp2
        go_ret
        exact ⟨by rw [hy.out]; rfl, hb'.out⟩
  · have b0 : ((l.length : Int) == (m.length : Int)) = false := by simp only [beq_eq_false_iff_ne, ne_eq]; omega
    have hy := Lib.hid (show decide (l = m) = false from decide_eq_false (fun h => hne (by rw [h])))
    clear hne
    obtain ⟨n, hn⟩ : ∃ n, n = l.length := ⟨_, rfl⟩
    obtain ⟨n', hn'⟩ : ∃ n', n' = m.length := ⟨_, rfl⟩
    rw [← hn] at b0 ⊢
    rw [← hn'] at b0 ⊢
    clear hn hn'
    go_enter Try.func28, Try.ntmps28
    go_wp2
    go_ret
    exact ⟨by rw [hy.out]; rfl, Below.refl _ _⟩

/-! ## in, Same -/
theorem in_any (v : Value) (l : List Int) (a : Int) (w : World) (h : IL w v l) :
    Calls Try.prog 29 #[v, .int .i64 a] w fun e w' => e = .returned (.bool (inB l.length a)) ∧ w = w' := by
  obtain ⟨x, cap, rfl, h1, h2, h3⟩ := h.shape
  unfold maxLen at h2
  clear h3
  obtain ⟨k, hk⟩ : ∃ k, k = l.length := ⟨_, rfl⟩
  rw [← hk] at h1 ⊢
  clear hk
  by_cases a0 : 0 ≤ a
  · by_cases a1 : a < k
    · have hy := Lib.hid (show inB k a = true from inB_iff.2 ⟨a0, a1⟩)
      have d0 : decide (0 ≤ a) = true := by simpa using a0
      go_enter Try.func29, Try.ntmps29
      go_wp2
      go_ret
      exact ⟨by rw [hy.out]; rfl, rfl⟩
    · have hy := Lib.hid (show inB k a = false from by rw [Bool.eq_false_iff]; exact fun e => a1 (inB_iff.1 e).2)
      have d0 : decide (0 ≤ a) = true := by simpa using a0
      go_enter Try.func29, Try.ntmps29
      go_wp2
      go_ret
      exact ⟨by rw [hy.out]; rfl, rfl⟩
  · have hy := Lib.hid (show inB k a = false from by rw [Bool.eq_false_iff]; exact fun e => a0 (inB_iff.1 e).1)
    have d0 : decide (0 ≤ a) = false := by simpa using a0
    go_enter Try.func29, Try.ntmps29
    go_wp2
    go_ret
    exact ⟨by rw [hy.out]; rfl, rfl⟩

/-! ## New: labs n idL -/
set_option maxHeartbeats 2000000 in
theorem refNew_any (n : Nat) (w : World) (hn : n ≤ 10000) :
    Calls Try.prog 13 #[.int .i64 (n : Nat)] w fun e w' => (∃ v, e = .returned v ∧ IL w' v (labs n idL) ∧ ∀ j, v.ownBlock = some j → w.heap.size ≤ j) ∧ Below w.heap.size w w' := by
  obtain ⟨i0, hi0, hz0, hz1, hz2⟩ := info_parts infoU
  have hi0' := Lib.hid hi0; clear hi0
  have hz0' := Lib.hid hz0; clear hz0
  have hz1' := Lib.hid hz1; clear hz1
  have hz2' := Lib.hid hz2; clear hz2
  go_enter Try.func13, Try.ntmps13
  go_wp2_with fail
  go_loopw [3, 4] (fun v i wr => ∃ k : Nat, k ≤ n ∧ i = .int .i64 (k : Nat) ∧ wr.ownsRow w.heap.size 3 1 v k (ints (labs k idL)) ∧ Below w.heap.size w wr) (fun _ i _ => n - (intOf i).toNat)
  case atStart => exact ⟨0, Nat.zero_le _, rfl, World.ownsRow_nil _ _ _ _, Below.refl _ _⟩
  case round =>
    obtain ⟨k, hk, rfl, hown, hb⟩ := hrel
    have hws := hb.size
    by_cases hlt : k < n
    · go_wp2_with (at_builtin; refine wpList_append_own _ rfl _ _ 22 rfl w.heap.size 3 i0 _ 1 8 Try.underlying22 hi0'.out hz0'.out hz1'.out hz2'.out rfl (by decide) _ _ _ rfl (World.ownsRow.alloc hown _) ⟨wr.heap.size, 0, none⟩ 1 1 [.int .i64 (k : Int)] rfl rfl (cells_new _ _ _ _ (by simp)) (by simp [Value.oneCell']) (by unfold maxLen; omega) (by omega) (by simp; omega) ?_; intro v' w2 hown2 hg2 _)
      have hB2 := (below_step hb (alloc_below wr _)).grown hg2 (by simp; omega) (fun j hj => (World.ownsRow.lt hown j hj).1)
      go_wp2_with fail
      go_roundw
      case rel => exact ⟨k + 1, by omega, by go_num, by rw [labs_succ]; unfold ints; rw [List.map_append]; exact hown2, hB2⟩
      case measure => simp [intOf]; omega
    · obtain rfl : k = n := by omega
      have hv := Lib.hid (And.intro (IL.owned hown) (fun j hj => (World.ownsRow.lt hown j hj).1))
      have hb' := Lib.hid hb
      clear hown hb
      go_wp2
      go_ret
      exact ⟨⟨_, rfl, hv.out.1, hv.out.2⟩, hb'.out⟩
end Go.Proofs.Ytalglkeabppabaa
