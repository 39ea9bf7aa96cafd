/- The reference's Has and SameInts on slices of integers; Ints of at most eight. (Also in XUfR: one of the two is taken.) -/
import Derived.Test.YtlpacihkmfgegaaCmH
import Derived.Test.YtlpacihkmfgegaaOpen
import Derived.Laws.AppendOwnNone
import Derived.BigQuiet
namespace Go.Proofs.Ytlpacihkmfgegaa
open Go.ChangeShapes Go.WideShapes Go.ChangeAt Go.RowKit
open Cm
set_option linter.unusedSimpArgs false
set_option linter.unusedVariables false

theorem IL.shape {w : World} {v : Value} {l : List Int} (h : IL w v l) : ∃ a cap, v = .slice a l.length cap ∧ l.length ≤ cap ∧ cap ≤ maxLen ∧
    (0 < l.length → ∃ h off, a = some ⟨h, off, none⟩ ∧ h < w.heap.size ∧ ∀ (i : Nat) (z : Int), l[i]? = some z → w.cell? ⟨h, off + i, none⟩ = some (.int .i64 z)) := by
  rcases h.cases with ⟨rfl, a, cap, rfl, h2⟩ | ⟨g, off, cap, rfl, h2, h3, h4, h5, h6⟩
  · exact ⟨a, cap, rfl, Nat.zero_le _, h2, fun h => absurd h (Nat.lt_irrefl 0)⟩
  · exact ⟨_, cap, rfl, h2, h3, fun _ => ⟨g, off, rfl, h5, h6⟩⟩

set_option maxHeartbeats 2000000 in
theorem hasI_any (v : Value) (l : List Int) (n : Int) (w : World) (h : IL w v l) :
    Calls Try.prog 36 #[v, .int .i64 n] w fun e w' => e = .returned (.bool (decide (n ∈ l))) ∧ w = w' := by
  obtain ⟨a, cap, rfl, h1, h2, h3⟩ := h.shape
  clear h
  unfold maxLen at h2
  have h3' := Lib.hid h3
  clear h3
  obtain ⟨m, hm⟩ : ∃ m, m = l.length := ⟨_, rfl⟩
  rw [← hm] at h1 h3' ⊢
  have hm' := Lib.hid hm
  clear hm
  go_enter Try.func36, Try.ntmps36
  go_wp2_with fail
  go_loop [5] (fun i => ∃ k : Nat, k ≤ m ∧ i = .int .i64 (k : Nat) ∧ ∀ t z, t < k → l[t]? = some z → z ≠ n) (fun i => m - (intOf i).toNat)
  case atStart => exact ⟨0, Nat.zero_le _, rfl, fun t z ht => absurd ht (Nat.not_lt_zero _)⟩
  case round =>
    obtain ⟨k, hk, rfl, hno⟩ := hrel
    have hno' := Lib.hid hno
    clear hno
    by_cases hlt : k < m
    · obtain ⟨g, off, rfl, hg, hc⟩ := h3'.out (by omega)
      obtain ⟨z, hz⟩ : ∃ z, l[k]? = some z := ⟨_, List.getElem?_eq_getElem (by rw [← hm'.out]; exact hlt)⟩
      have c0 := hc k _ hz
      have hz' := Lib.hid hz
      clear hz hc
      by_cases e : z = n
      · have hy := Lib.hid (show decide (n ∈ l) = true from decide_eq_true (by rw [← e]; exact List.mem_of_getElem? hz'.out))
        rw [e] at c0
        have b1 : (n == n) = true := by simp
        clear e
        go_wp2
        go_ret
        exact ⟨by rw [hy.out]; rfl, rfl⟩
      · have b1 : (z == n) = false := by simpa using e
        have e' := Lib.hid e
        clear e
        go_wp2
        go_round
        case rel => exact ⟨k + 1, by omega, by go_num, fun t y ht hy => by
          rcases Nat.lt_or_ge t k with hl | hl
          · exact hno'.out t y hl hy
          · obtain rfl : t = k := by omega
            rw [hz'.out] at hy
            cases hy
            exact e'.out⟩
        case measure => simp [intOf]; omega
    · obtain rfl : k = m := by omega
      have hy := Lib.hid (show decide (n ∈ l) = false from decide_eq_false (fun hm => by
        obtain ⟨t, ht, e⟩ := List.getElem_of_mem hm
        exact hno'.out t _ (by rw [hm'.out]; exact ht) (List.getElem?_eq_getElem ht) e))
      go_wp2
      go_ret
      exact ⟨by rw [hy.out]; rfl, rfl⟩

set_option maxHeartbeats 4000000 in
theorem sameI_any (v u : Value) (l m : List Int) (w : World) (h : IL w v l) (h' : IL w u m) :
    Calls Try.prog 21 #[v, u] w fun e w' => e = .returned (.bool (decide (l = m))) ∧ Below w.heap.size w w' := by
  obtain ⟨a, cap, rfl, h1, h2, h3⟩ := h.shape
  obtain ⟨a', cap', rfl, h1', h2', h3'⟩ := h'.shape
  clear h h'
  unfold maxLen at h2 h2'
  have hc := Lib.hid h3
  have hd := Lib.hid h3'
  clear h3 h3'
  by_cases hne : l.length = m.length
  · obtain ⟨n, hn⟩ : ∃ n, n = l.length := ⟨_, rfl⟩
    rw [← hne, ← hn] at h1'
    rw [← hne, ← hn]
    rw [← hn] at h1 hc
    rw [← hne, ← hn] at hd
    have hn' := Lib.hid (And.intro hn (hn.trans hne))
    clear hn hne
    have b0 : ((n : Int) == (n : Int)) = true := by simp
    go_enter Try.func21, Try.ntmps21
    go_wp2_with fail
    go_loopw [5] (fun i wr => ∃ k : Nat, k ≤ n ∧ i = .int .i64 (k : Nat) ∧ (∀ t x y, t < k → l[t]? = some x → m[t]? = some y → x = y) ∧ Below w.heap.size w wr) (fun i _ => n - (intOf i).toNat)
    case atStart => exact ⟨0, Nat.zero_le _, rfl, fun t x y ht => absurd ht (Nat.not_lt_zero _), Below.refl _ _⟩
    case round =>
      obtain ⟨k, hk, rfl, hall, hb⟩ := hrel
      have hall' := Lib.hid hall
      have hb' := Lib.hid hb
      clear hall hb
      by_cases hlt : k < n
      · obtain ⟨g, off, rfl, hg, hcc⟩ := hc.out (by omega)
        obtain ⟨g', off', rfl, hg', hdd⟩ := hd.out (by omega)
        obtain ⟨x, hx⟩ : ∃ z, l[k]? = some z := ⟨_, List.getElem?_eq_getElem (by rw [← hn'.out.1]; exact hlt)⟩
        obtain ⟨y, hy⟩ : ∃ z, m[k]? = some z := ⟨_, List.getElem?_eq_getElem (by rw [← hn'.out.2]; exact hlt)⟩
        have c0 := carry hb'.out (hcc k _ hx)
        have c1 := carry hb'.out (hdd k _ hy)
        have hxy := Lib.hid (And.intro hx hy)
        clear hx hy hcc hdd
        by_cases e : x = y
        · subst e
          have b1 : (x == x) = true := by simp
          go_wp2_with fail
          go_quiet (fail)
          go_wp2
          go_roundw
          case rel => exact ⟨k + 1, by omega, by go_num, fun t p q ht hp hq => by
            rcases Nat.lt_or_ge t k with hl | hl
            · exact hall'.out t p q hl hp hq
            · obtain rfl : t = k := by omega
              rw [hxy.out.1] at hp
              rw [hxy.out.2] at hq
              cases hp
              cases hq
              rfl, below_step hb'.out (below_drewN _ _)⟩
          case measure => simp [intOf]; omega
        · have b1 : (x == y) = false := by simpa using e
          have hy := Lib.hid (show decide (l = m) = false from decide_eq_false (fun h => e (by
            have h1 := hxy.out.1
            rw [h, hxy.out.2] at h1
            exact (Option.some.inj h1).symm)))
          clear e
          go_wp2_with fail
          go_quiet (fail)
          go_wp2
          refine bodyPost_ret (v := .bool false) (by simp [results, Try.results21, go_sem]) rfl ⟨by rw [hy.out], below_step hb'.out (below_drewN _ _)⟩
      · obtain rfl : k = n := by omega
        have hy := Lib.hid (show decide (l = m) = true from decide_eq_true (by
          refine List.ext_getElem? fun t => ?_
          rcases Nat.lt_or_ge t k with h | h
          · obtain ⟨p, e1⟩ : ∃ p, l[t]? = some p := ⟨_, List.getElem?_eq_getElem (by rw [← hn'.out.1]; exact h)⟩
            obtain ⟨q, e2⟩ : ∃ p, m[t]? = some p := ⟨_, List.getElem?_eq_getElem (by rw [← hn'.out.2]; exact h)⟩
            rw [e1, e2, hall'.out t _ _ h e1 e2]
          · rw [List.getElem?_eq_none (by rw [← hn'.out.1]; exact h), List.getElem?_eq_none (by rw [← hn'.out.2]; exact h)]))
        go_wp2
        go_ret
        exact ⟨by rw [hy.out]; rfl, hb'.out⟩
  · have b0 : ((l.length : Int) == (m.length : Int)) = false := by simp only [beq_eq_false_iff_ne, ne_eq]; omega
    have hy := Lib.hid (show decide (l = m) = false from decide_eq_false (fun h => hne (by rw [h])))
    clear hne
    obtain ⟨n, hn⟩ : ∃ n, n = l.length := ⟨_, rfl⟩
    obtain ⟨n', hn'⟩ : ∃ n', n' = m.length := ⟨_, rfl⟩
    rw [← hn] at b0 ⊢
    rw [← hn'] at b0 ⊢
    clear hn hn'
    go_enter Try.func21, Try.ntmps21
    go_wp2
    go_ret
    exact ⟨by rw [hy.out]; rfl, Below.refl _ _⟩


/-! ## Ints: at most eight -/
def few (Z : Nat → Int) (l : Nat) : List Int := (List.range (min l 8)).map Z
theorem few_len (Z : Nat → Int) (l : Nat) : (few Z l).length = min l 8 := by unfold few; simp
theorem few_at (Z : Nat → Int) {l i : Nat} (h : i < min l 8) : (few Z l)[i]? = some (Z i) := by unfold few; rw [List.getElem?_map, List.getElem?_range h]; rfl
theorem IntsAt.il {w : World} {v : Value} {Z : Nat → Int} {l : Nat} (h : IntsAt w v 1 Z l) : IL w v ((List.range l).map Z) := by
  obtain ⟨a, cap, rfl, h1, h2, hZ, h3⟩ := h
  have hl : (ints ((List.range l).map Z)).length = l := by rw [ints_length]; simp
  refine ⟨a, cap, by rw [hl], by rw [hl]; exact h1, h2, ?_⟩
  rcases h3 with rfl | ⟨g, off, rfl, h4⟩
  · exact .inl rfl
  · rcases Nat.eq_zero_or_pos l with rfl | hp
    · exact .inl rfl
    · refine .inr ⟨g, off, rfl, block_lt_of_cell (h4 0 (by omega)), fun i u hu => ?_⟩
      have hi : i < l := by rw [← hl]; exact (List.getElem?_eq_some_iff.1 hu).1
      have e : (ints ((List.range l).map Z))[i]? = some (.int .i64 (Z i)) := ints_at (by simp [hi])
      rw [e] at hu
      cases hu
      exact h4 i (by omega)
set_option maxHeartbeats 2000000 in
theorem ints8S_any (ad : Addr) (cap l : Nat) (Z : Nat → Int) (w : World) (hl : l ≤ cap) (hm : cap ≤ maxLen)
    (hc : ∀ j u, (ints (few Z l))[j]? = some u → w.cell? (ad.add j) = some u) :
    Calls Try.prog 29 #[.slice (some ad) l cap, .int .i64 8] w fun e w' => (∃ v, e = .returned v ∧ w'.ownsRow w.heap.size 3 1 v (few Z l).length (ints (few Z l))) ∧ Below w.heap.size w w' := by
  obtain ⟨i0, hi0, hz0, hz1, hz2⟩ := info_parts info_int
  have hi0' := Lib.hid hi0; clear hi0
  have hz0' := Lib.hid hz0; clear hz0
  have hz1' := Lib.hid hz1; clear hz1
  have hz2' := Lib.hid hz2; clear hz2
  have hc' := Lib.hid hc; clear hc
  have hln := Lib.hid (show (min (l : Int) 8).toNat = (few Z l).length from by rw [few_len]; omega)
  have hl1 := Lib.hid (show (ints (few Z l)).length = (min (l : Int) 8).toNat * 1 from by rw [ints_length, hln.out, Nat.mul_one])
  unfold maxLen at hm
  go_enter Try.func29, Try.ntmps29
  go_wp2_with (at_builtin; refine wpList_append_own _ rfl _ _ 22 rfl w.heap.size 3 i0 _ 1 8 Try.underlying22 hi0'.out hz0'.out hz1'.out hz2'.out rfl (by decide) _ 0 [] rfl (World.ownsRow_nil _ _ _ _) ad (min (l : Int) 8).toNat cap (ints (few Z l)) rfl hl1.out hc'.out (ints_one' _) (by unfold maxLen; omega) (by omega) (Nat.le_refl _) ?_; intro v' w2 hown2 hg2 _)
  have hB2 := (Below.refl w.heap.size w).grown hg2 (Nat.le_refl _) (fun j hj => by cases hj)
  simp only [Nat.zero_add, List.nil_append] at hown2
  rw [hln.out] at hown2
  have hi := Lib.hid hown2
  clear hown2
  go_wp2
  go_ret
  exact ⟨⟨_, rfl, hi.out⟩, hB2⟩
set_option maxHeartbeats 2000000 in
theorem ints8E_any (w : World) :
    Calls Try.prog 29 #[.slice none 0 0, .int .i64 8] w fun e w' => e = .returned (.slice none 0 0) ∧ Below w.heap.size w w' := by
  obtain ⟨i0, hi0, hz0, hz1, hz2⟩ := info_parts info_int
  have hi0' := Lib.hid hi0; clear hi0 hz0 hz1 hz2
  go_enter Try.func29, Try.ntmps29
  go_wp2_with (at_builtin; refine wpList_append_own_none rfl _ _ 22 rfl w.heap.size 3 i0 1 Try.underlying22 hi0'.out _ 0 [] rfl (World.ownsRow_nil _ _ _ _) rfl ?_)
  go_ret
  exact ⟨rfl, Below.refl _ _⟩
theorem ints8_any (v : Value) (Z : Nat → Int) (l : Nat) (w : World) (h : IntsAt w v 1 Z l) (hn : ∀ n c, v = .slice none n c → v = .slice none 0 0) :
    Calls Try.prog 29 #[v, .int .i64 8] w fun e w' => (∃ v, e = .returned v ∧ w'.ownsRow w.heap.size 3 1 v (few Z l).length (ints (few Z l))) ∧ Below w.heap.size w w' := by
  obtain ⟨a, cap, rfl, h1, h2, h3, h4⟩ := h
  cases a with
  | none =>
    have e := hn _ _ rfl
    simp only [Value.slice.injEq, true_and] at e
    obtain ⟨rfl, rfl⟩ := e
    refine (ints8E_any w).mono ?_
    rintro e w' ⟨rfl, hb⟩
    exact ⟨⟨_, rfl, World.ownsRow_nil _ _ _ _⟩, hb⟩
  | some ad =>
    refine ints8S_any ad cap l Z w h1 h2 fun j u hu => ?_
    have hj : j < min l 8 := by have := (List.getElem?_eq_some_iff.1 hu).1; rw [ints_length, few_len] at this; exact this
    rw [ints_at (few_at Z hj)] at hu
    cases hu
    rcases h4 with rfl | ⟨g, off, e, h5⟩
    · omega
    · cases e
      rw [add_plain]
      exact h5 j (by omega)
end Go.Proofs.Ytlpacihkmfgegaa
