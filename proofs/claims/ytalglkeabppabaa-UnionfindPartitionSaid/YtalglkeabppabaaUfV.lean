/- Lists of groups compared; the reference's Islands; the example; the sets behind some merges. -/
import Derived.Test.YtalglkeabppabaaUfT
namespace Go.Proofs.Ytalglkeabppabaa
open Go.ChangeShapes Go.WideShapes Go.ChangeAt Go.RowKit
open Uf
set_option linter.unusedSimpArgs false
set_option linter.unusedVariables false

theorem GL.shape {w : World} {v : Value} {gs : List (List Int)} (h : GL w v gs) : ∃ a cap, v = .slice a gs.length cap ∧ gs.length ≤ cap ∧ cap ≤ maxLen ∧
    (0 < gs.length → ∃ g off, a = some ⟨g, off, none⟩ ∧ g < w.heap.size ∧ ∀ (i : Nat) (l : List Int), gs[i]? = some l → ∃ b n c, w.cell? ⟨g, off + i, none⟩ = some (.slice b n c) ∧ IL w (.slice b n c) l) := by
  rcases h.cases with ⟨rfl, a, cap, rfl, h2⟩ | ⟨g, off, cap, rfl, h2, h3, h4, h5, h6⟩
  · exact ⟨a, cap, rfl, Nat.zero_le _, h2, fun h => absurd h (Nat.lt_irrefl 0)⟩
  · refine ⟨_, cap, rfl, h2, h3, fun _ => ⟨g, off, rfl, h5, fun i l hl => ?_⟩⟩
    obtain ⟨x, hx, hi⟩ := h6 i l hl
    obtain ⟨b, c, rfl, _⟩ := hi.shape
    exact ⟨b, _, c, hx, hi⟩

set_option maxRecDepth 100000 in
set_option maxHeartbeats 8000000 in
theorem equalG_any (v u : Value) (gs hs : List (List Int)) (w : World) (h : GL w v gs) (h' : GL w u hs) :
    Calls Try.prog 19 #[v, u] w fun e w' => e = .returned (.bool (decide (gs = hs))) ∧ Below w.heap.size w w' := by
  obtain ⟨a, cap, rfl, h1, h2, h3⟩ := h.shape
  obtain ⟨a', cap', rfl, h1', h2', h3'⟩ := h'.shape
  clear h h'
  unfold maxLen at h2 h2'
  have hc := Lib.hid h3
  have hd := Lib.hid h3'
  clear h3 h3'
  by_cases hne : gs.length = hs.length
  · obtain ⟨n, hn⟩ : ∃ n, n = gs.length := ⟨_, rfl⟩
    rw [← hne, ← hn] at h1'
    rw [← hne, ← hn]
    rw [← hn] at h1 hc
    rw [← hne, ← hn] at hd
    have hn' := Lib.hid (And.intro hn (hn.trans hne))
    clear hn hne
    have b0 : ((n : Int) == (n : Int)) = true := by simp
    go_enter Try.func19, Try.ntmps19
    go_wp2_with fail
    go_loopw [5] (fun i wr => ∃ k : Nat, k ≤ n ∧ i = .int .i64 (k : Nat) ∧ (∀ t x y, t < k → gs[t]? = some x → hs[t]? = some y → x = y) ∧ Below w.heap.size w wr) (fun i _ => n - (intOf i).toNat)
    case atStart => exact ⟨0, Nat.zero_le _, rfl, fun t x y ht => absurd ht (Nat.not_lt_zero _), Below.refl _ _⟩
    case round =>
      obtain ⟨k, hk, rfl, hall, hb⟩ := hrel
      have hall' := Lib.hid hall
      have hb' := Lib.hid hb
      clear hall hb
      by_cases hlt : k < n
      · obtain ⟨g, off, rfl, hg, hcc⟩ := hc.out (by omega)
        obtain ⟨g', off', rfl, hg', hdd⟩ := hd.out (by omega)
        obtain ⟨x, hx⟩ : ∃ z, gs[k]? = some z := ⟨_, List.getElem?_eq_getElem (by rw [← hn'.out.1]; exact hlt)⟩
        obtain ⟨y, hy⟩ : ∃ z, hs[k]? = some z := ⟨_, List.getElem?_eq_getElem (by rw [← hn'.out.2]; exact hlt)⟩
        obtain ⟨b1, n1, k1, c0, i0⟩ := hcc k _ hx
        obtain ⟨b2, n2, k2, c1, i1⟩ := hdd k _ hy
        replace c0 := carry hb'.out c0
        replace c1 := carry hb'.out c1
        have ii := Lib.hid (And.intro (i0.carry hb'.out) (i1.carry hb'.out))
        have hxy := Lib.hid (And.intro hx hy)
        clear hx hy hcc hdd i0 i1
        have kk := Lib.hid (fun W (hW : Below wr.heap.size wr W) => sameI_any (.slice b1 n1 k1) (.slice b2 n2 k2) x y W (ii.out.1.carry hW) (ii.out.2.carry hW))
        by_cases e : x = y
        · have he := Lib.hid (show decide (x = y) = true from decide_eq_true e)
          rw [he.out] at kk
          have e' := Lib.hid e
          clear e
          go_upto_region 6 with fail
          refine wp_region_made (by kernel_rfl) (by kernel_rfl) ?_
          intro W hK
          have g_c0 := fun x => carry ((hK.below x)) c0
          have g_c1 := fun x => carry ((hK.below x)) c1
          repeat (go_big_quiet_step ((go_at_call 28; with_reducible exact met_made (kk.out _ (hK.below _)))))
          refine wpQuiet_nil ?_
          intro wq hw'
          have hbq := kept_in hK hw'
          clear g_c0 g_c1
          clear hw' hK W
          replace c0 := carry (hbq) c0
          replace c1 := carry (hbq) c1
          go_wp2_with fail
          go_roundw
          case rel => exact ⟨k + 1, by omega, by go_num, fun t p q ht hp hq => by
            rcases Nat.lt_or_ge t k with hl | hl
            · exact hall'.out t p q hl hp hq
            · obtain rfl : t = k := by omega
              rw [hxy.out.1] at hp
              rw [hxy.out.2] at hq
              cases hp
              cases hq
              exact e'.out, below_step hb'.out hbq⟩
          case measure => simp [intOf]; omega
        · have he := Lib.hid (show decide (x = y) = false from decide_eq_false e)
          rw [he.out] at kk
          have hy := Lib.hid (show decide (gs = hs) = false from decide_eq_false (fun h => e (by
            have h1 := hxy.out.1
            rw [h, hxy.out.2] at h1
            exact (Option.some.inj h1).symm)))
          clear e
          go_upto_region 6 with fail
          refine wp_region_made (by kernel_rfl) (by kernel_rfl) ?_
          intro W hK
          have g_c0 := fun x => carry ((hK.below x)) c0
          have g_c1 := fun x => carry ((hK.below x)) c1
          repeat (go_big_quiet_step ((go_at_call 28; with_reducible exact met_made (kk.out _ (hK.below _)))))
          refine wpQuiet_nil ?_
          intro wq hw'
          have hbq := kept_in hK hw'
          clear g_c0 g_c1
          clear hw' hK W
          replace c0 := carry (hbq) c0
          replace c1 := carry (hbq) c1
          have hbq' := Lib.hid hbq
          clear hbq
          go_wp2
          refine bodyPost_ret (v := .bool false) (by simp [results, Try.results19, go_sem]) rfl ⟨by rw [hy.out], below_step hb'.out hbq'.out⟩
      · obtain rfl : k = n := by omega
        have hy := Lib.hid (show decide (gs = hs) = true from decide_eq_true (by
          refine List.ext_getElem? fun t => ?_
          rcases Nat.lt_or_ge t k with h | h
          · obtain ⟨p, e1⟩ : ∃ p, gs[t]? = some p := ⟨_, List.getElem?_eq_getElem (by rw [← hn'.out.1]; exact h)⟩
            obtain ⟨q, e2⟩ : ∃ p, hs[t]? = some p := ⟨_, List.getElem?_eq_getElem (by rw [← hn'.out.2]; exact h)⟩
            rw [e1, e2, hall'.out t _ _ h e1 e2]
          · rw [List.getElem?_eq_none (by rw [← hn'.out.1]; exact h), List.getElem?_eq_none (by rw [← hn'.out.2]; exact h)]))
        go_wp2
        go_ret
        exact ⟨by rw [hy.out]; rfl, hb'.out⟩
  · have b0 : ((gs.length : Int) == (hs.length : Int)) = false := by simp only [beq_eq_false_iff_ne, ne_eq]; omega
    have hy := Lib.hid (show decide (gs = hs) = false from decide_eq_false (fun h => hne (by rw [h])))
    clear hne
    obtain ⟨n, hn⟩ : ∃ n, n = gs.length := ⟨_, rfl⟩
    obtain ⟨n', hn'⟩ : ∃ n', n' = hs.length := ⟨_, rfl⟩
    rw [← hn] at b0 ⊢
    rw [← hn'] at b0 ⊢
    clear hn hn'
    go_enter Try.func19, Try.ntmps19
    go_wp2
    go_ret
    exact ⟨by rw [hy.out]; rfl, Below.refl _ _⟩
end Go.Proofs.Ytalglkeabppabaa
