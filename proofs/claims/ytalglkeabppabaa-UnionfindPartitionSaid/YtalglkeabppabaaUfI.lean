/- Package unionfind: Islands. -/
import Derived.Test.YtalglkeabppabaaUfH
namespace Go.Proofs.Ytalglkeabppabaa
open Go.ChangeShapes Go.WideShapes Go.ChangeAt Go.RowKit
open Uf
set_option linter.unusedSimpArgs false
set_option linter.unusedVariables false

theorem play_succ (k : Nat) (f : Nat → Int) (E : List (Int × Int)) {i : Nat} {p : Int × Int} (h : E[i]? = some p) : playF k f (E.take (i + 1)) = uniF k (playF k f (E.take i)) p.1 p.2 := by
  unfold playF
  rw [List.take_add_one, h, Option.toList_some, List.foldl_append]
  rfl
theorem PL.shape {w : World} {v : Value} {E : List (Int × Int)} (h : PL w v E) : ∃ a cap, v = .slice a E.length cap ∧ E.length ≤ cap ∧ cap ≤ maxLen ∧
    (0 < E.length → ∃ g off, a = some ⟨g, off, none⟩ ∧ g < w.heap.size ∧ ∀ (i : Nat) (p : Int × Int), E[i]? = some p → w.cell? ⟨g, off + i * 2, none⟩ = some (.int .i64 p.1) ∧ w.cell? ⟨g, off + i * 2 + 1, none⟩ = some (.int .i64 p.2)) := by
  rcases h.cases with ⟨rfl, a, cap, rfl, h2⟩ | ⟨g, off, cap, rfl, h2, h3, h4, h5, h6⟩
  · exact ⟨a, cap, rfl, Nat.zero_le _, h2, fun h => absurd h (Nat.lt_irrefl 0)⟩
  · exact ⟨_, cap, rfl, h2, h3, fun _ => ⟨g, off, rfl, h5, h6⟩⟩

set_option maxHeartbeats 4000000 in
theorem islands_any (k : Nat) (v : Value) (E : List (Int × Int)) (w : World) (h : PL w v E) (hk : k ≤ 10000) (hE : E.length ≤ 10000) :
    Calls Try.prog 23 #[.int .i64 (k : Nat), v] w fun e w' => ∃ v', e = .returned v' ∧ GO w.heap.size w' v' ((isl k E).map natI) ∧ Below w.heap.size w w' := by
  obtain ⟨a, cap, rfl, h1, h2, h3⟩ := h.shape
  clear h
  unfold maxLen at h2
  have h3' := Lib.hid h3
  clear h3
  obtain ⟨m, hm⟩ : ∃ m, m = E.length := ⟨_, rfl⟩
  rw [← hm] at h1 hE h3' ⊢
  have hm' := Lib.hid hm
  clear hm
  go_enter Try.func23, Try.ntmps23
  go_wp2_with (first | (go_at_call 12; with_reducible refine (new_any k _ hk).mono ?_; rintro e w1 ⟨b, g, rfl, hS, hb, hg, hB⟩; have hS' := Lib.hid hS; have hB' := Lib.hid hB; clear hS hB))
  go_loopw [7, 12] (fun _ i wr => ∃ n : Nat, n ≤ m ∧ i = .int .i64 (n : Nat) ∧ St wr b g k (playF k idL (E.take n)) ∧ Below w.heap.size w wr) (fun _ i _ => m - (intOf i).toNat)
  case atStart => exact ⟨0, Nat.zero_le _, rfl, hS'.out, hB'.out⟩
  case round =>
    obtain ⟨n, hn, rfl, hS, hB⟩ := hrel
    have hS2 := Lib.hid hS
    have hB2 := Lib.hid hB
    clear hS hB hS' hB'
    by_cases hlt : n < m
    · obtain ⟨g2, off, rfl, hg2, hc⟩ := h3'.out (by omega)
      obtain ⟨p, hp⟩ : ∃ p, E[n]? = some p := ⟨_, List.getElem?_eq_getElem (by rw [← hm'.out]; exact hlt)⟩
      obtain ⟨c0, c1⟩ := hc n p hp
      replace c0 := (hB2.out.cell (p := ⟨g2, off + n * 2, none⟩) hg2).trans c0
      replace c1 := (hB2.out.cell (p := ⟨g2, off + n * 2 + 1, none⟩) hg2).trans c1
      have hp' := Lib.hid hp
      have hws := hB2.out.size
      obtain ⟨x, y⟩ := p
      simp only at c0 c1
      clear hp hc
      go_upto_region 5 with fail
      have x0 : (wr.alloc (.cells #[.int .i64 x, .int .i64 y] 31)).cell? ⟨wr.heap.size, 0, none⟩ = some (.int .i64 x) := by simp
      have x1 : (wr.alloc (.cells #[.int .i64 x, .int .i64 y] 31)).cell? ⟨wr.heap.size, 1, none⟩ = some (.int .i64 y) := by simp
      have hSV := Lib.hid (hS2.out.carry (alloc_below wr (.cells #[.int .i64 x, .int .i64 y] 31)))
      have hBV := Lib.hid (hB2.out.alloc hws (.cells #[.int .i64 x, .int .i64 y] 31))
      generalize wr.alloc (.cells #[.int .i64 x, .int .i64 y] 31) = V at *
      clear c0 c1
      go_wp2_with (first | (go_at_call 16; with_reducible refine (union_any b g k _ x y V hSV.out hk).mono ?_; rintro e w2 ⟨rfl, hS3, hg3⟩; have hS3' := Lib.hid hS3; have hg3' := Lib.hid hg3; clear hS3 hg3))
      go_roundw
      case rel => exact ⟨n + 1, by omega, by go_num, by rw [play_succ k idL E hp'.out]; exact hS3'.out, hBV.out.grown hg3'.out hBV.out.size (fun j hj => by cases hj; exact hg)⟩
      case measure => simp [intOf]; omega
    · obtain rfl : n = m := by omega
      have hfin := Lib.hid (show ∀ (v' : Value) (w' : World), GO wr.heap.size w' v' ((grps k (playF k idL (E.take n))).map natI) → GO w.heap.size w' v' ((isl k E).map natI) from fun v' w' h => by
        rw [hm'.out, List.take_length] at h
        obtain ⟨xs, h1, h2⟩ := h
        have hs := hB2.out.size
        unfold isl
        exact ⟨xs, ownsRow_base_a h1 hs, fun i x l hx hl => ⟨⟨ownsRow_base_a (h2 i x l hx hl).1.1 hs, (h2 i x l hx hl).1.2⟩, (h2 i x l hx hl).2⟩⟩)
      go_wp2_with (first | (go_at_call 20; with_reducible refine (groups_any b g k _ wr hS2.out hk).mono ?_; rintro e w2 ⟨v', rfl, hG, hS3, hg3⟩; have hG' := Lib.hid hG; have hg3' := Lib.hid hg3; clear hG hS3 hg3))
      go_ret
      exact ⟨_, rfl, hfin.out _ _ hG'.out, hB2.out.grown hg3'.out hB2.out.size (fun j hj => by cases hj; exact hg)⟩
end Go.Proofs.Ytalglkeabppabaa
