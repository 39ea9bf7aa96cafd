/- Package merkle: the rows of a tree: how wide they are, what they hold; the leaves' row, the row above. -/
import Derived.Test.YtknjdkgemkmoeaaMlD
import Derived.Test.YtknjdkgemkmoeaaMkE
import Derived.Test.YtknjdkgemkmoeaaSrow
namespace Go.Proofs.Ytknjdkgemkmoeaa
open Go.ChangeShapes Go.WideShapes Go.ChangeAt Go.RowKit Go.Shelf
set_option linter.unusedSimpArgs false
set_option linter.unusedVariables false
attribute [local go_sem] Oper.semAt_some

/-! ## Plain facts -/
def emptyW : Nat → W64
  | 0 => emptyV
  | t + 1 => pairW (emptyW t) (emptyW t)
theorem node_empty (C : List Int) : ∀ t j, C.length ≤ j * 2 ^ t → nodeW C t j = emptyW t
  | 0, j, h => leafW_out (by simpa using h)
  | t + 1, j, h => by
    have h2 : C.length ≤ (2 * j) * 2 ^ t := by rw [Nat.pow_succ] at h; rw [Nat.mul_comm 2 j, Nat.mul_assoc, Nat.mul_comm 2]; exact h
    show pairW (nodeW C t (2 * j)) (nodeW C t (2 * j + 1)) = pairW (emptyW t) (emptyW t)
    rw [node_empty C t (2 * j) h2, node_empty C t (2 * j + 1) (by rw [Nat.add_mul]; omega)]
/-- A row's nodes, the level's width without the node that makes it even. -/
def wd (n : Nat) : Nat → Nat
  | 0 => max n 1
  | t + 1 => (wd n t + 1) / 2
def pw (n t : Nat) : Nat := if t < ht n then wd n t + wd n t % 2 else wd n t
theorem wd_pos (n : Nat) : ∀ t, 1 ≤ wd n t
  | 0 => Nat.le_max_right _ _
  | t + 1 => by have := wd_pos n t; show 1 ≤ (wd n t + 1) / 2; omega
theorem wd_le (n : Nat) : ∀ t, wd n t ≤ max n 1
  | 0 => Nat.le_refl _
  | t + 1 => by have := wd_le n t; have := wd_pos n t; show (wd n t + 1) / 2 ≤ max n 1; omega
theorem wd_in {n i : Nat} (h : i < n) : ∀ t, i / 2 ^ t < wd n t
  | 0 => by rw [Nat.pow_zero, Nat.div_one]; exact Nat.lt_of_lt_of_le h (Nat.le_max_left _ _)
  | t + 1 => by
    have := wd_in h t
    rw [Nat.pow_succ, ← Nat.div_div_eq_div_mul]
    show i / 2 ^ t / 2 < (wd n t + 1) / 2
    omega
theorem wd_cover (n : Nat) : ∀ t, n ≤ wd n t * 2 ^ t
  | 0 => by rw [Nat.pow_zero, Nat.mul_one]; exact Nat.le_max_left _ _
  | t + 1 => by
    have h1 := wd_cover n t
    have h2 : wd n t ≤ (wd n t + 1) / 2 * 2 := by omega
    show n ≤ (wd n t + 1) / 2 * 2 ^ (t + 1)
    rw [Nat.pow_succ, Nat.mul_comm (2 ^ t) 2, ← Nat.mul_assoc]
    exact Nat.le_trans h1 (Nat.mul_le_mul_right _ h2)
theorem pw_up {n t : Nat} (h : t < ht n) : pw n t = 2 * wd n (t + 1) := by
  unfold pw; rw [if_pos h]; show _ = 2 * ((wd n t + 1) / 2); omega
theorem pw_in {n i t : Nat} (h : i < n) : i / 2 ^ t < pw n t := by have := wd_in h t; unfold pw; split <;> omega
theorem pw_pos (n t : Nat) : 0 < pw n t := by have := wd_pos n t; unfold pw; split <;> omega
theorem pw_sib {n i t : Nat} (h : i < n) (ht : t < ht n) : sib (i / 2 ^ t) < pw n t := by
  have h1 := pw_in (t := t) h
  rw [pw_up ht] at h1 ⊢
  generalize i / 2 ^ t = q at *
  generalize wd n (t + 1) = d at *
  unfold sib; split <;> omega
/-- A level's row. -/
def rw' (f : Nat → W64) (m : Nat) : List W64 := (List.range m).map f
theorem rw_len (f : Nat → W64) (m : Nat) : (rw' f m).length = m := by unfold rw'; simp
theorem rw_succ (f : Nat → W64) (m : Nat) : rw' f (m + 1) = rw' f m ++ [f m] := by unfold rw'; rw [List.range_succ, List.map_append]; rfl
theorem rw_at (f : Nat → W64) {m j : Nat} (h : j < m) : (rw' f m)[j]? = some (f j) := by unfold rw'; simp [h]
theorem rw_congr {f g : Nat → W64} {m : Nat} (h : ∀ j, j < m → f j = g j) : rw' f m = rw' g m := List.map_congr_left fun j hj => h j (List.mem_range.1 hj)
def rowW (C : List Int) (t m : Nat) : List W64 := rw' (nodeW C t) m
theorem row_pad (C : List Int) {t : Nat} (h : t < ht C.length) (hodd : wd C.length t % 2 = 1) : rowW C t (wd C.length t) ++ [emptyW t] = rowW C t (pw C.length t) := by
  unfold rowW
  rw [← node_empty C t (wd C.length t) (wd_cover _ _), ← rw_succ]
  unfold pw; rw [if_pos h, hodd]
theorem row_set (C : List Int) (i : Nat) (v : Int) (t m : Nat) (hi : i / 2 ^ t < m) : (rowW C t m).set (i / 2 ^ t) (nodeW (C.set i v) t (i / 2 ^ t)) = rowW (C.set i v) t m := by
  refine List.ext_getElem? fun j => ?_
  unfold rowW
  rw [List.getElem?_set, rw_len]
  by_cases hj : j < m
  · rw [rw_at _ hj, rw_at _ hj]
    by_cases e : i / 2 ^ t = j
    · rw [if_pos e, if_pos (by omega), e]
    · rw [if_neg e, node_set v e]
  · rw [if_neg (by omega), List.getElem?_eq_none (by rw [rw_len]; omega), List.getElem?_eq_none (by rw [rw_len]; omega)]

/-! ## Rows in memory -/
/-- A row of words in a block of its own, which may be written. -/
def WRow (w : World) (g cap : Nat) (l : List W64) : Prop := SRow w 36 1 (.slice (some ⟨g, 0, none⟩) l.length cap) l.length (u64s l)
theorem WRow.cell {w : World} {g cap : Nat} {l : List W64} (h : WRow w g cap l) {j : Nat} {x : W64} (hj : l[j]? = some x) : w.cell? ⟨g, j, none⟩ = some (.int .u64 (x.toNat : Int)) ∧ w.frozen? ⟨g, j, none⟩ = false := by
  have hlt := (List.getElem?_eq_some_iff.1 hj).1
  obtain ⟨a, cap', e, _, _, _, h4⟩ := SRow.shape h Nat.one_pos
  cases e
  obtain ⟨g', off, e, _, h5⟩ := h4 (by omega)
  cases e
  have := h5 j _ (u64s_at hj)
  rwa [Nat.zero_add] at this
theorem WRow.lt {w : World} {g cap : Nat} {l : List W64} (h : WRow w g cap l) : g < w.heap.size := SRow.lt h rfl
theorem WRow.carry {w w' : World} {g cap : Nat} {l : List W64} (h : WRow w g cap l) (hb : Below w.heap.size w w') : WRow w' g cap l := SRow.carry h hb
theorem WRow.grown {w w' : World} {g cap : Nat} {l : List W64} (h : WRow w g cap l) (hb : w'.heap[g]? = w.heap[g]?) : WRow w' g cap l := SRow.grown h fun g' e _ => by cases e; exact hb
theorem WRow.bounds {w : World} {g cap : Nat} {l : List W64} (h : WRow w g cap l) : l.length ≤ cap ∧ cap ≤ maxLen := by
  obtain ⟨a, cap', e, h1, h2, _, h4⟩ := SRow.shape h Nat.one_pos
  cases e
  exact ⟨h1, h2⟩
theorem WRow.set {w : World} {g cap : Nat} {l : List W64} (h : WRow w g cap l) {j : Nat} (hj : j < l.length) (x : W64) : WRow (w.setCell ⟨g, j, none⟩ (.int .u64 (x.toNat : Int))) g cap (l.set j x) := by
  have := SRow.set h (i := j) (by omega) (.int .u64 (x.toNat : Int))
  rw [Nat.zero_add] at this
  unfold WRow
  rw [List.length_set]
  rwa [show u64s (l.set j x) = (u64s l).set j (.int .u64 (x.toNat : Int)) from by unfold u64s; rw [List.map_set]]
theorem WRow.owned {w : World} {base g cap n : Nat} {l : List W64} (h : w.ownsRow base 36 1 (.slice (some ⟨g, 0, none⟩) n cap) n (u64s l)) : WRow w g cap l := by
  have hn : l.length = n := by have := h.1; rw [u64s_len] at this; omega
  unfold WRow
  rw [hn]
  exact SRow.owned h

set_option maxRecDepth 100000 in
set_option maxHeartbeats 4000000 in
theorem leafRow_any (v : Value) (C : List Int) (w : World) (hI : IL w v C) (hl : C.length ≤ 1000) :
    Calls Try.prog 52 #[v, .int .u64 (emptyV.toNat : Int)] w fun e w' => ∃ g cap, e = .returned (.slice (some ⟨g, 0, none⟩) (wd C.length 0) cap) ∧ w'.ownsRow w.heap.size 36 1 (.slice (some ⟨g, 0, none⟩) (wd C.length 0) cap) (wd C.length 0) (u64s (rowW C 0 (wd C.length 0))) ∧ Below w.heap.size w w' := by
  obtain ⟨a, cap, rfl, h1, h2, h3⟩ := hI.shape
  unfold maxLen at h2
  have hI' := Lib.hid hI
  clear hI
  obtain ⟨n, hn⟩ : ∃ n, n = C.length := ⟨_, rfl⟩
  rw [← hn] at h1 h3 hl ⊢
  have hn' := Lib.hid hn
  by_cases h0 : n = 0
  · subst h0
    have hC : C = [] := List.length_eq_zero_iff.1 hn.symm
    rw [hC, show rowW [] 0 (wd 0 0) = [emptyV] from rfl, show wd 0 0 = 1 from rfl]
    clear hn hn' h3 hI' hC
    generalize emptyV = z at *
    go_enter Try.func52, Try.ntmps52
    go_wp2
    go_ret
    refine ⟨w.heap.size, 1, rfl, ⟨rfl, .inr ⟨w.heap.size, 1, _, rfl, Nat.le_refl _, World.alloc_heap_new w _, Nat.le_refl _, by decide, rfl, rfl⟩⟩, alloc_below _ _⟩
  · have hnp : 0 < n := by omega
    obtain ⟨g, off, rfl, hg, hc⟩ := h3 hnp
    rw [show wd n 0 = n from by show max n 1 = n; omega]
    have hne : ((n : Int) == 0) = false := by simp only [beq_eq_false_iff_ne, ne_eq]; omega
    obtain ⟨i0, hi0, hz0, hz1, hz2⟩ := info_parts info_word
    obtain ⟨Cc, hCc, hmk⟩ : ∃ Cc : Array Value, Cc.size = (n + 1) * 1 ∧ ∀ w : World, (Instr.makeSlice 28 (.int .i64 0) (.int .i64 ((n : Int) + 1))).run Try.prog w = .ok (.slice (some ⟨w.heap.size, 0, none⟩) 0 (n + 1)) (w.alloc (.cells Cc 36)) :=
      ⟨_, size_madeCells _ _, fun w => by
        have h := run_make (P := Try.prog) w 28 36 i0 (.int .u64 0) Try.underlying28 hi0 hz0 .i64 .i64 0 ((n : Int) + 1) (by omega) (by omega) (by rw [hz2]; omega) (by omega)
        rw [h, hz1]
        rfl⟩
    have hC' := Lib.hid hCc
    have hc' := Lib.hid hc
    have hi0' := Lib.hid (And.intro hi0 (And.intro hz0 (And.intro hz1 hz2)))
    clear hc h3 hn hi0 hz0 hz1 hz2 hCc
    go_enter Try.func52, Try.ntmps52
    go_wp2_with fail
    have hrow0 := World.ownsRow_made (e := 36) (size := 1) w Cc (n + 1) (Nat.le_refl _) (by unfold maxLen; omega) hC'.out
    have hB0 := alloc_below w (.cells Cc 36)
    generalize w.alloc (.cells Cc 36) = V at *
    clear hmk
    go_loopw [5, 19] (fun r i wr => ∃ (k g' cap' : Nat), k ≤ n ∧ i = .int .i64 (k : Nat) ∧ r = .slice (some ⟨g', 0, none⟩) k cap' ∧ wr.ownsRow w.heap.size 36 1 (.slice (some ⟨g', 0, none⟩) k cap') k (u64s (rowW C 0 k)) ∧ Below w.heap.size w wr) (fun _ i _ => n - (intOf i).toNat)
    case atStart => exact ⟨0, w.heap.size, n + 1, Nat.zero_le _, rfl, rfl, hrow0, hB0⟩
    case round =>
      obtain ⟨k, g', cap', hk, rfl, rfl, ho, hb⟩ := hrel
      have hb' := Lib.hid hb
      clear hb hrow0 hB0
      by_cases hlt : k < n
      · obtain ⟨x, hx⟩ : ∃ x, C[k]? = some x := ⟨_, List.getElem?_eq_getElem (by rw [← hn'.out]; exact hlt)⟩
        have c0 := carry hb'.out (hc'.out k x hx)
        have K := fun W => leafHash_any (k : Int) x W
        have hz : leafV (k : Int) x = nodeW C 0 k := (leafW_in hx).symm
        rw [hz] at K
        have hsu := Lib.hid (show u64s (rowW C 0 (k + 1)) = u64s (rowW C 0 k) ++ u64s [nodeW C 0 k] from by unfold rowW; rw [rw_succ, u64s_append])
        have hrl := Lib.hid (show (u64s (rowW C 0 k)).length = k from by unfold rowW; rw [u64s_len, rw_len])
        generalize nodeW C 0 k = z at *
        have hK := Lib.hid K
        clear K hz hx
        go_wp2_with (first
          | (at_builtin; refine wpList_append_lies _ rfl _ _ 28 rfl w.heap.size 36 i0 _ 1 8 Try.underlying28 hi0'.out.1 hi0'.out.2.1 hi0'.out.2.2.1 hi0'.out.2.2.2 rfl (by decide) (.slice (some ⟨g', 0, none⟩) k cap') k (u64s (rowW C 0 k)) rfl (ho1.out.alloc _) ⟨w1.heap.size, 0, none⟩ 1 1 (u64s [z]) rfl rfl (word_news w1 z) (u64s_one _) Nat.one_pos (by unfold maxLen; omega) (by omega) (size_more w1 _ hbb1.out.size) _ rfl ?_; intro g2 cap2 w2 hown2 hgrow2 hloc2 hlt2; have hown3 := Lib.hid hown2; have hgrow3 := Lib.hid hgrow2; clear hown2 hgrow2 hloc2)
          | (go_at_call 85; with_reducible refine (hK.out _).mono ?_; rintro e w1 ⟨rfl, hb1⟩; have ho1 := Lib.hid (own_other ho (grown_of_below hb1) fun r e => by cases e); have hbb1 := Lib.hid (hb'.out.trans (hb1.mono hb'.out.size)); clear hb1))
        go_roundw
        case rel =>
          refine ⟨k + 1, g2, cap2, hlt, by go_num, rfl, ?_, ?_⟩
          · rw [hsu.out]; exact hown3.out
          · exact (hbb1.out.alloc hbb1.out.size _).grown hgrow3.out (size_more w1 _ hbb1.out.size) fun r e => (ho1.out.lt r e).1
        case measure => simp [intOf]; omega
      · obtain rfl : k = n := by omega
        go_wp2
        go_ret
        exact ⟨g', cap', rfl, ho, hb'.out⟩

/-! ## The row above -/
theorem halves (f : Nat → W64) (q : Nat) : (rw' f (2 * q)).length = 2 * q := rw_len _ _
set_option maxRecDepth 100000 in
set_option maxHeartbeats 4000000 in
theorem rowAbove_any (f : Nat → W64) (q g cap : Nat) (w : World) (hR : WRow w g cap (rw' f (2 * q))) (hq : q ≤ 1000) :
    Calls Try.prog 54 #[.slice (some ⟨g, 0, none⟩) (2 * q : Nat) cap] w fun e w' => ∃ g' cap', e = .returned (.slice (some ⟨g', 0, none⟩) q cap') ∧ w'.ownsRow w.heap.size 36 1 (.slice (some ⟨g', 0, none⟩) q cap') q (u64s (rw' (fun k => pairW (f (2 * k)) (f (2 * k + 1))) q)) ∧ Below w.heap.size w w' := by
  obtain ⟨hb1, hb2⟩ := hR.bounds
  rw [rw_len] at hb1
  unfold maxLen at hb2
  have hgl := hR.lt
  have hc := Lib.hid fun j (hj : j < 2 * q) => (hR.cell (rw_at f hj)).1
  have hdiv : ((2 * q : Nat) : Int) / 2 = (q : Int) := by omega
  have hdiv' := Lib.hid hdiv
  obtain ⟨i0, hi0, hz0, hz1, hz2⟩ := info_parts info_word
  obtain ⟨m, hm⟩ : ∃ m, m = 2 * q := ⟨_, rfl⟩
  rw [← hm] at hb1 hc hdiv' ⊢
  obtain ⟨Cc, hCc, hmk⟩ : ∃ Cc : Array Value, Cc.size = (q + 1) * 1 ∧ ∀ w : World, (Instr.makeSlice 28 (.int .i64 0) (.int .i64 ((m : Int) / 2 + 1))).run Try.prog w = .ok (.slice (some ⟨w.heap.size, 0, none⟩) 0 (q + 1)) (w.alloc (.cells Cc 36)) :=
    ⟨_, size_madeCells _ _, fun w => by
      have h := run_make (P := Try.prog) w 28 36 i0 (.int .u64 0) Try.underlying28 hi0 hz0 .i64 .i64 0 ((q : Int) + 1) (by omega) (by omega) (by rw [hz2]; omega) (by omega)
      rw [hdiv'.out, h, hz1]
      rfl⟩
  have hC' := Lib.hid hCc
  have hi0' := Lib.hid (And.intro hi0 (And.intro hz0 (And.intro hz1 hz2)))
  clear hR hi0 hz0 hz1 hz2 hCc hdiv
  have hm' := Lib.hid hm
  have hmb : (m : Int) ≤ 2000 := by omega
  clear hm
  go_enter Try.func54, Try.ntmps54
  go_wp2_with fail
  have hrow0 := World.ownsRow_made (e := 36) (size := 1) w Cc (q + 1) (Nat.le_refl _) (by unfold maxLen; omega) hC'.out
  have hB0 := alloc_below w (.cells Cc 36)
  generalize w.alloc (.cells Cc 36) = V at *
  clear hmk
  go_loopw [3, 4] (fun r i wr => ∃ (k g' cap' : Nat), k ≤ q ∧ i = .int .i64 ((2 * k : Nat) : Int) ∧ r = .slice (some ⟨g', 0, none⟩) k cap' ∧ wr.ownsRow w.heap.size 36 1 (.slice (some ⟨g', 0, none⟩) k cap') k (u64s (rw' (fun k => pairW (f (2 * k)) (f (2 * k + 1))) k)) ∧ Below w.heap.size w wr) (fun _ i _ => m - (intOf i).toNat)
  case atStart => exact ⟨0, w.heap.size, q + 1, Nat.zero_le _, rfl, rfl, hrow0, hB0⟩
  case round =>
    obtain ⟨k, g', cap', hk, rfl, rfl, ho, hb⟩ := hrel
    have hb' := Lib.hid hb
    clear hrow0 hB0
    by_cases hlt : k < q
    · have hmq := hm'.out
      have c0 := carry hb (hc.out (2 * k) (by omega))
      have c1 := carry hb (hc.out (2 * k + 1) (by omega))
      have hgw : g < wr.heap.size := Nat.lt_of_lt_of_le hgl hb.size
      have K := fun W => pair_any (f (2 * k)) (f (2 * k + 1)) W
      obtain ⟨L, hL⟩ : ∃ L, L = rw' (fun k => pairW (f (2 * k)) (f (2 * k + 1))) k := ⟨_, rfl⟩
      obtain ⟨z, hz⟩ : ∃ z, z = pairW (f (2 * k)) (f (2 * k + 1)) := ⟨_, rfl⟩
      have hsu := Lib.hid (show rw' (fun k => pairW (f (2 * k)) (f (2 * k + 1))) (k + 1) = L ++ [z] from by rw [rw_succ, hL, hz])
      rw [← hL] at ho
      rw [← hz] at K
      clear hL hz
      generalize ((f (2 * k)).toNat : Int) = x0 at *
      generalize ((f (2 * k + 1)).toNat : Int) = x1 at *
      have hK := Lib.hid K
      have hor := Lib.hid ho
      have hlt2 : ((2 * k : Nat) : Int) < (m : Int) := by omega
      have hlt3 : ((2 * k : Nat) : Int) + 1 < (m : Int) := by omega
      obtain ⟨j, hj⟩ : ∃ j, j = 2 * k := ⟨_, rfl⟩
      rw [← hj] at c0 c1 hlt2 hlt3 ⊢
      have hj' := Lib.hid hj
      have hwj : IntKind.i64.wrap ((j : Int) + 1) = ((j + 1 : Nat) : Int) := by rw [IntKind.wrap_i64]; omega
      have hlt4 : ((j + 1 : Nat) : Int) < (m : Int) := by omega
      have hlt5 : 0 ≤ (j : Int) + 1 := by omega
      have hlt6 : j + 1 < m := by omega
      clear K ho hb hj hmq
      have hEn : ∀ args w, (callFunc 55 args).run Try.prog w = .ok (.enter 55 args) w := enters_of Try.func55 (by kernel_rfl) rfl
      have bD : Below wr.heap.size wr wr.drew := (Below.refl _ wr).drew
      have hzw := Lib.hid hb'.out.size
      have hkl := Lib.hid (show k ≤ 1000 from by omega)
      go_wp2_with fail
      go_region_law (first
        | (refine step_met (f := 55) (by rfl) [.tmp 20, .tmp 25] (by rfl) hEn (by simp [Act.eval, Act.put]) (hK.out _) ?_; intro y1 hb; have hY := Lib.hid (below_step bD hb); have ho1 := Lib.hid (own_other hor.out (grown_of_below hY.out) fun r e => by cases e); have hbb1 := Lib.hid (hb'.out.trans (hY.out.mono hb'.out.size)); have hzy := Lib.hid (Nat.le_trans hzw.out hY.out.size); clear hb)
        | (refine step_word (by rfl) (.tmp 16) (.tmp 27) (by rfl) w.heap.size (.slice (some ⟨g', 0, none⟩) k cap') k _ z (by simp [Act.eval, Act.put]) (by simp [Act.eval, Act.put]) ho1.out hzy.out hkl.out ?_; intro g2 cap2 w2 hown2 hgrow2 hlt2; have hown3 := Lib.hid hown2; have hgrow3 := Lib.hid hgrow2; clear hown2 hgrow2))
      all_goals
        go_wp2
        go_roundw
        case rel =>
          refine ⟨k + 1, g2, cap2, hlt, by rw [show ((2 * (k + 1) : Nat) : Int) = (j : Int) + 2 from by have := hj'.out; omega], rfl, ?_, ?_⟩
          · rw [hsu.out]; exact hown3.out
          · exact (hbb1.out.alloc hbb1.out.size _).grown hgrow3.out (size_more y1 _ hbb1.out.size) fun r e => (ho1.out.lt r e).1
        case measure => have := hj'.out; simp [intOf]; omega
    · obtain rfl : k = q := by omega
      have hmq := hm'.out
      have hlt2 : ¬ ((2 * k : Nat) : Int) < (m : Int) := by omega
      go_wp2
      go_ret
      exact ⟨g', cap', rfl, ho, hb'.out⟩
end Go.Proofs.Ytknjdkgemkmoeaa
