/- Package hash64: the iterator over the words of bytes. -/
import Derived.Test.YtknjdkgemkmoeaaHaB
import Derived.Test.YtknjdkgemkmoeaaOpenD
import Derived.Test.YtknjdkgemkmoeaaIter
import Derived.Deep.Slices
namespace Go.Proofs.Ytknjdkgemkmoeaa
open Go.ChangeShapes Go.WideShapes Go.ChangeAt Go.RowKit Go.Shelf
set_option linter.unusedSimpArgs false
set_option linter.unusedVariables false
attribute [local go_sem] Oper.semAt_some

/-- Where the bytes lie: their address, the blocks that are read. -/
structure ByRow (w : World) (S : Nat → Prop) (a : Option Addr) (n cap : Nat) (L : List Nat) : Prop where
  len : L.length = n
  le : n ≤ cap
  max : cap ≤ maxLen
  byt : Byt L
  row : 0 < n → ∃ g off, a = some ⟨g, off, none⟩ ∧ S g ∧ g < w.heap.size ∧ ∀ i b, L[i]? = some b → w.cell? ⟨g, off + i, none⟩ = some (.int .u8 (b : Nat))
theorem BytsAt.shape {w : World} {v : Value} {L : List Nat} (h : BytsAt w v L) : ∃ a cap, v = .slice a L.length cap ∧ ByRow w (fun r => r < w.heap.size) a L.length cap L := by
  obtain ⟨a, cap, rfl, h1, h2, h3, _, h4⟩ := h
  refine ⟨a, cap, rfl, rfl, h1, h2, h3, fun h => ?_⟩
  rcases h4 with rfl | ⟨g, off, rfl, h5⟩
  · exact absurd h (Nat.lt_irrefl 0)
  · have hg := block_lt_of_cell (h5 0 _ (List.getElem?_eq_getElem h))
    exact ⟨g, off, rfl, hg, hg, h5⟩
theorem ByRow.mono {w : World} {S T : Nat → Prop} {a : Option Addr} {n cap : Nat} {L : List Nat} (h : ByRow w S a n cap L) (hT : ∀ r, S r → T r) : ByRow w T a n cap L :=
  ⟨h.len, h.le, h.max, h.byt, fun hn => let ⟨g, off, h1, h2, h3, h4⟩ := h.row hn; ⟨g, off, h1, hT _ h2, h3, h4⟩⟩
theorem ByRow.keep {w w' : World} {S : Nat → Prop} {a : Option Addr} {n cap : Nat} {L : List Nat} (h : ByRow w S a n cap L) (hk : KeepOn S w w') : ByRow w' S a n cap L :=
  ⟨h.len, h.le, h.max, h.byt, fun hn => let ⟨g, off, h1, h2, h3, h4⟩ := h.row hn; ⟨g, off, h1, h2, Nat.lt_of_lt_of_le h3 hk.size, fun i b hi => hk.cell (h4 i b hi) h2⟩⟩
theorem ByRow.carry {w w' : World} {S : Nat → Prop} {a : Option Addr} {n cap : Nat} {L : List Nat} (h : ByRow w S a n cap L) (hb : Below w.heap.size w w') : ByRow w' S a n cap L := h.keep (KeepOn.below hb)

theorem wordsOf_any (a : Option Addr) (n cap : Nat) (w : World) : Calls Try.prog 83 #[.slice a n cap] w fun e w' =>
    e = .returned (.func (.func 101) #[] #[.pointer (some ⟨w.heap.size, 0, none⟩)]) ∧ w' = w.alloc (.cells #[.slice a n cap] 131) := by
  go_enter Try.func83, Try.ntmps83
  go_wp2
  go_ret
  exact ⟨rfl, rfl⟩

/-- What a round is handed: the k-th word. -/
def wdE (L : List Nat) (k : Nat) : Array Value := #[.int .u64 ((word L k).toNat : Int)]

set_option maxHeartbeats 4000000 in
set_option maxRecDepth 100000 in
theorem words_gives (a : Option Addr) (n cap b : Nat) (L : List Nat) (S : Nat → Prop) (w : World) (hR : ByRow w S a n cap L) (hb : w.cell? ⟨b, 0, none⟩ = some (.slice a n cap)) (hS : S b) (hn : n ≤ 1000) :
    Gives Try.prog 101 #[.pointer (some ⟨b, 0, none⟩)] (wdE L) (nw n) 0 S w := by
  intro l J Jx W hW hJ hJx hY h0
  have hRW := Lib.hid (hR.carry hW)
  have hbW := carry hW hb
  have hlt := block_lt_of_cell hbW
  simp only at hlt
  have hY' : ∀ (k : Nat) (W1 : World), k < nw n → KeepOn S W W1 → J k W1 → YieldAt Fence.wide 7 Try.prog l #[.int .u64 ((word L k).toNat : Int)] W1 fun e W' => KeepOn S W1 W' ∧ ((e = .returned (.bool true) ∧ J (k + 1) W') ∨ (e = .returned (.bool false) ∧ Jx k W')) :=
    fun k W1 hk hkp hj => by
      obtain ⟨fn, tmps, assign, body, hy, hR⟩ := hY k W1 hk (by have := hkp.size; omega) hj
      exact ⟨fn, tmps, assign, body, hy, hR.mono fun e w' ⟨h1, h2⟩ => ⟨h1.mono fun r h => .inl h, h2⟩⟩
  have hF := Lib.hid hY'
  have hle := hR.le
  have hmx := hR.max
  unfold maxLen at hmx
  have hnw := Lib.hid (show nw n = (n + 7) / 8 from rfl)
  have hJE := Lib.hid hJ
  clear hR hb hW hY hY' hJ hJx
  have hlen := Lib.hid hRW.out.len
  have hW0 := Lib.hid (hRW.out.byt)
  refine (callsIn_wide (n := 8)).1 (callsIn_of_wp Try.func101 rfl trivial ?_ rfl)
  simp only [Try.ntmps101, List.size_toArray, List.length_cons, List.length_nil, Nat.reduceAdd, Nat.reduceSub, Array.replicate_succ, Array.replicate_zero, List.push_toArray, List.append_toArray, List.nil_append, List.cons_append]
  gi_wp2
  gi_loopw [3] (fun i wr => ∃ k : Nat, k ≤ nw n ∧ i = .int .i64 ((8 * k : Nat) : Int) ∧ J k wr ∧ KeepOn S W wr) (fun i _ => nw n - (intOf i).toNat / 8)
  case atStart => exact ⟨0, Nat.zero_le _, rfl, h0, KeepOn.refl _ _⟩
  case round =>
    obtain ⟨k, hk, rfl, hJk, hkk⟩ := hrel
    have hJk' := Lib.hid hJk
    have hkk' := Lib.hid hkk
    have cb := hkk.cell hbW hS
    clear hJk hkk
    by_cases hkn : 8 * k < n
    · have hkl := Lib.hid (show k < nw n from by rw [hnw.out]; omega)
      obtain ⟨g, off, rfl, hg, hgl, hcell⟩ := (hRW.out.keep hkk'.out).row (by omega)
      obtain ⟨fn, tmps, assign, body, hy, hR⟩ := hF.out k wr hkl.out hkk'.out hJk'.out
      have hgl8 : (grp L k).length = min 8 (n - 8 * k) := by rw [grp_len, hlen.out]
      have hK := fun (m : Nat) (hm : m = min 8 (n - 8 * k)) => word_any (grp L k) g (off + 8 * k) (cap - 8 * k) wr (hW0.out.grp k) (by omega) (fun i x hi => by
        have h8 : i < 8 := by have := (List.getElem?_eq_some_iff.1 hi).1; omega
        rw [grp_at L k i h8] at hi
        have := hcell _ _ hi
        rwa [← Nat.add_assoc] at this)
      rw [hgl8, ← word_nat hW0.out k] at hK
      have hK' := Lib.hid hK
      have hm4 : 8 * (k : Int) ≤ 1000 := by omega
      clear hK hcell hgl8
      by_cases hcs : 8 * k + 8 ≤ n
      · have hm5 : 8 * (k : Int) + 8 ≤ (n : Int) := by omega
        have h1 := hK'.out 8 (by omega)
        rw [← (show 8 = min 8 (n - 8 * k) from by omega)] at h1
        replace h1 := Lib.hid h1
        clear hK' hcs
        gi_wp2_with fail
        refine ⟨trivial, ?_⟩
        with_reducible refine (callsIn_wide.2 h1.out).mono ?_
        rintro e w1 ⟨rfl, rfl⟩
        clear h1
        gi_wp2
        refine hR.mono ?_
        rintro e W3 ⟨hk3, ⟨rfl, hJ3⟩ | ⟨rfl, hJx3⟩⟩
        · gi_wp2
          go_roundw
          case rel => exact ⟨k + 1, hkl.out, by go_num, hJ3, hkk'.out.trans hk3⟩
          case measure => have := hkl.out; simp [intOf]; omega
        · gi_wp2
          refine bodyPost_ret (results_none rfl _ _ _) rfl ?_
          exact ⟨⟨_, rfl⟩, .inr ⟨_, hkl.out, hJx3⟩⟩
      · have hm5 : ¬ 8 * (k : Int) + 8 ≤ (n : Int) := by omega
        have h1 := hK'.out _ (show n - 8 * k = min 8 (n - 8 * k) from by omega)
        rw [← (show n - 8 * k = min 8 (n - 8 * k) from by omega)] at h1
        replace h1 := Lib.hid h1
        clear hK' hcs
        gi_wp2_with fail
        refine ⟨trivial, ?_⟩
        with_reducible refine (callsIn_wide.2 h1.out).mono ?_
        rintro e w1 ⟨rfl, rfl⟩
        clear h1
        gi_wp2
        refine hR.mono ?_
        rintro e W3 ⟨hk3, ⟨rfl, hJ3⟩ | ⟨rfl, hJx3⟩⟩
        · gi_wp2
          go_roundw
          case rel => exact ⟨k + 1, hkl.out, by go_num, hJ3, hkk'.out.trans hk3⟩
          case measure => have := hkl.out; simp [intOf]; omega
        · gi_wp2
          refine bodyPost_ret (results_none rfl _ _ _) rfl ?_
          exact ⟨⟨_, rfl⟩, .inr ⟨_, hkl.out, hJx3⟩⟩
    · have hk2 : k = nw n := by have := hnw.out; omega
      have hd := Lib.hid (hk2 ▸ hJk'.out : J (nw n) wr)
      clear hk2
      have hni : ¬ (8 * (k : Int) < (n : Int)) := by omega
      gi_wp2
      go_end0
      exact ⟨⟨_, rfl⟩, .inl hd.out⟩
end Go.Proofs.Ytknjdkgemkmoeaa
