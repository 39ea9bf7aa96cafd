/- The reference of hash64: Words. -/
import Derived.Test.YtknjdkgemkmoeaaHaE
namespace Go.Proofs.Ytknjdkgemkmoeaa
open Go.ChangeShapes Go.WideShapes Go.ChangeAt Go.RowKit Go.Shelf
set_option linter.unusedSimpArgs false
set_option linter.unusedVariables false

def u64s (l : List W64) : List Value := l.map fun x => .int .u64 (x.toNat : Int)
theorem u64s_len (l : List W64) : (u64s l).length = l.length := by unfold u64s; rw [List.length_map]
theorem u64s_append (l m : List W64) : u64s (l ++ m) = u64s l ++ u64s m := by unfold u64s; rw [List.map_append]
theorem u64s_one (l : List W64) : ∀ u ∈ u64s l, u.oneCell' = true := fun u hu => by
  unfold u64s at hu
  obtain ⟨z, _, rfl⟩ := List.mem_map.1 hu
  rfl
theorem u64s_at {l : List W64} {i : Nat} {x : W64} (h : l[i]? = some x) : (u64s l)[i]? = some (.int .u64 (x.toNat : Int)) := by unfold u64s; rw [List.getElem?_map, h]; rfl
theorem le_drop {G : List Nat} {p b : Nat} (h : G[p]? = some b) : le (G.drop p) = b + 256 * le (G.drop (p + 1)) := by
  obtain ⟨hp, rfl⟩ := List.getElem?_eq_some_iff.1 h
  rw [List.drop_eq_getElem_cons hp]
  rfl
theorem le_drop_lt {G : List Nat} (hB : Byt G) (hn : G.length ≤ 8) (p : Nat) : le (G.drop p) ≤ 18446744073709551615 := by
  have h1 := le_lt (l := G.drop p) fun c hc => hB c (List.mem_of_mem_drop hc)
  have h2 : 256 ^ (G.drop p).length ≤ 256 ^ 8 := Nat.pow_le_pow_right (by decide) (by rw [List.length_drop]; omega)
  have h3 : (256 : Nat) ^ 8 = 18446744073709551616 := by decide
  omega

set_option maxHeartbeats 4000000 in
set_option maxRecDepth 100000 in
theorem refWords_any (a : Option Addr) (n cap : Nat) (L : List Nat) (w : World) (hR : ByRow w (fun r => r < w.heap.size) a n cap L) (hn : n ≤ 1000) :
    Calls Try.prog 108 #[.slice a n cap] w fun e w' => ∃ v, e = .returned v ∧ w'.ownsRow w.heap.size 36 1 v (nw n) (u64s (wordsN L (nw n))) ∧ Below w.heap.size w w' := by
  obtain ⟨i0, hi0, hz0, hz1, hz2⟩ := info_parts info_word
  have hle := hR.le
  have hmx := hR.max
  unfold maxLen at hmx
  have hR' := Lib.hid hR
  have hnw := Lib.hid (show nw n = (n + 7) / 8 from rfl)
  have hlen := Lib.hid hR.len
  have hByt := Lib.hid hR.byt
  clear hR
  go_enter Try.func108, Try.ntmps108
  go_wp2_with fail
  go_loopw [3, 4] (fun out i wr => ∃ k : Nat, k ≤ nw n ∧ i = .int .i64 ((8 * k : Nat) : Int) ∧ wr.ownsRow w.heap.size 36 1 out k (u64s (wordsN L k)) ∧ Below w.heap.size w wr) (fun _ i _ => nw n - (intOf i).toNat / 8)
  case atStart => exact ⟨0, Nat.zero_le _, rfl, World.ownsRow_nil _ _ _ _, Below.refl _ _⟩
  case round =>
    obtain ⟨k, hk, rfl, ho, hB⟩ := hrel
    have ho' := Lib.hid ho
    have hB' := Lib.hid hB
    clear ho hB
    by_cases hkn : 8 * k < n
    · have hkl := Lib.hid (show k < nw n from by rw [hnw.out]; omega)
      obtain ⟨g, off, rfl, hg, hgl, hcell⟩ := (hR'.out.carry hB'.out).row (by omega)
      have hgl8 := Lib.hid (show (grp L k).length = min 8 (n - 8 * k) from by rw [grp_len, hlen.out])
      have hbd := Lib.hid (fun p => le_drop_lt (hByt.out.grp k) (by rw [hgl8.out]; omega) p)
      obtain ⟨m, hm⟩ : ∃ m, m = min 8 (n - 8 * k) := ⟨_, rfl⟩
      have hcl := Lib.hid (fun (p : Nat) (hp : p < m) => (by
        have h1 : p < (grp L k).length := by rw [hgl8.out]; omega
        have h2 : (grp L k)[p]? = some (grp L k)[p] := List.getElem?_eq_getElem h1
        have h3 := h2
        rw [grp_at L k p (by omega)] at h3
        exact ⟨_, h2, hByt.out.grp k _ (List.getElem_mem h1), hcell _ _ h3⟩ : ∃ b, (grp L k)[p]? = some b ∧ b < 256 ∧ wr.cell? ⟨g, off + (8 * k + p), none⟩ = some (.int .u8 (b : Nat))))
      have hw := Lib.hid (show le ((grp L k).drop 0) = (word L k).toNat from by rw [word_nat hByt.out]; rfl)
      have hend := Lib.hid (show le ((grp L k).drop m) = 0 from by rw [hm, ← hgl8.out, List.drop_length]; rfl)
      generalize grp L k = G at *
      have hm1 : 1 ≤ m := by omega
      have hm2 : m ≤ 8 := by omega
      have hm3 : 8 * k + m ≤ n := by omega
      have hk8 : 8 * (k : Int) ≤ 1000 := by omega
      have hbits := Lib.hid (fun (p b : Nat) (h : G[p]? = some b) => le_drop h)
      have hsn := Lib.hid (wordsN_succ L k)
      have hz2k := hkl.out
      have hst : (8 * k + 8 ≤ n ∧ m = 8) ∨ (¬ 8 * k + 8 ≤ n ∧ m = n - 8 * k) := by omega
      have hk1 : k < 200 := by omega
      have hsz := hB'.out.size
      rcases hst with ⟨h8, hm8⟩ | ⟨h8, hm8⟩
      all_goals
        have hm8' := Lib.hid hm8
        clear hm8 hcell hm hz2k
        go_wp2_with fail
        go_loop [5, 6] (fun acc j => ∃ p : Nat, p ≤ m ∧ j = .int .i64 (8 * (k : Int) + (p : Int) - 1) ∧ acc = .int .u64 ((le (G.drop p) : Nat) : Int)) (fun _ j => ((intOf j) - 8 * (k : Int) + 1).toNat)
        case atStart => exact ⟨m, Nat.le_refl _, congrArg (Value.int .i64) (by have := hm8'.out; omega), by rw [hend.out]; rfl⟩
        case round =>
          obtain ⟨p, hp, rfl, rfl⟩ := hrel
          rcases Nat.eq_zero_or_pos p with hp0 | hp0
          · rw [hp0, hw.out]
            have hni : ¬ (8 * (k : Int) ≤ 8 * (k : Int) + ((0 : Nat) : Int) - 1) := by omega
            clear hp0
            go_wp2_with (at_builtin; refine wpList_append_own _ rfl _ _ 28 rfl w.heap.size 36 i0 _ 1 8 Try.underlying28 hi0 hz0 hz1 hz2 rfl (by decide) u3 k _ rfl (ho'.out.alloc _) ⟨wr.heap.size, 0, none⟩ 1 1 (u64s [word L k]) rfl rfl (fun j u hu => by rw [add_plain, Nat.zero_add, World.cell?_alloc_new]; simpa [u64s] using hu) (u64s_one _) (by unfold maxLen; omega) (by omega) (by simp; omega) ?_; intro v' w1 hown' hgrow _)
            go_roundw
            case rel => exact ⟨k + 1, hkl.out, by go_num, by rw [hsn.out, u64s_append]; exact hown', (hB'.out.alloc hB'.out.size _).grown hgrow (by simp; omega) fun r e => (ho'.out.lt r e).1⟩
            case measure => have := hkl.out; simp [intOf]; omega
          · obtain ⟨q, rfl⟩ : ∃ q, p = q + 1 := ⟨p - 1, by omega⟩
            obtain ⟨b, hb1, hb2, hb3⟩ := hcl.out q (by omega)
            have hd := hbits.out q b hb1
            have hbq := hbd.out q
            have hd' := Lib.hid hd
            have hyes : 8 * (k : Int) ≤ 8 * (k : Int) + ((q + 1 : Nat) : Int) - 1 := by omega
            have e1 : 256 * ((le (G.drop (q + 1)) : Nat) : Int) + (b : Int) ≤ 18446744073709551615 := by omega
            clear hd hb1 hbq
            generalize le (G.drop (q + 1)) = r at *
            go_wp2_with fail
            exact ⟨⟨q, by omega, congrArg _ (by omega), congrArg _ (by rw [hd'.out]; push_cast; omega)⟩, by simp only [intOf]; omega⟩
    · have hkk : k = nw n := by have := hnw.out; omega
      have hd := Lib.hid (And.intro ho'.out hB'.out)
      rw [hkk] at hd
      clear hkk
      have hni : ¬ (8 * (k : Int) < (n : Int)) := by omega
      go_wp2
      go_ret
      exact ⟨_, rfl, hd.out.1, hd.out.2⟩
end Go.Proofs.Ytknjdkgemkmoeaa
