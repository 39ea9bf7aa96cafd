/- Package unionfind: New. -/
import Derived.Test.YtalglkeabppabaaUfP
import Derived.Deep.OwnRows
namespace Go.Proofs.Ytalglkeabppabaa
open Go.ChangeShapes Go.WideShapes Go.ChangeAt Go.RowKit
set_option linter.unusedSimpArgs false
set_option linter.unusedVariables false
open Uf
theorem infoU : (Try.prog.info? 3).map (fun i => (i.zero, i.size, i.bytes)) = some (some (.int .i64 0), 1, 8) := by kernel_rfl
def upto (i : Nat) : Nat → Nat := fun j => if j < i then j else 0
theorem upto_succ (i : Nat) : upd (upto i) i i = upto (i + 1) := by
  funext j
  unfold upd upto
  by_cases h : j = i
  · subst h; simp
  · rw [if_neg h]
    by_cases h1 : j < i
    · rw [if_pos h1, if_pos (by omega)]
    · rw [if_neg h1, if_neg (by omega)]
theorem made_prow (k : Nat) : madeCells #[.int .i64 0] k = prow k (upto 0) := by
  apply Array.ext_getElem?
  intro j
  unfold madeCells prow upto
  by_cases h : j < k <;> simp [h, Nat.mod_one]
theorem Uf.Par.congr {w : World} {b g k : Nat} {P P' : Nat → Nat} (h : Par w b g k P) (e : ∀ i, i < k → P i = P' i) : Par w b g k P' :=
  ⟨h.ob, h.ne, by
    have : prow k P = prow k P' := by
      unfold prow
      congr 1
      apply List.map_congr_left
      intro i hi
      rw [e i (List.mem_range.1 hi)]
    rw [← this]; exact h.row⟩
set_option maxHeartbeats 4000000 in
theorem new_any (k : Nat) (w : World) (hk : k ≤ 10000) :
    Calls Try.prog 12 #[.int .i64 (k : Nat)] w fun e w' => ∃ b g, e = .returned (.pointer (some ⟨b, 0, none⟩)) ∧ St w' b g k idL ∧ w.heap.size ≤ b ∧ w.heap.size ≤ g ∧ Below w.heap.size w w' := by
  have hmk := run_make_row' (P := Try.prog) 22 3 (.int .i64 0) 8 Try.underlying22 infoU rfl .i64 .i64 k (by omega) (by omega)
  have hp : Par ((w.alloc (.cells (madeCells #[.int .i64 0] k) 3)).alloc (.cells #[.slice (some ⟨w.heap.size, 0, none⟩) k k] 48)) (w.heap.size + 1) w.heap.size k (upto 0) :=
    ⟨by rw [heap_alloc_at, if_pos (by simp)], by omega, by rw [heap_alloc_at, if_neg (by simp), heap_alloc_at, if_pos rfl, made_prow]⟩
  have hb0 := Lib.hid (((Below.refl w.heap.size w).alloc (Nat.le_refl _) (.cells (madeCells #[.int .i64 0] k) 3)).alloc (by simp) (.cells #[.slice (some ⟨w.heap.size, 0, none⟩) k k] 48))
  have hp' := Lib.hid hp
  clear hp
  go_enter Try.func12, Try.ntmps12
  go_upto_region 2 with fail
  obtain ⟨W, hW⟩ : ∃ W, W = (w.alloc (.cells (madeCells #[.int .i64 0] k) 3)).alloc (.cells #[.slice (some ⟨w.heap.size, 0, none⟩) k k] 48) := ⟨_, rfl⟩
  rw [← hW] at hp' hb0 ⊢
  clear hW hmk
  have c0 := hp'.out.cell0
  go_wp2_with fail
  go_loopw [4, 16] (fun z i wr => ∃ n : Nat, n ≤ k ∧ i = .int .i64 (n : Nat) ∧ Par wr (w.heap.size + 1) w.heap.size k (upto n) ∧ Below w.heap.size w wr) (fun _ i _ => k - (intOf i).toNat)
  case atStart => exact ⟨0, Nat.zero_le _, rfl, hp'.out, hb0.out⟩
  case round =>
    obtain ⟨n, hn, rfl, hq, hb⟩ := hrel
    have hb' := Lib.hid hb
    clear hb c0
    by_cases hlt : n < k
    · have c0 := hq.cell0
      have c1 := hq.cell hlt
      have f1 := hq.frozen n
      have hst := Lib.hid (hq.set hlt n)
      have hq' := Lib.hid hq
      clear hq
      go_wp2
      go_roundw
      case rel => exact ⟨n + 1, by omega, by go_num, by rw [← upto_succ]; exact hst.out, hb'.out.setCell (Nat.le_refl _) _⟩
      case measure => simp [intOf]; omega
    · obtain rfl : n = k := by omega
      have hq' := Lib.hid hq
      clear hq
      go_wp2
      go_ret
      exact ⟨_, _, rfl, ⟨_, hq'.out.congr (P' := fun i => i) (fun i hi => by unfold upto; rw [if_pos hi]), Low.start _⟩, by omega, Nat.le_refl _, hb'.out⟩
end Go.Proofs.Ytalglkeabppabaa
