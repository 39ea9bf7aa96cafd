/- Package shape: the small functions; the iterator over the edges. -/
import Derived.Test.YtknjdkgemkmoeaaShapeRefE
import Derived.Test.YtknjdkgemkmoeaaRound
namespace Go.Proofs.Ytknjdkgemkmoeaa
open Go.ChangeShapes Go.WideShapes Go.ChangeAt Go.RowKit Go.Shelf
open Fxm
set_option linter.unusedSimpArgs false
set_option linter.unusedVariables false
attribute [local go_sem] Oper.semAt_some

theorem leftOf_any (v0 v1 u0 u1 : Int) (w : World) : Calls Try.prog 107 #[.agg #[.int .i64 v0, .int .i64 v1], .agg #[.int .i64 u0, .int .i64 u1]] w fun e w' =>
    e = .returned (.func (.func 111) #[] #[.pointer (some ⟨w.heap.size + 1, 0, none⟩), .pointer (some ⟨w.heap.size, 0, none⟩)]) ∧
      w' = (w.alloc (.cells #[.int .i64 v0, .int .i64 v1] 52)).alloc (.cells #[.int .i64 u0, .int .i64 u1] 52) := by
  go_enter Try.func107, Try.ntmps107
  go_wp2
  go_ret
  exact ⟨rfl, rfl⟩
theorem leftFn_any (p0 p1 v0 v1 u0 u1 : Int) (bu bv : Nat) (w : World) (hu0 : w.cell? ⟨bu, 0, none⟩ = some (.int .i64 u0)) (hu1 : w.cell? ⟨bu, 1, none⟩ = some (.int .i64 u1)) (hv0 : w.cell? ⟨bv, 0, none⟩ = some (.int .i64 v0)) (hv1 : w.cell? ⟨bv, 1, none⟩ = some (.int .i64 v1))
    (qp0 : Bq p0) (qp1 : Bq p1) (qv0 : Bq v0) (qv1 : Bq v1) (qu0 : Bq u0) (qu1 : Bq u1) :
    Calls Try.prog 111 #[.agg #[.int .i64 p0, .int .i64 p1], .pointer (some ⟨bu, 0, none⟩), .pointer (some ⟨bv, 0, none⟩)] w fun e w' => e = .returned (.int .i64 (leftV (v0, v1) (u0, u1) (p0, p1))) ∧ Below w.heap.size w w' := by
  have hb := block_lt_of_cell hu0
  have hb' := block_lt_of_cell hv0
  unfold Bq at *
  have p1 := prod27 (a := u0 - v0) (b := p1 - v1) (by omega) (by omega) (by omega) (by omega)
  have p2 := prod27 (a := u1 - v1) (b := p0 - v0) (by omega) (by omega) (by omega) (by omega)
  go_enter Try.func111, Try.ntmps111
  go_wp2
  go_ret
  refine ⟨rfl, ?_⟩
  repeat (first | exact Below.refl _ _ | (refine Below.setCell ?_ (by first | (simp; done) | (simp; omega) | omega) _) | (refine Below.alloc ?_ (by first | exact Nat.le_refl _ | (simp; done) | (simp; omega) | omega) _) | refine Below.drew ?_ | (refine Below.trans ?_ ((hb _).mono (by first | (simp; done) | (simp; omega) | omega))) | (refine Below.trans ?_ (hb1.mono (by first | (simp; done) | (simp; omega) | omega))))
theorem edges_any (n : Nat) (w : World) : Calls Try.prog 106 #[.int .i64 n] w fun e w' =>
    e = .returned (.func (.func 110) #[] #[.pointer (some ⟨w.heap.size, 0, none⟩)]) ∧ w' = w.alloc (.cells #[.int .i64 n] 3) := by
  go_enter Try.func106, Try.ntmps106
  go_wp2
  go_ret
  exact ⟨rfl, rfl⟩

def upTo (n k : Nat) : List (Fin n) := (List.finRange n).take k
theorem upTo_succ {n k : Nat} (h : k < n) : upTo n (k + 1) = upTo n k ++ [⟨k, h⟩] := by
  unfold upTo
  rw [List.take_succ_eq_append_getElem (by simpa using h)]
  simp
theorem upTo_length {n k : Nat} (h : k ≤ n) : (upTo n k).length = k := by unfold upTo; simp; omega
theorem upTo_all (n : Nat) (i : Fin n) : i ∈ upTo n n := by
  unfold upTo
  rw [List.take_of_length_le (by simp)]
  exact List.mem_finRange i

/-- What the loop over the edges is handed. -/
def edgeV (n : Nat) (x : Fin n) : Array Value := #[.int .i64 (x.1 : Int), .int .i64 (((x.1 + 1) % n : Nat) : Int)]

set_option maxRecDepth 100000 in
set_option maxHeartbeats 2000000 in
theorem edgesFn_in (m l Bs n₀ n : Nat) (hm : 1 ≤ m) (hn : n ≤ 1000) (hBn : Bs < n₀) (J Jx : List (Fin n) → World → Prop)
    (hY : ∀ pre x W, J pre W → pre.length < n → YieldAt Fence.wide (m - 1) Try.prog l (edgeV n x) W fun e W' =>
      (e = .returned (.bool true) ∧ J (pre ++ [x]) W' ∧ Below n₀ W W') ∨ (e = .returned (.bool false) ∧ Jx (pre ++ [x]) W'))
    (W : World) (hBs : W.cell? ⟨Bs, 0, none⟩ = some (.int .i64 n)) (h0 : J [] W) :
    CallsIn Fence.wide m Try.prog 110 #[.func (.yield l) #[] #[], .pointer (some ⟨Bs, 0, none⟩)] W fun e W' => (∃ v, e = .returned v) ∧
      ((∃ ys, (∀ i : Fin n, i ∈ ys) ∧ J ys W') ∨ (∃ pre, True ∧ Jx pre W')) := by
  refine callsIn_of_wp Try.func110 rfl trivial ?_ rfl
  simp only [Try.ntmps110, List.size_toArray, List.length_cons, List.length_nil, Nat.reduceAdd, Nat.reduceSub, Array.replicate_succ, Array.replicate_zero, List.push_toArray, List.append_toArray, List.nil_append, List.cons_append]
  gi_wp2
  gi_loopw [5] (fun i wr => ∃ k : Nat, k ≤ n ∧ i = .int .i64 k ∧ J (upTo n k) wr ∧ Below n₀ W wr) (fun i _ => n - (intOf i).toNat)
  case atStart => exact ⟨0, Nat.zero_le _, rfl, h0, Below.refl _ _⟩
  case round =>
    obtain ⟨k, hk, rfl, hJs, hnx⟩ := hrel
    have hcx : wr.cell? ⟨Bs, 0, none⟩ = some (.int .i64 n) := (hnx.cell (p := ⟨Bs, 0, none⟩) hBn).trans hBs
    by_cases hlt : k < n
    · obtain ⟨fn, tmps, assign, body, hy, hR⟩ := hY _ ⟨k, hlt⟩ wr hJs (by rw [upTo_length hk]; exact hlt)
      simp only [edgeV] at hy
      have hmod : ((k : Int) + 1) % (n : Int) = (((k + 1) % n : Nat) : Int) := by push_cast; rfl
      rw [← hmod] at hy
      have hklt : (k : Int) < (n : Int) := by omega
      have hn1 : (n : Int) ≤ 1000 := by omega
      clear hmod
      gi_wp2
      refine hR.mono ?_
      rintro e W3 (⟨rfl, hJ3, hk3⟩ | ⟨rfl, hJx3⟩)
      · gi_wp2
        go_roundw
        case rel => exact ⟨k + 1, by omega, by simp, by rw [upTo_succ hlt]; exact hJ3, hnx.trans hk3⟩
        case measure => simp [intOf]; omega
      · gi_wp2
        refine bodyPost_ret (results_none rfl _ _ _) rfl ?_
        exact ⟨⟨_, rfl⟩, .inr ⟨_, trivial, hJx3⟩⟩
    · obtain rfl : k = n := by omega
      gi_wp2
      go_end0
      exact ⟨⟨_, rfl⟩, .inl ⟨_, upTo_all k, hJs⟩⟩

theorem edges_stops (m Bs n₀ n : Nat) (hm : 1 ≤ m) (hn : n ≤ 1000) (w : World) (hBs : w.cell? ⟨Bs, 0, none⟩ = some (.int .i64 n)) (hBn : Bs < n₀) (hn₀ : n₀ ≤ w.heap.size) :
    SeqStopsK Fence.wide m Try.prog 110 #[.pointer (some ⟨Bs, 0, none⟩)] (edgeV n) (Below n₀) (fun ys => ∀ i : Fin n, i ∈ ys) (fun _ => True) n w := fun l J Jx W hW _ _ hY h0 =>
  edgesFn_in m l Bs n₀ n hm hn hBn J Jx hY W (Proofs.Ytknjdkgemkmoeaa.carry hW hBs) h0
end Go.Proofs.Ytknjdkgemkmoeaa
