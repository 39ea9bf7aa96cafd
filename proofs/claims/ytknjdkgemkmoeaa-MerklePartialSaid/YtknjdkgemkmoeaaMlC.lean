/- Package merkle: what rises from a leaf to the root, the hashes beside the way asked back. -/
import Derived.Test.YtknjdkgemkmoeaaMlB
namespace Go.Proofs.Ytknjdkgemkmoeaa
open Go.ChangeShapes Go.WideShapes Go.ChangeAt Go.RowKit Go.Shelf
set_option linter.unusedSimpArgs false
set_option linter.unusedVariables false
attribute [local go_sem] Oper.semAt_some

/-- The hashes on the way, from the value and the hashes beside it. -/
def hsW (i : Nat) (v : Int) (sb : Nat → W64) : Nat → W64
  | 0 => leafV i v
  | k + 1 => parW (i / 2 ^ k) (hsW i v sb k) (sb k)
/-- What a round is handed. -/
def riE (i : Nat) (v : Int) (sb : Nat → W64) (k : Nat) : Array Value := #[.agg #[.int .i64 (k : Nat), .int .i64 (i / 2 ^ k : Nat)], .int .u64 ((hsW i v sb k).toNat : Int)]
theorem rise_any (i v h : Int) (fb : Nat) (pre post : Array Value) (w : World) : Calls Try.prog 64 #[.int .i64 i, .int .i64 v, .int .i64 h, .func (.func fb) pre post] w fun e w' =>
    e = .returned (.func (.func 89) #[] #[.pointer (some ⟨w.heap.size, 0, none⟩), .pointer (some ⟨w.heap.size + 1, 0, none⟩), .pointer (some ⟨w.heap.size + 2, 0, none⟩), .pointer (some ⟨w.heap.size + 3, 0, none⟩)]) ∧
    w' = (((w.alloc (.cells #[.int .i64 i] 3)).alloc (.cells #[.int .i64 v] 3)).alloc (.cells #[.int .i64 h] 3)).alloc (.cells #[.func (.func fb) pre post] 100) := by
  go_enter Try.func64, Try.ntmps64
  go_wp2
  go_ret
  exact ⟨rfl, rfl⟩

theorem rise_boxes {X Y : World} {i v h : Int} {fb : Nat} {pre post : Array Value} (hY : Y = (((X.alloc (.cells #[.int .i64 i] 3)).alloc (.cells #[.int .i64 v] 3)).alloc (.cells #[.int .i64 h] 3)).alloc (.cells #[.func (.func fb) pre post] 100)) :
    Below X.heap.size X Y ∧ Y.heap.size = X.heap.size + 4 ∧ Y.cell? ⟨X.heap.size, 0, none⟩ = some (.int .i64 i) ∧ Y.cell? ⟨X.heap.size + 1, 0, none⟩ = some (.int .i64 v) ∧ Y.cell? ⟨X.heap.size + 2, 0, none⟩ = some (.int .i64 h) ∧ Y.cell? ⟨X.heap.size + 3, 0, none⟩ = some (.func (.func fb) pre post) := by
  subst hY
  refine ⟨below_step (below_step (below_step (alloc_below _ _) (alloc_below _ _)) (alloc_below _ _)) (alloc_below _ _), by simp, ?_, ?_, ?_, ?_⟩
  · exact carry (alloc_below _ _) (carry (alloc_below _ _) (carry (alloc_below _ _) (by simp [go_sem])))
  · exact carry (alloc_below _ _) (carry (alloc_below _ _) (by simp [go_sem]))
  · exact carry (alloc_below _ _) (by simp [go_sem])
  · simp [go_sem]

/-- What is asked back: the hash beside the way at level k. -/
def Beside (fb : Nat) (pre post : Array Value) (i h : Nat) (sb : Nat → W64) (k : Nat) (W : World) : Prop :=
  k < h → Calls Try.prog fb (pre.push (.agg #[.int .i64 (k : Nat), .int .i64 (sib (i / 2 ^ k) : Nat)]) ++ post) W fun e w' => e = .returned (.int .u64 ((sb k).toNat : Int)) ∧ Below W.heap.size W w'

theorem two_ways' {A X Y : Prop} {e : Ending} (h : A ∧ ((e = .returned (.bool true) ∧ X) ∨ (e = .returned (.bool false) ∧ Y))) : ∃ bb : Bool, e = .returned (.bool bb) ∧ A ∧ ((bb = true ∧ X) ∨ (bb = false ∧ Y)) := by
  obtain ⟨hA, ⟨rfl, hX⟩ | ⟨rfl, hY⟩⟩ := h
  · exact ⟨true, rfl, hA, .inl ⟨rfl, hX⟩⟩
  · exact ⟨false, rfl, hA, .inr ⟨rfl, hY⟩⟩

set_option maxHeartbeats 8000000 in
set_option maxRecDepth 100000 in
theorem rise_gives (i : Nat) (v : Int) (h : Nat) (sb : Nat → W64) (fb : Nat) (pre post : Array Value) (eb : ∀ args w, (callFunc fb args).run Try.prog w = .ok (.enter fb args) w)
    (bi bv bh bb : Nat) (S : Nat → Prop) (w : World) (ci : w.cell? ⟨bi, 0, none⟩ = some (.int .i64 (i : Nat))) (cv : w.cell? ⟨bv, 0, none⟩ = some (.int .i64 v)) (ch : w.cell? ⟨bh, 0, none⟩ = some (.int .i64 (h : Nat))) (cb : w.cell? ⟨bb, 0, none⟩ = some (.func (.func fb) pre post))
    (hS : S bi ∧ S bv ∧ S bh ∧ S bb) (hSl : ∀ r, S r → r < w.heap.size) (hi : i < 2 ^ h) (hh : h ≤ 16) :
    GivesQ Try.prog 89 #[.pointer (some ⟨bi, 0, none⟩), .pointer (some ⟨bv, 0, none⟩), .pointer (some ⟨bh, 0, none⟩), .pointer (some ⟨bb, 0, none⟩)] (riE i v sb) (h + 1) S (Beside fb pre post i h sb) w := by
  intro l J Jx W hW hJ hJx hQ hY h0
  have ciW := carry hW ci
  have cvW := carry hW cv
  have chW := carry hW ch
  have cbW := carry hW cb
  have hSW := Lib.hid fun r h => Nat.lt_of_lt_of_le (hSl r h) hW.size
  have n0 := block_lt_of_cell ciW
  have n1 := block_lt_of_cell cvW
  have n2 := block_lt_of_cell chW
  have n3 := block_lt_of_cell cbW
  simp only at n0 n1 n2 n3
  have hF := Lib.hid (And.intro hQ hY)
  clear ci cv ch cb hW hQ hY
  have him : i < 65536 := Nat.lt_of_lt_of_le hi (Nat.pow_le_pow_right (n := 2) (by decide) hh)
  refine (callsIn_wide (n := 9)).1 (callsIn_of_wp_marks Try.func89 rfl trivial (wpIn_wide.2 ?_) rfl)
  simp only [Try.ntmps89, List.size_toArray, List.length_cons, List.length_nil, Nat.reduceAdd, Nat.reduceSub, Array.replicate_succ, Array.replicate_zero, List.push_toArray, List.append_toArray, List.nil_append, List.cons_append]
  go_wp2_with fail
  refine (leafHash_any i v _).mono ?_
  rintro e V0 ⟨rfl, hV0⟩
  obtain ⟨U, hU⟩ : ∃ U, U = W.alloc (.cells #[.func (.yield l) #[] #[]] 136) := ⟨_, rfl⟩
  have hbU : Below W.heap.size W U := by rw [hU]; exact alloc_below _ _
  have hzU : U.heap.size = W.heap.size + 1 := by rw [hU]; simp
  have yU : U.cell? ⟨W.heap.size, 0, none⟩ = some (.func (.yield l) #[] #[]) := by rw [hU]; simp [go_sem]
  rw [← hU] at hV0
  clear hU
  have yV := carry hV0 yU
  have hBV := below_step hbU hV0
  have hzV := hV0.size
  have ciV := carry hBV ciW
  have cvV := carry hBV cvW
  have chV := carry hBV chW
  have cbV := carry hBV cbW
  clear hV0 yU hbU
  go_upto_region 2 with fail
  obtain ⟨U1, hU1⟩ : ∃ U1, U1 = V0.alloc (.cells #[.int .u64 ((leafV i v).toNat : Int)] 36) := ⟨_, rfl⟩
  have hb1 : Below V0.heap.size V0 U1 := by rw [hU1]; exact alloc_below _ _
  have hz1 : U1.heap.size = V0.heap.size + 1 := by rw [hU1]; simp
  have hv1 : Boxed U1 V0.heap.size 36 (.int .u64 ((leafV i v).toNat : Int)) := by rw [hU1]; exact Boxed.new _ _ _
  rw [← hU1]
  clear hU1
  have yV1 := carry hb1 yV
  have ciV1 := carry hb1 ciV
  have chV1 := carry hb1 chV
  have hB1 := below_step hBV hb1
  have hhb : W.heap.size + 1 ≤ V0.heap.size := by omega
  clear hb1 yV ciV cvV chV cbV hBV hzV
  generalize V0.heap.size = hb at *
  go_wp2_with fail
  refine (path_any i h _).mono ?_
  rintro e V ⟨rfl, hV⟩
  have hbV : Below U1.heap.size U1 V := by rw [hV]; exact below_step (alloc_below _ _) (alloc_below _ _)
  have hzV : V.heap.size = hb + 3 := by rw [hV]; simp; omega
  have ci2 : V.cell? ⟨U1.heap.size, 0, none⟩ = some (.int .i64 (i : Nat)) := by rw [hV]; exact carry (alloc_below _ _) (by simp [go_sem])
  have ch2 : V.cell? ⟨U1.heap.size + 1, 0, none⟩ = some (.int .i64 (h : Nat)) := by rw [hV]; simp [go_sem]
  have yV2 := carry hbV yV1
  have hv2 : Boxed V hb 36 (.int .u64 ((leafV i v).toNat : Int)) := (hbV.block _ hv1.lt).trans hv1
  have hB2 := below_step hB1 hbV
  clear hV hbV yV1 ciV1 chV1 hv1 hB1
  rw [hz1] at ci2 ch2 ⊢
  clear hz1
  go_wp2_with fail
  refine (wpIn_wide (n := 9)).1 ?_
  refine range_gives (w0 := V) (c := 0) (N := h) (S := fun r => r = hb + 1) rfl (enters_of Try.func87 (by kernel_rfl) rfl)
    (path_gives i h (hb + 1) (hb + 1 + 1) _ V ci2 ch2 rfl (by omega) (by omega)) (Below.refl _ _) (by rintro r rfl; omega) (fun _ => rfl)
    (fun k X => J k X ∧ KeepOn S W X ∧ Boxed X hb 36 (.int .u64 ((hsW i v sb k).toNat : Int)) ∧ X.cell? ⟨W.heap.size, 0, none⟩ = some (.func (.yield l) #[] #[])) (fun k X => Jx k X) ?hI ?hIx ⟨hJ.below h0 hB2, KeepOn.below hB2, hv2, yV2⟩ ?round ?done ?stop
  case hI =>
    refine Steady.and (hJ.mono fun r h => by omega) (Steady.and ?_ (Steady.and ?_ (steady_cell (by simp only; omega))))
    · exact fun k A B row hs hg hr => hs.trans (KeepOn.grown hg fun r e hSr => by have := hr r e; have := hSW.out r hSr; omega)
    · exact fun k A B row hs hg hr => hs.kept hg fun e => by have := hr _ e.symm; omega
  case hIx => exact hJx.mono fun r h => by omega
  case round =>
    rintro l1 k X hk hsz ⟨hj, hS1, hv1, hy1⟩
    have hks := Lib.hid (show hsW i v sb (k + 1) = parW (i / 2 ^ k) (hsW i v sb k) (sb k) from rfl)
    have hjm := Lib.hid (Nat.lt_of_le_of_lt (Nat.div_le_self i (2 ^ k)) (Nat.lt_trans him (show 65536 < 1000000 by omega)))
    have hQk : ∀ W1, J (k + 1) W1 → Beside fb pre post i h sb k W1 := fun W1 => hF.out.1 k W1 (by omega)
    have hYk := fun W1 => hF.out.2 k W1 (by omega)
    simp only [plE, riE] at hYk ⊢
    unfold Beside at hQk
    have hblk : hb + 2 ≤ V.heap.size := by omega
    generalize i / 2 ^ k = j at *
    generalize hsW i v sb k = x at *
    generalize sb k = y at *
    have hG := Lib.hid (And.intro hQk hYk)
    clear hQk hYk
    gi_wp2
    refine ⟨KeepOn.below (alloc_below _ _), fun Y hT => ?_⟩
    have hz : X.heap.size + 1 ≤ Y.heap.size := by have := hT.size; simpa using this
    have p0 : Y.cell? ⟨X.heap.size, 0, none⟩ = some (.int .i64 (k : Nat)) := hT.cell (by simp [go_sem]) (by simp only; omega)
    have p1 : Y.cell? ⟨X.heap.size, 1, none⟩ = some (.int .i64 (j : Nat)) := hT.cell (by simp [go_sem]) (by simp only; omega)
    have y1 : Y.cell? ⟨W.heap.size, 0, none⟩ = some (.func (.yield l) #[] #[]) := hT.cell (carry (alloc_below _ _) hy1) (by simp only; omega)
    have v1 : Boxed Y hb 36 (.int .u64 (x.toNat : Int)) := hT.heap (hv1.alloc _) (by omega)
    have v1c := v1.cell
    have hS2 := Lib.hid (hT.steady (J := fun _ Z => KeepOn S W Z) (k := 0) (fun k A B row hs hg hr => hs.trans (KeepOn.grown hg fun r e hSr => by have := hr r e; have := hSW.out r hSr; omega)) (hS1.trans (KeepOn.below (alloc_below X _))))
    have hjY := Lib.hid (hT.steady (J := J) (hJ.mono fun r h => by omega) (hJ.below hj (alloc_below _ _)))
    clear hT hj hS1 hv1 hy1
    generalize X.heap.size = pb at *
    obtain ⟨fn, tmps, assign, body, hy, hR⟩ := hG.out.2 Y (by omega) hjY.out
    gi_wp2_with fail
    refine (RoundIn.inner l1 (hR.mono fun _ _ h => two_ways' h)).mono ?_
    rintro e w3 ⟨bbb, rfl, hk3, h3⟩
    have hsub : ∀ r, (r = hb + 1 ∨ (V.heap.size ≤ r ∧ r < V.heap.size + 2 + 0)) → (S r ∨ W.heap.size ≤ r) := fun r h => .inr (by omega)
    have hk5 := Lib.hid (hk3.mono hsub)
    have hS3 := Lib.hid (hS2.out.trans (hk3.mono fun r h => .inl h))
    have y3 := hk3.cell y1 (.inr (by simp only; omega))
    have v3 : Boxed w3 hb 36 (.int .u64 (x.toNat : Int)) := hk3.at v1 (.inr (by omega))
    have v3c := v3.cell
    have v3f := v3.frozen
    have q0 := hk3.cell p0 (.inr (by simp only; omega))
    have q1 := hk3.cell p1 (.inr (by simp only; omega))
    have qb : w3.cell? ⟨bb, 0, none⟩ = some (.func (.func fb) pre post) := hS3.out.cell cbW hS.2.2.2
    have hzw := hk3.size
    have m0 := block_lt_of_cell q0
    have m1 := block_lt_of_cell qb
    have m2 := v3.lt
    simp only at m0 m1
    clear hR hy p0 p1 y1 v1 v1c hk3
    rcases h3 with ⟨rfl, hJ3⟩ | ⟨rfl, hJ3⟩
    · have K1 := fun w => sibling_any k j w hjm.out
      have K2 := fun Z (hZ : Below w3.heap.size w3 Z) => hG.out.1 Z (hJ.below hJ3 hZ) hk
      have K3 := fun w => parent_any k j x y w hjm.out
      rw [← hks.out] at K3
      obtain ⟨x2, hx2⟩ : ∃ x2, x2 = ((hsW i v sb (k + 1)).toNat : Int) := ⟨_, rfl⟩
      rw [← hx2] at K3
      replace hx2 := Lib.hid hx2
      generalize (y.toNat : Int) = yn at *
      generalize (x.toNat : Int) = xn at *
      generalize sib j = sj at *
      have hKK := Lib.hid (And.intro K1 (And.intro K2 K3))
      have hJ4 := Lib.hid hJ3
      clear K1 K2 K3 hJ3
      gi_wp2_with fail
      refine round_tail 7 (by kernel_rfl) (by kernel_rfl) (by kernel_rfl) (fun _ _ h => h) ?_
      intro Z hZ
      obtain ⟨hc, hf, hz2, hb2⟩ := hZ
      simp only [List.take_succ_cons, List.take_zero, List.drop_succ_cons, List.drop_zero]
      repeat (go_big_quiet_step (first | (with_reducible exact met_made (hKK.out.1 _)) | (with_reducible exact met_made (hKK.out.2.1 _ (hb2 _))) | (with_reducible exact met_made (hKK.out.2.2 _))))
      refine wpQuiet_nil ?_
      intro _ hw'
      obtain ⟨xq, hw''⟩ := hw'
      subst hw''
      have hbq := hb2 xq
      have v4 : Boxed (over Z xq) hb 36 (.int .u64 xn) := (hbq.block _ m2).trans v3
      have y4 := carry hbq y3
      clear hc hf hz2 hb2 v3 v3c v3f y3 q0 q1 qb hKK
      generalize over Z xq = w4 at *
      have c4 := v4.cell
      have f4 := v4.frozen
      go_wp2
      refine ⟨(hk5.out.trans (KeepOn.below hbq)).trans (KeepOn.setCell _ (by simp only; omega)), hJ _ _ _ (some hb) (hJ.below hJ4.out hbq) (grownBy_setCell' _ _ _) (by rintro r ⟨⟩; omega), (hS3.out.trans (KeepOn.below hbq)).trans (KeepOn.setCell _ fun h => by have := hSW.out _ h; simp only at this; omega), by rw [← hx2.out]; exact v4.set _, ?_⟩
      exact (KeepOn.setCell (S := fun r => r = W.heap.size) _ (by simp only; omega)).cell y4 rfl
    · gi_wp2
      exact ⟨hk5.out, hJ3⟩
  case done =>
    rintro D X rfl ⟨hj, hS1, hv1, hy1⟩ hD
    have e0 : i / 2 ^ h = 0 := Nat.div_eq_of_lt hi
    have hYk := fun W1 => hF.out.2 h W1 (by omega)
    simp only [riE] at hYk
    rw [e0, show ((0 : Nat) : Int) = 0 from rfl] at hYk
    have ch1 := hS1.cell chW hS.2.2.1
    have v1c := hv1.cell
    obtain ⟨fn, tmps, assign, body, hy, hR⟩ := hYk X (by have := hS1.size; omega) hj
    generalize hsW i v sb h = x at *
    have hj' := Lib.hid hj
    clear hj e0
    go_upto_region 6 with fail
    refine (wpIn_wide (n := 9)).1 ?_
    gi_wp2_with fail
    refine (RoundIn.any rfl hR).mono ?_
    rintro e w3 ⟨hk3, h3⟩
    have hD3 : w3.heap[V.heap.size]? = some (.deferred (some [])) := hk3.at hD (.inr (by omega))
    rw [hzV] at hD3
    rcases h3 with ⟨rfl, hJ3⟩ | ⟨rfl, hJ3⟩
    · gi_wp2
      refine ⟨by simp, .inl ⟨_, _, rfl, run_takeDeferred hD3, ?_⟩⟩
      exact ⟨_, results_none rfl _ _ _, ⟨_, rfl⟩, .inl (hJ _ _ _ _ hJ3 (grownBy_putObj' w3 _ _) (fun r e => by cases e; omega))⟩
    · gi_wp2
      refine ⟨by simp, .inl ⟨_, _, rfl, run_takeDeferred hD3, ?_⟩⟩
      exact ⟨_, results_none rfl _ _ _, ⟨_, rfl⟩, .inr ⟨h, by omega, hJx _ _ _ _ hJ3 (grownBy_putObj' w3 _ _) (fun r e => by cases e; omega)⟩⟩
  case stop =>
    rintro D k X rfl hk hj hD
    gi_wp2
    refine ⟨by simp, .inl ⟨_, _, rfl, run_takeDeferred hD, ?_⟩⟩
    exact ⟨_, results_none rfl _ _ _, ⟨_, rfl⟩, .inr ⟨k, by omega, hJx _ _ _ _ hj (grownBy_putObj' X _ _) (fun r e => by cases e; omega)⟩⟩
end Go.Proofs.Ytknjdkgemkmoeaa
