/- Package merkle: a tree's Prove. -/
import Derived.Test.YtknjdkgemkmoeaaMlJ
namespace Go.Proofs.Ytknjdkgemkmoeaa
open Go.ChangeShapes Go.WideShapes Go.ChangeAt Go.RowKit Go.Shelf
set_option linter.unusedSimpArgs false
set_option linter.unusedVariables false
attribute [local go_sem] Oper.semAt_some

/-- The slot behind a row of the call's own, and one element more. -/
theorem own_slot {w : World} {base : Nat} {e : TypeId} {g k cap : Nat} {xs : List Value} (h : w.ownsRow base e 1 (.slice (some ⟨g, 0, none⟩) k cap) k xs) (hk : k < cap) : ∃ c, w.cell? ⟨g, k, none⟩ = some c ∧ w.frozen? ⟨g, k, none⟩ = false := by
  rcases h.2 with ⟨h1, _⟩ | ⟨g', cap', cur, h1, _, hg, _, _, hcs, _⟩
  · cases h1
  · cases h1
    refine ⟨cur[k]'(by omega), ?_, by simp [World.frozen?, hg]⟩
    simp [World.cell?, hg, show k < cur.size by omega]
theorem own_push {w : World} {base : Nat} {e : TypeId} {g k cap : Nat} {xs : List Value} (h : w.ownsRow base e 1 (.slice (some ⟨g, 0, none⟩) k cap) k xs) (hk : k < cap) (z : Value) :
    (w.setCell ⟨g, k, none⟩ z).ownsRow base e 1 (.slice (some ⟨g, 0, none⟩) (k + 1) cap) (k + 1) (xs ++ [z]) := by
  refine ⟨by rw [List.length_append, h.1]; simp, ?_⟩
  rcases h.2 with ⟨h1, _⟩ | ⟨g', cap', cur, h1, h2, hg, h4, h5, hcs, htake⟩
  · cases h1
  · cases h1
    refine .inr ⟨g, cap, cur.setIfInBounds k z, rfl, h2, heap_setCell hg k z, hk, h5, by simpa using hcs, ?_⟩
    rw [← htake]
    refine List.ext_getElem? fun j => ?_
    rw [Nat.mul_one, Nat.mul_one, List.getElem?_take, List.getElem?_append, List.length_take, Array.length_toList, Nat.min_eq_left (by omega)]
    by_cases h6 : j < k + 1
    · rw [if_pos h6, Array.getElem?_toList, Array.getElem?_setIfInBounds]
      by_cases h7 : j < k
      · rw [if_pos h7, if_neg (by omega), List.getElem?_take, if_pos h7, Array.getElem?_toList]
      · obtain rfl : j = k := by omega
        rw [if_neg h7, if_pos rfl, if_pos (by omega), Nat.sub_self]; rfl
    · rw [if_neg h6, if_neg (by omega), List.getElem?_eq_none (by simp; omega)]

theorem LfB.put3 {w : World} {b : Nat} {i v : Int} {pv : Value} (h : LfB w b i v pv) (i' v' : Int) (pv' : Value) : LfB (((w.setCell ⟨b, 0, none⟩ (.int .i64 i')).setCell ⟨b, 1, none⟩ (.int .i64 v')).setCell ⟨b, 2, none⟩ pv') b i' v' pv' :=
  heap_setCell (heap_setCell (heap_setCell h 0 (.int .i64 i')) 1 (.int .i64 v')) 2 pv'
theorem own_other' {Y : World} {base g n cap : Nat} {xs : List Value} (h : Y.ownsRow base 36 1 (.slice (some ⟨g, 0, none⟩) n cap) n xs) (b : Nat) (hb : b ≠ g) (u0 u1 u2 : Value) :
    (((Y.setCell ⟨b, 0, none⟩ u0).setCell ⟨b, 1, none⟩ u1).setCell ⟨b, 2, none⟩ u2).ownsRow base 36 1 (.slice (some ⟨g, 0, none⟩) n cap) n xs :=
  ((h.kept (grownBy_set Y ⟨b, 0, none⟩ u0) (.inr (by simp [Value.ownBlock]; exact fun e => hb e.symm))).kept (grownBy_set _ ⟨b, 1, none⟩ u1) (.inr (by simp [Value.ownBlock]; exact fun e => hb e.symm))).kept (grownBy_set _ ⟨b, 2, none⟩ u2) (.inr (by simp [Value.ownBlock]; exact fun e => hb e.symm))
theorem ne_of_out {n m N cap : Nat} (h : m = n + 6) : (Value.slice (some ⟨n + 2, 0, none⟩) N cap).ownBlock ≠ some m := fun e => by
  have h1 : n + 2 = m := by simpa [Value.ownBlock] using e
  omega
theorem prove_round {w y : World} {b H k : Nat} {x : TrX} {C : List Int} {z : W64} {L : List W64} {o : Obj} (hT : Tr y b x C (rowsW C)) (hall : ∀ r, x.all b (ht C.length) r → r < w.heap.size)
    (hv : Boxed y (w.heap.size + 3) 28 (.slice (some ⟨w.heap.size + 2, 0, none⟩) k H)) (ho : y.ownsRow w.heap.size 36 1 (.slice (some ⟨w.heap.size + 2, 0, none⟩) k H) k (u64s L)) (hk : k < H)
    (hp : y.cell? ⟨w.heap.size, 0, none⟩ = some (.pointer (some ⟨b, 0, none⟩))) (hL : LfB y (w.heap.size + 1) 0 0 (.slice none 0 0)) (hB : Below w.heap.size w y) :
    Tr (((y.setCell ⟨w.heap.size + 2, k, none⟩ (.int .u64 (z.toNat : Int))).setCell ⟨w.heap.size + 3, 0, none⟩ (.slice (some ⟨w.heap.size + 2, 0, none⟩) (k + 1) H)).alloc o) b x C (rowsW C) ∧
    (Boxed (((y.setCell ⟨w.heap.size + 2, k, none⟩ (.int .u64 (z.toNat : Int))).setCell ⟨w.heap.size + 3, 0, none⟩ (.slice (some ⟨w.heap.size + 2, 0, none⟩) (k + 1) H)).alloc o) (w.heap.size + 3) 28 (.slice (some ⟨w.heap.size + 2, 0, none⟩) (k + 1) H) ∧
      (((y.setCell ⟨w.heap.size + 2, k, none⟩ (.int .u64 (z.toNat : Int))).setCell ⟨w.heap.size + 3, 0, none⟩ (.slice (some ⟨w.heap.size + 2, 0, none⟩) (k + 1) H)).alloc o).ownsRow w.heap.size 36 1 (.slice (some ⟨w.heap.size + 2, 0, none⟩) (k + 1) H) (k + 1) (u64s (L ++ [z]))) ∧
    (((y.setCell ⟨w.heap.size + 2, k, none⟩ (.int .u64 (z.toNat : Int))).setCell ⟨w.heap.size + 3, 0, none⟩ (.slice (some ⟨w.heap.size + 2, 0, none⟩) (k + 1) H)).alloc o).cell? ⟨w.heap.size, 0, none⟩ = some (.pointer (some ⟨b, 0, none⟩)) ∧
    LfB (((y.setCell ⟨w.heap.size + 2, k, none⟩ (.int .u64 (z.toNat : Int))).setCell ⟨w.heap.size + 3, 0, none⟩ (.slice (some ⟨w.heap.size + 2, 0, none⟩) (k + 1) H)).alloc o) (w.heap.size + 1) 0 0 (.slice none 0 0) ∧
    Below w.heap.size w (((y.setCell ⟨w.heap.size + 2, k, none⟩ (.int .u64 (z.toNat : Int))).setCell ⟨w.heap.size + 3, 0, none⟩ (.slice (some ⟨w.heap.size + 2, 0, none⟩) (k + 1) H)).alloc o) := by
  have e1 : ∀ r, r ≠ w.heap.size + 2 → (y.setCell ⟨w.heap.size + 2, k, none⟩ (.int .u64 (z.toNat : Int))).heap[r]? = y.heap[r]? := fun r hr => Below.heap_setCell _ _ _ _ hr
  obtain ⟨A, hA⟩ : ∃ A, A = y.setCell ⟨w.heap.size + 2, k, none⟩ (.int .u64 (z.toNat : Int)) := ⟨_, rfl⟩
  have hoA : A.ownsRow w.heap.size 36 1 (.slice (some ⟨w.heap.size + 2, 0, none⟩) (k + 1) H) (k + 1) (u64s (L ++ [z])) := by rw [hA, u64s_append]; exact own_push ho hk _
  have hBA : Below w.heap.size w A := by rw [hA]; exact hB.setCell (by simp only; omega) _
  rw [← hA] at e1 ⊢
  clear hA
  have e2 : ∀ r, r ≠ w.heap.size + 3 → (A.setCell ⟨w.heap.size + 3, 0, none⟩ (.slice (some ⟨w.heap.size + 2, 0, none⟩) (k + 1) H)).heap[r]? = A.heap[r]? := fun r hr => Below.heap_setCell _ _ _ _ hr
  have hvA : Boxed A (w.heap.size + 3) 28 (.slice (some ⟨w.heap.size + 2, 0, none⟩) k H) := (e1 _ (by omega)).trans hv
  have e3 : ∀ r, r ≠ w.heap.size + 2 → r ≠ w.heap.size + 3 → (A.setCell ⟨w.heap.size + 3, 0, none⟩ (.slice (some ⟨w.heap.size + 2, 0, none⟩) (k + 1) H)).heap[r]? = y.heap[r]? := fun r h1 h2 => (e2 r h2).trans (e1 r h1)
  refine ⟨(hT.keep fun r hr => ?_).carry (alloc_below _ _), ⟨(hvA.set _).alloc _, ?_⟩, carry (alloc_below _ _) ((World.cell?_of_block (w := y) (e3 w.heap.size (by omega) (by omega))).trans hp), LfB.below (show LfB _ _ _ _ _ from (e3 _ (by omega) (by omega)).trans hL) (alloc_below _ _), ?_⟩
  · have := hall r hr
    exact e3 r (by omega) (by omega)
  · exact (hoA.kept (grownBy_set A ⟨w.heap.size + 3, 0, none⟩ _) (.inr (by simp [Value.ownBlock]))).alloc _
  · exact (hBA.setCell (by simp only; omega) _).trans ((alloc_below _ _).mono (by rw [World.size_setCell]; exact hBA.size))

set_option maxRecDepth 100000 in
set_option maxHeartbeats 8000000 in
theorem treeProve_any (w : World) (b : Nat) (x : TrX) (C : List Int) (i : Int) (h : Tr w b x C (rowsW C)) (hl : C.length ≤ 1000) :
    Calls Try.prog 15 #[.pointer (some ⟨b, 0, none⟩), .int .i64 i] w fun e w' => ∃ pv, e = .returned (.agg #[.int .i64 (prI C i), .int .i64 (prV C i), pv]) ∧ w'.ownsRow w.heap.size 36 1 pv (prL C i).length (u64s (prL C i)) ∧ Below w.heap.size w w' := by
  obtain ⟨U, hU⟩ : ∃ U, U = (w.alloc (.cells #[.pointer (some ⟨b, 0, none⟩)] 24)).alloc (.cells #[.int .i64 0, .int .i64 0, .slice none 0 0] 30) := ⟨_, rfl⟩
  have hBU : Below w.heap.size w U := by rw [hU]; exact below_step (alloc_below _ _) (alloc_below _ _)
  have hzU : U.heap.size = w.heap.size + 2 := by rw [hU]; simp
  have p0 : U.cell? ⟨w.heap.size, 0, none⟩ = some (.pointer (some ⟨b, 0, none⟩)) := by rw [hU]; exact carry (alloc_below _ _) (by simp [go_sem])
  have hLU : LfB U (w.heap.size + 1) 0 0 (.slice none 0 0) := by rw [hU]; have := LfB.new (w.alloc (.cells #[.pointer (some ⟨b, 0, none⟩)] 24)) 0 0 (.slice none 0 0); rwa [World.size_alloc] at this
  have hT := Lib.hid (h.carry hBU)
  have hlt := Lib.hid fun r hr => h.lt (r := r) hr
  have hbb : b < w.heap.size := h.lt (.inl rfl)
  have kh := Lib.hid (fun W hW => (treeHas_any W b x C (rowsW C) i hW hl))
  by_cases hin : 0 ≤ i ∧ i < C.length
  · rw [decide_eq_true hin] at kh
    obtain ⟨j, rfl⟩ : ∃ j : Nat, i = (j : Int) := ⟨i.toNat, by omega⟩
    have hj : j < C.length := by omega
    obtain ⟨y, hy⟩ : ∃ y, C[j]? = some y := ⟨_, List.getElem?_eq_getElem hj⟩
    obtain ⟨q1, q2, q3⟩ := pr_in hy
    rw [q1, q2, q3]
    clear q1 q2 q3 hin h
    obtain ⟨H, hH⟩ : ∃ H, H = ht C.length := ⟨_, rfl⟩
    have h16 : H ≤ 16 := by rw [hH]; exact ht_small (by omega)
    rw [← hH] at hlt ⊢
    have hH' := Lib.hid hH
    have kg := Lib.hid (fun Z (hZ : Below U.heap.size U Z) => by
      have := treeHeight_any Z b x C _ (hT.out.carry hZ) hl
      rw [← hH] at this
      exact this)
    obtain ⟨i0, hi0, hz0, hz1, hz2⟩ := info_parts info_word
    have hi0' := Lib.hid (And.intro hi0 (And.intro hz0 (And.intro hz1 hz2)))
    obtain ⟨Cc, hCc, hmk⟩ : ∃ Cc : Array Value, Cc.size = H * 1 ∧ ∀ w : World, (Instr.makeSlice 28 (.int .i64 0) (.int .i64 (H : Int))).run Try.prog w = .ok (.slice (some ⟨w.heap.size, 0, none⟩) 0 H) (w.alloc (.cells Cc 36)) :=
      ⟨_, size_madeCells _ _, fun w => by
        have h := run_make (P := Try.prog) w 28 36 i0 (.int .u64 0) Try.underlying28 hi0 hz0 .i64 .i64 0 (H : Int) (by omega) (by omega) (by rw [hz2]; omega) (by omega)
        rw [h, hz1]
        rfl⟩
    have hC' := Lib.hid hCc
    clear hCc hi0 hz0 hz1 hz2 hH
    refine (callsIn_wide (n := 9)).1 (callsIn_of_wp_marks Try.func15 rfl trivial (wpIn_wide.2 ?_) rfl)
    simp only [Try.ntmps15, List.size_toArray, List.length_cons, List.length_nil, Nat.reduceAdd, Nat.reduceSub, Array.replicate_succ, Array.replicate_zero, List.push_toArray, List.append_toArray, List.nil_append, List.cons_append]
    go_wp2_with fail
    rw [← hU]
    clear hU
    refine (kh.out U hT.out).mono ?_
    rintro e w1 ⟨rfl, rfl⟩
    clear kh
    go_wp2_with fail
    refine (kg.out _ (Below.refl _ _)).mono ?_
    rintro e w2 ⟨rfl, rfl⟩
    go_upto_region 4 with fail
    obtain ⟨V, hV⟩ : ∃ V, V = (U.alloc (.cells Cc 36)).alloc (.cells #[.slice (some ⟨w.heap.size + 2, 0, none⟩) 0 H] 28) := ⟨_, rfl⟩
    have hbV : Below U.heap.size U V := by rw [hV]; exact below_step (alloc_below _ _) (alloc_below _ _)
    have hzV : V.heap.size = w.heap.size + 4 := by rw [hV]; simp; omega
    have hvV : Boxed V (w.heap.size + 3) 28 (.slice (some ⟨w.heap.size + 2, 0, none⟩) 0 H) := by
      have := Boxed.new (U.alloc (.cells Cc 36)) 28 (.slice (some ⟨w.heap.size + 2, 0, none⟩) 0 H)
      rw [← hV, World.size_alloc, hzU] at this
      exact this
    have hoV : V.ownsRow w.heap.size 36 1 (.slice (some ⟨w.heap.size + 2, 0, none⟩) 0 H) 0 (u64s (proofW C j 0)) := by
      have := (World.ownsRow_made (base := w.heap.size) (e := 36) (size := 1) U Cc H (by omega) (by unfold maxLen; omega) hC'.out).alloc (.cells #[.slice (some ⟨w.heap.size + 2, 0, none⟩) 0 H] 28)
      rw [← hV, hzU] at this
      exact this
    rw [show w.heap.size + 2 + 1 = w.heap.size + 3 from rfl, ← hV]
    have hTV := Lib.hid (hT.out.carry hbV)
    have kgV := Lib.hid (kg.out V hbV)
    have pV := carry hbV p0
    have hLV := hLU.below hbV
    have hBV := below_step hBU hbV
    clear hV hbV hmk hC' kg p0 hLU hT hBU
    go_wp2_with fail
    refine (kgV.out).mono ?_
    rintro e w3 ⟨rfl, rfl⟩
    go_wp2_with fail
    refine (path_any _ _ _).mono ?_
    rintro e X ⟨rfl, hX⟩
    have hbX : Below V.heap.size V X := by rw [hX]; exact below_step (alloc_below _ _) (alloc_below _ _)
    have hzX : X.heap.size = w.heap.size + 6 := by rw [hX]; simp; omega
    have ci2 : X.cell? ⟨w.heap.size + 4, 0, none⟩ = some (.int .i64 (j : Nat)) := by rw [hX, ← hzV]; exact carry (alloc_below _ _) (by simp [go_sem])
    have ch2 : X.cell? ⟨w.heap.size + 5, 0, none⟩ = some (.int .i64 (H : Nat)) := by rw [hX, show w.heap.size + 5 = (V.alloc (.cells #[.int .i64 (j : Nat)] 3)).heap.size from by simp; omega]; simp [go_sem]
    have hTX := Lib.hid (hTV.out.carry hbX)
    have pX := carry hbX pV
    have hLX := hLV.below hbX
    have hBX := below_step hBV hbX
    have hvX : Boxed X (w.heap.size + 3) 28 (.slice (some ⟨w.heap.size + 2, 0, none⟩) 0 H) := (hbX.block _ hvV.lt).trans hvV
    have hoX := own_other hoV (grown_of_below hbX) (fun r e => by cases e)
    clear hX hbX hTV kgV pV hLV hBV hvV hoV
    rw [hzV, show w.heap.size + 4 + 1 = w.heap.size + 5 from rfl]
    clear hzV
    have hall' := Lib.hid (show ∀ r, x.all b (ht C.length) r → r < w.heap.size from by rw [← hH'.out]; exact hlt.out)
    have hjH := Lib.hid (show j < 1000000 from by omega)
    go_wp2_with fail
    refine (wpIn_wide (n := 9)).1 ?_
    refine range_gives (w0 := X) (c := 0) (N := H) (S := fun r => r = w.heap.size + 4) rfl (enters_of Try.func87 (by kernel_rfl) rfl)
      (path_gives j H (w.heap.size + 4) (w.heap.size + 5) _ X ci2 ch2 rfl hjH.out (by omega)) (Below.refl _ _) (by rintro r rfl; omega) (fun _ => rfl)
      (fun k Z => Tr Z b x C (rowsW C) ∧ (Boxed Z (w.heap.size + 3) 28 (.slice (some ⟨w.heap.size + 2, 0, none⟩) k H) ∧ Z.ownsRow w.heap.size 36 1 (.slice (some ⟨w.heap.size + 2, 0, none⟩) k H) k (u64s (proofW C j k))) ∧ Z.cell? ⟨w.heap.size, 0, none⟩ = some (.pointer (some ⟨b, 0, none⟩)) ∧ LfB Z (w.heap.size + 1) 0 0 (.slice none 0 0) ∧ Below w.heap.size w Z) (fun _ _ => False) ?hI (fun _ _ _ _ h _ _ => h) ⟨hTX.out, ⟨hvX, hoX⟩, pX, hLX, hBX⟩ ?round ?done ?stop
    case hI =>
      refine Steady.and (Tr.steady (N := X.heap.size) (fun r h => h.1) fun r hr => by have := hall'.out r hr; omega) (Steady.and ?_ (Steady.and (steady_cell (by simp only; omega)) (Steady.and (steady_block (o := fun _ => _) (by omega)) (steady_below (Nat.le_refl _) fun r h => by omega))))
      rintro k A B row ⟨hv, ho⟩ hg ht
      exact ⟨hv.kept hg (fun e => by have := ht _ e.symm; omega), ho.kept hg (.inr fun e => by have := ht (w.heap.size + 2) (by simpa [Value.ownBlock] using e.symm); omega)⟩
    case round =>
      rintro l1 k Z hk hsz ⟨hZ, ⟨hv1, ho1⟩, p1, hL1, hB1⟩
      have hkp : k < ht C.length := by rw [← hH'.out]; exact hk
      have hps := Lib.hid (proofW_succ C j k)
      have hs : sib (j / 2 ^ k) < pw C.length k := pw_sib hj hkp
      have hz : (rowsW C k)[sib (j / 2 ^ k)]? = some (nodeW C k (sib (j / 2 ^ k))) := rw_at _ hs
      have hjm := Lib.hid (Nat.lt_of_le_of_lt (Nat.div_le_self j (2 ^ k)) hjH.out)
      have kH2 := Lib.hid (fun W (hW : Tr W b x C (rowsW C)) => treeHash_any W b x C _ k (sib (j / 2 ^ k)) _ hW (by omega) hz hl)
      have kS := Lib.hid (fun W => sibling_any k (j / 2 ^ k) W hjm.out)
      simp only [plE]
      clear hz hs hkp
      generalize nodeW C k (sib (j / 2 ^ k)) = z at *
      generalize sib (j / 2 ^ k) = sj at *
      generalize j / 2 ^ k = jk at *
      gi_wp2
      refine ⟨KeepOn.below (alloc_below _ _), fun T hT => ?_⟩
      have hz : Z.heap.size + 1 ≤ T.heap.size := by have := hT.size; simpa using this
      have t0 : T.cell? ⟨Z.heap.size, 0, none⟩ = some (.int .i64 (k : Nat)) := hT.cell (by simp [go_sem]) (by simp only; omega)
      have t1 : T.cell? ⟨Z.heap.size, 1, none⟩ = some (.int .i64 (jk : Nat)) := hT.cell (by simp [go_sem]) (by simp only; omega)
      have t2 := hT.cell (carry (alloc_below _ _) p1) (by simp only; omega)
      have hvT : Boxed T (w.heap.size + 3) 28 (.slice (some ⟨w.heap.size + 2, 0, none⟩) k H) := hT.heap (hv1.alloc _) (by omega)
      have hLT : LfB T (w.heap.size + 1) 0 0 (.slice none 0 0) := hT.heap (hL1.below (alloc_below _ _)) (by omega)
      have hoT : T.ownsRow w.heap.size 36 1 (.slice (some ⟨w.heap.size + 2, 0, none⟩) k H) k (u64s (proofW C j k)) := by
        obtain ⟨r, hr1, hg⟩ := hT
        exact (ho1.alloc _).kept hg (.inr fun e => by simp [Value.ownBlock] at e; omega)
      have hZT := Lib.hid (hT.steady (J := fun _ W => Tr W b x C (rowsW C)) (k := 0) (Tr.steady (R := fun _ => rowsW C) (N := X.heap.size) (fun r h => h.1) fun r hr => by have := hall'.out r hr; omega) (hZ.carry (alloc_below _ _)))
      have hBT : Below w.heap.size w T := hT.steady (J := fun _ W => Below w.heap.size w W) (k := 0) (steady_below (Nat.le_refl _) fun r h => by omega) (hB1.trans ((alloc_below _ _).mono hB1.size))
      clear hZ hT hv1 ho1 p1 hL1 hB1
      generalize Z.heap.size = pb at *
      have vT := hvT.cell
      gi_wp2_with fail
      have hm : Try.prog.follows .mixedOrders = true := by kernel_rfl
      have bD : Below T.heap.size T T.drew := (Below.refl _ T).drew
      have m0 := hvT.lt
      have m1 := block_lt_of_cell t0
      simp only at m1
      have hk1 : k + 1 ≤ H := hk
      gi_region_with_o (first
        | (refine ⟨trivial, ?_⟩; gi_at_call 60; refine (CallsIn.inRound l1 (callsIn_wide.2 (kS.out _))).mono ?_; rintro e y1 ⟨rfl, hb1⟩; have hY1 := Lib.hid (below_step bD hb1); have v1 := carry hY1.out vT; have u1 := carry hY1.out t2; have z1 := hY1.out.size; clear hb1)
        | (refine ⟨trivial, ?_⟩; gi_at_call 59; refine (CallsIn.inRound l1 (callsIn_wide.2 (kH2.out _ (hZT.out.carry hY1.out)))).mono ?_; rintro e y2 ⟨rfl, hb2⟩; have hY2 := Lib.hid (below_step hY1.out hb2); have v2 := carry hb2 v1; have z2 := hY2.out.size; have ho2 := Lib.hid (own_other hoT (grown_of_below hY2.out) fun r e => by cases e); obtain ⟨cs, hcs, hcf⟩ := own_slot ho2.out hk; have vf := ((Boxed.kept hvT (grown_of_below hY2.out) (by simp) : Boxed y2 _ _ _)).frozen; have zq := block_lt_of_cell hcs; have zr := block_lt_of_cell v2; simp only at zq zr; clear hb2))
      all_goals
        have hR := prove_round (o := .cells #[.int .u64 (z.toNat : Int)] 36) (z := z) (hZT.out.carry hY2.out) hall'.out ((hY2.out.block _ hvT.lt).trans hvT) ho2.out hk (carry hY2.out t2) (hLT.below hY2.out) (hBT.trans (hY2.out.mono hBT.size))
        have hK := KeepOn.below (S := fun r => r = w.heap.size + 4 ∨ (X.heap.size ≤ r ∧ r < X.heap.size + 2 + 0)) hY2.out
        rw [← hps.out] at hR
        gi_wp2
        exact ⟨((hK.trans (KeepOn.setCell _ (by simp only; omega))).trans (KeepOn.setCell _ (by simp only; omega))).trans (KeepOn.below (alloc_below _ _)), hR⟩
    case done =>
      rintro D Z rfl ⟨hZ, ⟨hv1, ho1⟩, p1, hL1, hB1⟩ hD
      obtain ⟨a, cap, hcv, g1, g2, _, g4⟩ := hZ.ce.shape Nat.one_pos
      obtain ⟨gc, off, rfl, hgc, hcell⟩ := g4 (by omega)
      have c0 := hZ.c0
      rw [hcv] at c0
      have cj := (hcell j (.int .i64 y) (by unfold ints; rw [List.getElem?_map, hy]; rfl)).1
      have v1 := hv1.cell
      have fz := hL1.fz
      have l0 := hL1.c0
      have l1 := hL1.c1
      have l2 := hL1.c2
      have f0 := fz 0
      have f1 := fz 1
      have f2 := fz 2
      have hlen := Lib.hid (show (proofW C j H).length = H from proofW_len _ _ _)
      have hLZ := Lib.hid hL1
      have ho1' := Lib.hid ho1
      have hB1' := Lib.hid hB1
      have hXs := Lib.hid hzX
      clear hZ hv1 ho1 hB1 hL1 g4 hcell fz hy
      obtain ⟨n, hn⟩ : ∃ n, n = C.length := ⟨_, rfl⟩
      rw [← hn] at c0 g1 hj hl
      unfold maxLen at g2
      clear hn
      go_wp2_with fail
      have m0 := block_lt_of_cell p1
      have m1 := block_lt_of_cell c0
      have m2 := block_lt_of_cell cj
      have m3 := block_lt_of_cell v1
      have m4 := block_lt_of_cell l0
      simp only at m0 m1 m2 m3 m4
      have mX : X.heap.size < Z.heap.size := (Array.getElem?_eq_some_iff.1 hD).1
      refine wp_region_tail 10 (by kernel_rfl) (by kernel_rfl) ?_
      intro W hK
      obtain ⟨hc, hf, hz, hb⟩ := hK
      simp only [List.take_succ_cons, List.take_zero, List.drop_succ_cons, List.drop_zero]
      repeat (go_big_quiet_step ((fail)))
      refine wpQuiet_nil ?_
      intro _ hw'
      obtain ⟨xq, hw''⟩ := hw'
      subst hw''
      have hbq := hb xq
      replace l0 := carry (hbq) l0
      replace l1 := carry (hbq) l1
      replace l2 := carry (hbq) l2
      have g0 := (hbq.frozen (p := ⟨w.heap.size + 1, 0, none⟩) m4).trans f0
      have g1 := (hbq.frozen (p := ⟨w.heap.size + 1, 1, none⟩) m4).trans f1
      have g2 := (hbq.frozen (p := ⟨w.heap.size + 1, 2, none⟩) m4).trans f2
      have hD2 := (hbq.block _ mX).trans hD
      have ho2 := Lib.hid (own_other ho1'.out (grown_of_below hbq) fun r e => by cases e)
      have hB2 := Lib.hid (hB1'.out.trans (hbq.mono hB1'.out.size))
      have hbq' := hbq
      clear hc hf hz hb hbq p1 c0 cj v1 f0 f1 f2 ho1' hB1' hD
      generalize over W xq = Y at *
      have hLY := (hLZ.out.below hbq').put3 (j : Int) y (.slice (some ⟨w.heap.size + 2, 0, none⟩) H H)
      have hXY := Lib.hid (show w.heap.size + 1 ≠ X.heap.size from by omega)
      have hDE : (((Y.setCell ⟨w.heap.size + 1, 0, none⟩ (.int .i64 (j : Int))).setCell ⟨w.heap.size + 1, 1, none⟩ (.int .i64 y)).setCell ⟨w.heap.size + 1, 2, none⟩ (.slice (some ⟨w.heap.size + 2, 0, none⟩) H H)).heap[X.heap.size]? = some (.deferred (some [])) :=
        (Below.heap_setCell _ _ _ _ (by simp only; omega)).trans ((Below.heap_setCell _ _ _ _ (by simp only; omega)).trans ((Below.heap_setCell _ _ _ _ (by simp only; omega)).trans hD2))
      have hoE := own_other' ho2.out (w.heap.size + 1) (by omega) (.int .i64 (j : Int)) (.int .i64 y) (.slice (some ⟨w.heap.size + 2, 0, none⟩) H H)
      have hBE := ((hB2.out.setCell (p := ⟨w.heap.size + 1, 0, none⟩) (by simp only; omega) (.int .i64 (j : Int))).setCell (p := ⟨w.heap.size + 1, 1, none⟩) (by simp only; omega) (.int .i64 y)).setCell (p := ⟨w.heap.size + 1, 2, none⟩) (by simp only; omega) (.slice (some ⟨w.heap.size + 2, 0, none⟩) H H)
      go_wp2
      clear l0 l1 l2 g0 g1 g2 hD2 ho2 hB2
      generalize ((Y.setCell ⟨w.heap.size + 1, 0, none⟩ (.int .i64 (j : Int))).setCell ⟨w.heap.size + 1, 1, none⟩ (.int .i64 y)).setCell ⟨w.heap.size + 1, 2, none⟩ (.slice (some ⟨w.heap.size + 2, 0, none⟩) H H) = E at *
      refine ⟨by simp, .inl ⟨_, _, rfl, run_takeDeferred hDE, ?_⟩⟩
      have hLF : LfB (E.putObj X.heap.size (.deferred none)) (w.heap.size + 1) (j : Int) y (.slice (some ⟨w.heap.size + 2, 0, none⟩) H H) := (World.putObj_heap_other hXY.out).trans hLY
      have hoF : (E.putObj X.heap.size (.deferred none)).ownsRow w.heap.size 36 1 (.slice (some ⟨w.heap.size + 2, 0, none⟩) H H) H (u64s (proofW C j H)) := hoE.kept (grownBy_putObj' E _ _) (.inr (ne_of_out hXs.out))
      have hBF : Below w.heap.size w (E.putObj X.heap.size (.deferred none)) := hBE.grown (grownBy_putObj' E _ _) hBE.size fun r e => by cases e; have := hXs.out; omega
      generalize E.putObj X.heap.size (.deferred none) = F at *
      have k0 := hLF.c0
      have k1 := hLF.c1
      have k2 := hLF.c2
      refine ⟨.agg #[.int .i64 (j : Int), .int .i64 y, .slice (some ⟨w.heap.size + 2, 0, none⟩) H H], by simp [results, Try.results15, go_sem, k0, k1, k2], _, rfl, ?_, hBF⟩
      rw [hlen.out]
      exact hoF
    case stop => exact fun _ _ _ _ _ h _ => h.elim
  · rw [decide_eq_false hin] at kh
    obtain ⟨q1, q2, q3⟩ := pr_out hin
    rw [q1, q2, q3]
    clear q1 q2 q3 hin h
    have fz := hLU.fz
    have l0 := hLU.c0
    have l1 := hLU.c1
    have l2 := hLU.c2
    have f0 := fz 0
    have f1 := fz 1
    have f2 := fz 2
    clear fz
    go_enter Try.func15, Try.ntmps15
    go_wp2_with fail
    rw [← hU]
    clear hU
    refine (kh.out U hT.out).mono ?_
    rintro e w1 ⟨rfl, rfl⟩
    go_wp2
    refine bodyPost_ret (v := .agg #[.int .i64 0, .int .i64 0, .slice none 0 0]) (by simp [results, Try.results15, go_sem, l0, l1, l2]) rfl ⟨_, rfl, World.ownsRow_nil _ _ _ _, ?_⟩
    exact ((hBU.setCell (by simp only; omega) _).setCell (by simp only; omega) _).setCell (by simp only; omega) _
end Go.Proofs.Ytknjdkgemkmoeaa
