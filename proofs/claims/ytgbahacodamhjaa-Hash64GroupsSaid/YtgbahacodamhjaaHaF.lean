/- Package hash64: Bytes. -/
import Derived.Test.YtgbahacodamhjaaHaE
import Derived.Laws.MakeOwn
namespace Go.Proofs.Ytgbahacodamhjaa
open Go.ChangeShapes Go.WideShapes Go.ChangeAt Go.RowKit Go.Shelf
set_option linter.unusedSimpArgs false
set_option linter.unusedVariables false
attribute [local go_sem] Oper.semAt_some

def wInts (L : List Nat) (k : Nat) : List Int := (wordsN L k).map BitVec.toInt
theorem wInts_succ (L : List Nat) (k : Nat) : wInts L (k + 1) = wInts L k ++ [(word L k).toInt] := by unfold wInts; rw [wordsN_succ, List.map_append]; rfl
theorem wInts_len (L : List Nat) (k : Nat) : (wInts L k).length = k := by unfold wInts; rw [List.length_map, wordsN_len]
theorem wInts_word (L : List Nat) (n : Nat) (h : L.length = n) : (wInts L (nw n) ++ [(n : Int)]).map (BitVec.ofInt 64) = words L ++ [BitVec.ofNat 64 L.length] := by
  unfold wInts words
  rw [h, List.map_append, List.map_map]
  congr 1
  rw [show (BitVec.ofInt 64 ∘ BitVec.toInt : W64 → W64) = id from funext fun a => BitVec.ofInt_toInt, List.map_id]
theorem ints_append (l m : List Int) : ints (l ++ m) = ints l ++ ints m := by unfold ints; rw [List.map_append]

set_option maxHeartbeats 4000000 in
set_option maxRecDepth 100000 in
theorem bytes_any (lab : ByteArray) (a : Option Addr) (n cap : Nat) (L : List Nat) (w : World) (hR : ByRow w (fun r => r < w.heap.size) a n cap L) (hs : lab.size ≤ 1000) (hn : n ≤ 1000) :
    Calls Try.prog 17 #[.string lab, .slice a n cap] w fun e w' => e = .returned (.int .u64 ((bytesW (labL lab) L).toNat : Int)) ∧ Below w.heap.size w w' := by
  obtain ⟨i0, hi0, hz0, hz1, hz2⟩ := info_parts info_int
  have hle := hR.le
  have hmx := hR.max
  unfold maxLen at hmx
  have hR' := Lib.hid hR
  clear hR
  obtain ⟨cm, hcm⟩ : ∃ cm : Nat, cm = n / 8 + 2 := ⟨_, rfl⟩
  have hcmi : (n : Int) / 8 + 2 = (cm : Int) := by omega
  obtain ⟨C, hC, hmk⟩ : ∃ C : Array Value, C.size = cm * 1 ∧ ∀ w : World, (Instr.makeSlice 22 (.int .i64 0) (.int .i64 ((n : Int) / 8 + 2))).run Try.prog w = .ok (.slice (some ⟨w.heap.size, 0, none⟩) 0 cm) (w.alloc (.cells C 3)) :=
    ⟨_, size_madeCells _ _, fun w => by
      have h := run_make (P := Try.prog) w 22 3 i0 (.int .i64 0) Try.underlying22 hi0 hz0 .i64 .i64 0 (cm : Int) (by omega) (by omega) (by rw [hz2]; omega) (by omega)
      rw [hcmi, h, hz1]
      rfl⟩
  have hnw : nw n ≤ n / 8 + 1 := by unfold nw; omega
  have hF := Lib.hid (And.intro hcm (And.intro hcmi hnw))
  have hC' := Lib.hid hC
  clear hcm hcmi hnw hC
  refine (callsIn_wide (n := 9)).1 (callsIn_of_wp_marks Try.func17 rfl trivial (wpIn_wide.2 ?_) rfl)
  simp only [Try.ntmps17, List.size_toArray, List.length_cons, List.length_nil, Nat.reduceAdd, Nat.reduceSub, Array.replicate_succ, Array.replicate_zero, List.push_toArray, List.append_toArray, List.nil_append, List.cons_append]
  go_wp2_with fail
  refine (wordsOf_any _ _ _ _).mono ?_
  rintro e V ⟨rfl, hV⟩
  obtain ⟨U, hU⟩ : ∃ U, U = ((w.alloc (.cells C 3)).alloc (.cells #[.slice (some ⟨w.heap.size, 0, none⟩) 0 cm] 22)) := ⟨_, rfl⟩
  rw [← hU] at hV ⊢
  have hbU : Below w.heap.size w U := by rw [hU]; exact below_step (alloc_below _ _) (alloc_below _ _)
  have hzU : U.heap.size = w.heap.size + 2 := by rw [hU]; simp
  have hvU : Boxed U (w.heap.size + 1) 22 (.slice (some ⟨w.heap.size, 0, none⟩) 0 cm) := by
    have := Boxed.new (w.alloc (.cells C 3)) 22 (.slice (some ⟨w.heap.size, 0, none⟩) 0 cm)
    rw [← hU, World.size_alloc] at this
    exact this
  have hoU : U.ownsRow w.heap.size 3 1 (.slice (some ⟨w.heap.size, 0, none⟩) 0 cm) 0 (ints (wInts L 0)) := by
    rw [hU]
    exact (World.ownsRow_made w C cm (Nat.le_refl _) (by have := hF.out; unfold maxLen; omega) hC'.out).alloc _
  have hbV : Below U.heap.size U V := by rw [hV]; exact alloc_below _ _
  have hzV : V.heap.size = w.heap.size + 3 := by rw [hV]; simp; omega
  have hcV : V.cell? ⟨U.heap.size, 0, none⟩ = some (.slice a n cap) := by rw [hV]; simp [go_sem]
  have hvV : Boxed V (w.heap.size + 1) 22 (.slice (some ⟨w.heap.size, 0, none⟩) 0 cm) := by rw [hV]; exact hvU.alloc _
  have hoV : V.ownsRow w.heap.size 3 1 (.slice (some ⟨w.heap.size, 0, none⟩) 0 cm) 0 (ints (wInts L 0)) := by rw [hV]; exact hoU.alloc _
  have hBV := below_step hbU hbV
  have hG := Lib.hid (words_gives a n cap U.heap.size L (fun r => r < w.heap.size ∨ r = w.heap.size + 2) V ((hR'.out.carry hBV).mono fun r h => .inl h) hcV (.inr hzU) hn)
  clear hV hbV hbU hcV hvU hoU hU
  rw [hzU] at hG ⊢
  clear hzU hC' hmk
  go_wp2_with fail
  refine (wpIn_wide (n := 9)).1 ?_
  refine range_gives (w0 := V) (c := 0) (N := nw n) (S := fun r => r < w.heap.size ∨ r = w.heap.size + 2) rfl (enters_of Try.func28 (by kernel_rfl) rfl) hG.out (Below.refl _ _) (by rintro r (h | h) <;> omega) (fun _ => rfl)
    (fun k X => (Boxed X (w.heap.size + 1) 22 (.slice (some ⟨w.heap.size, 0, none⟩) k cm) ∧ X.ownsRow w.heap.size 3 1 (.slice (some ⟨w.heap.size, 0, none⟩) k cm) k (ints (wInts L k))) ∧ Below w.heap.size w X) (fun _ _ => False) ?hI (fun _ _ _ _ h _ _ => h) ⟨⟨hvV, hoV⟩, hBV⟩ ?round ?done ?stop
  case hI =>
    refine Steady.and ?_ (steady_below (Nat.le_refl _) fun r h => by omega)
    rintro k A B row ⟨hv, ho⟩ hg ht
    exact ⟨hv.kept hg (fun e => by have := ht _ e.symm; omega), ho.kept hg (.inr fun e => by have := ht w.heap.size (by simpa [Value.ownBlock] using e.symm); omega)⟩
  case round =>
    rintro l1 k X hk hsz ⟨⟨hv, ho⟩, hB⟩
    have hsn := Lib.hid (wInts_succ L k)
    have hx := wrap64_word (word L k)
    generalize (word L k).toInt = x at *
    have hkc : k + 1 ≤ cm := by have := hF.out; omega
    simp only [wdE]
    generalize (word L k).toNat = xn at *
    gi_wp2
    refine ⟨KeepOn.refl _ _, fun Y hT => ?_⟩
    have hvY : Boxed Y (w.heap.size + 1) 22 (.slice (some ⟨w.heap.size, 0, none⟩) k cm) := hT.heap hv (by omega)
    have hoY : Y.ownsRow w.heap.size 3 1 (.slice (some ⟨w.heap.size, 0, none⟩) k cm) k (ints (wInts L k)) := by
      obtain ⟨r, hr1, hg⟩ := hT
      exact ho.kept hg (.inr fun e => by simp [Value.ownBlock] at e; omega)
    have hbY : Below w.heap.size w Y := by
      obtain ⟨r, hr1, hg⟩ := hT
      exact hB.grown hg hB.size fun r' e => by cases e; omega
    have hzY : w.heap.size + 1 < Y.heap.size := hvY.lt
    have cv := hvY.cell
    clear hv ho hB
    gi_wp2_with (gi_at_builtin; refine wpListIn_append_fits _ rfl _ _ 22 rfl w.heap.size 3 i0 1 Try.underlying22 hi0 hz1 w.heap.size k cm _ rfl (hoY.alloc _) ⟨Y.heap.size, 0, none⟩ 1 1 (ints [x]) rfl rfl (fun j u hu => by rw [add_plain, Nat.zero_add, World.cell?_alloc_new, ← hx]; simpa [ints, hx] using hu) (ints_one' _) (by omega) ?_; intro w1 hown' hgrow; have hv1 : Boxed w1 (w.heap.size + 1) 22 (.slice (some ⟨w.heap.size, 0, none⟩) k cm) := (hvY.alloc _).kept hgrow (by simp); have hc1 := hv1.cell; have hf1 := hv1.frozen)
    refine ⟨((KeepOn.below (alloc_below Y _)).trans (KeepOn.grown hgrow fun r e => by cases e; omega)).trans (KeepOn.setCell _ (by simp only; omega)), ⟨hv1.set _, ?_⟩, ((hbY.alloc hbY.size _).grown hgrow (by have := hbY.size; simp; omega) fun r e => by cases e; omega).setCell (by simp only; omega) _⟩
    rw [hsn.out, ints_append]
    exact hown'.kept (grownBy_setCell' w1 _ _) (.inr (by simp [Value.ownBlock]))
  case done =>
    rintro D X rfl ⟨⟨hv, ho⟩, hB⟩ hD
    have hkn := hF.out.2.2
    have hkc : nw n + 1 ≤ cm := by have := hF.out; omega
    have hLn := hR'.out.len
    have hsum := Lib.hid (show sumW (labL lab) ((wInts L (nw n) ++ [(n : Int)]).map (BitVec.ofInt 64)) = bytesW (labL lab) L from by rw [wInts_word L n hLn]; rfl)
    have hlen := Lib.hid (show (wInts L (nw n) ++ [(n : Int)]).length ≤ 1000 from by rw [List.length_append, wInts_len]; simp only [List.length_singleton]; omega)
    have hz : w.heap.size + 3 < X.heap.size := by rw [← hzV]; exact (Array.getElem?_eq_some_iff.1 hD).1
    rw [hzV] at hD
    have cv := hv.cell
    generalize nw n = m at *
    clear hLn
    go_wp2_with (first
      | (at_builtin; refine wpList_append_fits _ rfl _ _ 22 rfl w.heap.size 3 i0 1 Try.underlying22 hi0 hz1 w.heap.size m cm _ rfl (ho.alloc _) ⟨X.heap.size, 0, none⟩ 1 1 (ints [(n : Int)]) rfl rfl (fun j u hu => by rw [add_plain, Nat.zero_add, World.cell?_alloc_new]; simpa [ints] using hu) (ints_one' _) (by omega) ?_; intro w1 hown' hgrow; rw [← ints_append] at hown'; have hI1 := Lib.hid (IL.owned hown'); have hB1 := (hB.alloc hB.size (.cells #[.int .i64 (n : Int)] 3)).grown hgrow (by have := hB.size; simp; omega) (fun r e => by cases e; omega); have hD1 := (hgrow.block (w.heap.size + 3) (by simp; omega) (fun e => by simp only [Option.some.injEq] at e; omega)).trans ((Below.heap_alloc X _ _ hz).trans hD); clear hown' hgrow)
      | (go_at_call 13; with_reducible refine (sum_any lab _ _ w1 hI1.out hs hlen.out).mono ?_; rintro e w2 ⟨rfl, hb2⟩; rw [hsum.out]))
    have hlt1 : w.heap.size + 3 < w1.heap.size := (Array.getElem?_eq_some_iff.1 hD1).1
    have hD2 := (hb2.block (w.heap.size + 3) hlt1).trans hD1
    refine ⟨by simp, .inl ⟨_, _, rfl, run_takeDeferred hD2, ?_⟩⟩
    exact ⟨_, results_tmp rfl _ _ _, rfl, (hB1.trans (hb2.mono hB1.size)).grown (grownBy_putObj' _ _ _) (Nat.le_trans hB1.size hb2.size) fun r e => by cases e; omega⟩
  case stop => exact fun _ _ _ _ _ h _ => h.elim
end Go.Proofs.Ytgbahacodamhjaa
