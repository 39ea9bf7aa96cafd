/- Package cellmem: the methods on the object as a whole; six; the section's example. -/
import Derived.Test.YtlpacihkmfgegaaCmE
import Derived.Test.YtlpacihkmfgegaaCmI
import Derived.Deep.OwnRows
namespace Go.Proofs.Ytlpacihkmfgegaa
open Go.ChangeShapes Go.WideShapes Go.ChangeAt Go.RowKit
open Cm
set_option linter.unusedSimpArgs false
set_option linter.unusedVariables false

/-- Since w0 only new blocks: the object too lies in new ones. -/
structure Fresh (w0 : World) (O : Nat → Prop) (w : World) : Prop where
  below : Below w0.heap.size w0 w
  own : ∀ i, O i → w0.heap.size ≤ i
theorem Fresh.moves {w0 w w' : World} {O O' : Nat → Prop} (h : Fresh w0 O w) (hm : Moves O w O' w') : Fresh w0 O' w' := ⟨hm.toBelow h.below h.own, hm.from h.below.size h.own⟩
theorem Fresh.step {w0 w w' : World} {O : Nat → Prop} (h : Fresh w0 O w) (hb : Below w.heap.size w w') : Fresh w0 O w' := ⟨below_step h.below hb, h.own⟩
/-- A size of a memory that the calls bear. -/
structure Ok (S : Me) : Prop where
  len : S.cs.length ≤ 10000
  pos : S.pos ≤ 10000

section
variable {w : World} {b : Nat} {O : Nat → Prop} {S : Me}
theorem Cm.Mo.len (h : Mo w b O S) : Calls Try.prog 27 #[.pointer (some ⟨b, 0, none⟩)] w fun e w' => e = .returned (.int .i64 (S.cs.length : Nat)) ∧ w = w' := by
  obtain ⟨cv, lv, h⟩ := h; exact h.len
theorem Cm.Mo.logged (h : Mo w b O S) : Calls Try.prog 26 #[.pointer (some ⟨b, 0, none⟩)] w fun e w' => e = .returned (.int .i64 (S.lg.length : Nat)) ∧ w = w' := by
  obtain ⟨cv, lv, h⟩ := h; exact h.logged
theorem Cm.Mo.mark (h : Mo w b O S) (k : Ok S) : Calls Try.prog 24 #[.pointer (some ⟨b, 0, none⟩)] w fun e w' => e = .returned (.int .i64 (S.pos : Nat)) ∧ Below w.heap.size w w' := by
  obtain ⟨cv, lv, h⟩ := h; exact h.mark k.pos
theorem Cm.Mo.get (h : Mo w b O S) (k : Ok S) (i : Int) : Calls Try.prog 30 #[.pointer (some ⟨b, 0, none⟩), .int .i64 i] w fun e w' => e = .returned (.int .i64 (S.get i)) ∧ w = w' := by
  obtain ⟨cv, lv, h⟩ := h; exact h.get k.len i
theorem Cm.Mo.all (h : Mo w b O S) (k : Ok S) : Calls Try.prog 22 #[.pointer (some ⟨b, 0, none⟩)] w fun e w' => ∃ v, e = .returned v ∧ w'.ownsRow w.heap.size 3 1 v S.cs.length (ints S.cs) ∧ Below w.heap.size w w' := by
  obtain ⟨cv, lv, h⟩ := h; exact h.all k.len
theorem Cm.Mo.set (h : Mo w b O S) (k : Ok S) (i v : Int) : Calls Try.prog 31 #[.pointer (some ⟨b, 0, none⟩), .int .i64 i, .int .i64 v] w fun e w' => e = .returned (.tuple #[]) ∧ ∃ O', Mo w' b O' (S.set i v) ∧ Moves O w O' w' := by
  obtain ⟨cv, lv, h⟩ := h; exact cmSet_par h k.len k.pos i v
theorem Cm.Mo.undo (h : Mo w b O S) (k : Ok S) (m : Int) : Calls Try.prog 34 #[.pointer (some ⟨b, 0, none⟩), .int .i64 m] w fun e w' => e = .returned (.int .i64 (S.err m)) ∧ ∃ O', Mo w' b O' (S.undo m) ∧ Moves O w O' w' := by
  obtain ⟨cv, lv, h⟩ := h; exact cmUndo_par h k.len k.pos m
theorem Cm.Mo.discard (h : Mo w b O S) (k : Ok S) (m : Int) : Calls Try.prog 37 #[.pointer (some ⟨b, 0, none⟩), .int .i64 m] w fun e w' => e = .returned (.int .i64 (S.err m)) ∧ ∃ O', Mo w' b O' (S.discard m) ∧ Moves O w O' w' := by
  obtain ⟨cv, lv, h⟩ := h; exact cmDiscard_par h k.pos m
theorem Cm.Mo.changed (h : Mo w b O S) (k : Ok S) (m : Int) : Calls Try.prog 35 #[.pointer (some ⟨b, 0, none⟩), .int .i64 m] w fun e w' => ∃ v, e = .returned (.tuple #[v, .int .i64 (S.err m)]) ∧ w'.ownsRow w.heap.size 3 1 v (S.changed m).length (ints (natI (S.changed m))) ∧ Below w.heap.size w w' := by
  obtain ⟨cv, lv, h⟩ := h; exact cmChanged_par h k.pos m
end
theorem Ok.set {S : Me} (n : Nat) (hn : n < 10000) (hl : S.cs.length ≤ 10000) (h : S.pos ≤ n) (i v : Int) : Ok (S.set i v) ∧ (S.set i v).pos ≤ n + 1 := by
  have h6 : (S.set i v).pos ≤ S.pos + 1 := by
    unfold Me.set
    split
    · unfold Me.pos; simp only [List.length_append, List.length_cons, List.length_nil]; omega
    · omega
  exact ⟨⟨by rw [S.set_len]; exact hl, by omega⟩, by omega⟩
theorem own_il {w : World} {B : Nat} {e : TypeId} {v : Value} {n : Nat} {l : List Int} (h : w.ownsRow B e 1 v n (ints l)) : IL w v l := IL.owned h

/-! ## The section's example -/
def S0 : Me := Me.new [5, 7]
def S1 : Me := S0.set 1 9
def S2 : Me := S1.set 1 8
def S3 : Me := S2.undo 1
def S4 : Me := S3.undo 0
theorem ok0 : Ok S0 := ⟨by decide, by decide⟩
theorem ok1 : Ok S1 := ⟨by decide, by decide⟩
theorem ok2 : Ok S2 := ⟨by decide, by decide⟩
theorem ok3 : Ok S3 := ⟨by decide, by decide⟩
theorem ok4 : Ok S4 := ⟨by decide, by decide⟩
theorem two_new (w : World) (x y : Int) : IL (w.alloc (.cells #[.int .i64 x, .int .i64 y] 3)) (.slice (some ⟨w.heap.size, 0, none⟩) 2 2) [x, y] := by
  refine ⟨_, 2, rfl, Nat.le_refl _, by decide, .inr ⟨w.heap.size, 0, rfl, by simp, fun i u hu => ?_⟩⟩
  rw [Nat.zero_add, World.cell?_alloc_new]
  simpa [ints] using hu
theorem one_new (w : World) (x : Int) : IL (w.alloc (.cells #[.int .i64 x] 3)) (.slice (some ⟨w.heap.size, 0, none⟩) 1 1) [x] := by
  refine ⟨_, 1, rfl, Nat.le_refl _, by decide, .inr ⟨w.heap.size, 0, rfl, by simp, fun i u hu => ?_⟩⟩
  rw [Nat.zero_add, World.cell?_alloc_new]
  simpa [ints] using hu
set_option maxHeartbeats 4000000 in
theorem lives9_any (w : World) : Calls Try.prog 28 #[] w fun e w' => e = .returned (.bool true) ∧ Below w.heap.size w w' := by
  have hB0 := Lib.hid (alloc_below w (.cells #[.int .i64 5, .int .i64 7] 3))
  have kn := Lib.hid (cmNew_any _ [5, 7] (w.alloc (.cells #[.int .i64 5, .int .i64 7] 3)) (two_new w 5 7) (by decide))
  have e2 : S2.err 0 = 0 := by decide
  have e1 : S2.err 1 = 0 := by decide
  have e0 : S3.err 0 = 0 := by decide
  have ec : S2.changed 0 = [1] := by decide
  have ep : S2.pos = 2 := by decide
  have eg : S3.get 1 = 9 := by decide
  have eg2 : S4.get 1 = 7 := by decide
  have hh := Lib.hid (And.intro e2 (And.intro e1 (And.intro e0 (And.intro ec (And.intro ep (And.intro eg eg2))))))
  clear e2 e1 e0 ec ep eg eg2
  have q0 := Lib.hid (show Me.new [5, 7] = S0 from rfl)
  have q1 := Lib.hid (show S0.set 1 9 = S1 from rfl)
  have q2 := Lib.hid (show S1.set 1 8 = S2 from rfl)
  have q3 := Lib.hid (show S2.undo 1 = S3 from rfl)
  have q4 := Lib.hid (show S3.undo 0 = S4 from rfl)
  have hdec := Lib.hid (show decide (natI [1] = [1]) = true from by decide)
  go_enter Try.func28, Try.ntmps28
  go_wp2_with (first
    | (go_at_call 12; with_reducible refine kn.out.mono ?_; rintro e w1 ⟨b, O, rfl, hM, hO, hb⟩; rw [q0.out] at hM; have hM0 := Lib.hid hM; have hF0 := Lib.hid (Fresh.mk (below_step hB0.out hb) (fun i hi => Nat.le_trans hB0.out.size (hO i hi))); clear hM hO hb)
    | (go_at_call 31; with_reducible refine (hM0.out.set ok0 1 9).mono ?_; rintro e w2 ⟨rfl, O1, hM, hm⟩; rw [q1.out] at hM; have hM1 := Lib.hid hM; have hF1 := Lib.hid (hF0.out.moves hm); clear hM hm)
    | (go_at_call 31; with_reducible refine (hM1.out.set ok1 1 8).mono ?_; rintro e w3 ⟨rfl, O2, hM, hm⟩; rw [q2.out] at hM; have hM2 := Lib.hid hM; have hF2 := Lib.hid (hF1.out.moves hm); clear hM hm)
    | (go_at_call 35; with_reducible refine (hM2.out.changed ok2 0).mono ?_; rintro e w4 ⟨v, rfl, hr, hb⟩; rw [hh.out.1]; rw [hh.out.2.2.2.1] at hr; have hr' := Lib.hid (own_il hr); have hM3 := Lib.hid (hM2.out.carry hb); have hF3 := Lib.hid (hF2.out.step hb); clear hr hb)
    | (go_at_call 24; with_reducible refine (hM3.out.mark ok2).mono ?_; rintro e w5 ⟨rfl, hb⟩; rw [hh.out.2.2.2.2.1]; have hr5 := Lib.hid (hr'.out.carry hb); have hM5 := Lib.hid (hM3.out.carry hb); have hF5 := Lib.hid (hF3.out.step hb); clear hb)
    | (go_at_call 21; with_reducible refine (sameI_any _ _ _ _ _ (hr5.out.carry (alloc_below w5 _)) (one_new w5 1)).mono ?_; rintro e w6 ⟨rfl, hb⟩; rw [hdec.out]; have hb6 := Lib.hid (below_step (alloc_below w5 (.cells #[.int .i64 1] 3)) hb); have hM6 := Lib.hid (hM5.out.carry hb6.out); have hF6 := Lib.hid (hF5.out.step hb6.out); clear hb)
    | (go_at_call 34; with_reducible refine (hM6.out.undo ok2 1).mono ?_; rintro e w7 ⟨rfl, O7, hM, hm⟩; rw [hh.out.2.1]; rw [q3.out] at hM; have hM7 := Lib.hid hM; have hF7 := Lib.hid (hF6.out.moves hm); clear hM hm)
    | (go_at_call 30; with_reducible refine (hM7.out.get ok3 1).mono ?_; rintro e w8 ⟨rfl, rfl⟩; rw [hh.out.2.2.2.2.2.1])
    | (go_at_call 34; with_reducible refine (hM7.out.undo ok3 0).mono ?_; rintro e w9 ⟨rfl, O9, hM, hm⟩; rw [hh.out.2.2.1]; rw [q4.out] at hM; have hM9 := Lib.hid hM; have hF9 := Lib.hid (hF7.out.moves hm); clear hM hm)
    | (go_at_call 30; with_reducible refine (hM9.out.get ok4 1).mono ?_; rintro e w10 ⟨rfl, rfl⟩; rw [hh.out.2.2.2.2.2.2]))
  go_ret
  exact ⟨rfl, hF9.out.below⟩

/-! ## six -/
def sixL (Z : Nat → Int) (l i : Nat) : List Int := (List.range 6).map fun j => if j < l ∧ j < i then Z j else 0
theorem sixL_len (Z : Nat → Int) (l i : Nat) : (sixL Z l i).length = 6 := by unfold sixL; simp
theorem sixL_done (Z : Nat → Int) (l i : Nat) (h : ¬ (i < l ∧ i < 6)) : sixL Z l i = six Z l := by
  unfold sixL six
  apply List.map_congr_left
  intro j hj
  have := List.mem_range.1 hj
  by_cases h1 : j < l
  · rw [if_pos h1, if_pos ⟨h1, by omega⟩]
  · rw [if_neg h1, if_neg (fun h2 => h1 h2.1)]
theorem sixL_succ (Z : Nat → Int) {l i : Nat} (h : i < l) (h6 : i < 6) : sixL Z l (i + 1) = (sixL Z l i).set i (Z i) := by
  unfold sixL
  refine List.ext_getElem? fun j => ?_
  rw [List.getElem?_set]
  by_cases hj : j < 6
  · rw [List.getElem?_map, List.getElem?_map, List.getElem?_range hj]
    by_cases e : i = j
    · subst e
      rw [if_pos rfl, if_pos (by simpa using hj)]
      simp [h]
    · rw [if_neg e]
      simp only [Option.map_some, Option.some.injEq]
      by_cases h1 : j < l ∧ j < i
      · rw [if_pos h1, if_pos ⟨h1.1, by omega⟩]
      · rw [if_neg h1, if_neg (fun h2 => h1 ⟨h2.1, by omega⟩)]
  · rw [List.getElem?_eq_none (by simp; omega), List.getElem?_eq_none (by simp; omega), if_neg (by omega)]
theorem sixL_zero (Z : Nat → Int) (l : Nat) : (madeCells #[Value.int .i64 0] 6).toList = ints (sixL Z l 0) := by
  have e : sixL Z l 0 = (List.range 6).map fun _ => 0 := by
    unfold sixL
    apply List.map_congr_left
    intro j _
    rw [if_neg (fun h => Nat.not_lt_zero _ h.2)]
  rw [e, toList_madeCells_one]
  rfl
set_option maxHeartbeats 4000000 in
theorem six_any (v : Value) (Z : Nat → Int) (l : Nat) (w : World) (h : IntsAt w v 1 Z l) :
    Calls Try.prog 13 #[v] w fun e w' => e = .returned (.slice (some ⟨w.heap.size, 0, none⟩) 6 6) ∧ w'.ownsRow w.heap.size 3 1 (.slice (some ⟨w.heap.size, 0, none⟩) 6 6) 6 (ints (six Z l)) ∧ Below w.heap.size w w' := by
  obtain ⟨a, cap, rfl, h1, h2, hZ, h3⟩ := h
  have h3' := Lib.hid h3
  clear h3 hZ
  unfold maxLen at h2
  have hmk : ∀ w : World, Sem.run Try.prog (Instr.makeSlice 22 (.int .i64 6) (.int .i64 6)) w = .ok (.slice (some ⟨w.heap.size, 0, none⟩) 6 6) (w.alloc (.cells (madeCells #[Value.int .i64 0] 6) 3)) := run_make_row' (P := Try.prog) 22 3 (.int .i64 0) 8 Try.underlying22 info_int rfl .i64 .i64 6 (by omega) (by omega)
  have hr := World.ownsRow_lit (base := w.heap.size) (e := 3) (size := 1) w (madeCells #[Value.int .i64 0] 6) 6 (Nat.le_refl _) (by decide) (by simp [madeCells])
  rw [sixL_zero Z l] at hr
  have hr0 := Lib.hid hr
  clear hr
  have hb0 := Lib.hid (alloc_below w (.cells (madeCells #[Value.int .i64 0] 6) 3))
  generalize madeCells #[Value.int .i64 0] 6 = M at *
  go_enter Try.func13, Try.ntmps13
  go_wp2_with fail
  clear hmk
  go_loopw [4] (fun i wr => ∃ t : Nat, t ≤ 6 ∧ i = .int .i64 (t : Nat) ∧ wr.ownsRow w.heap.size 3 1 (.slice (some ⟨w.heap.size, 0, none⟩) 6 6) 6 (ints (sixL Z l t)) ∧ Below w.heap.size w wr) (fun i _ => 6 - (intOf i).toNat)
  case atStart => exact ⟨0, Nat.zero_le _, rfl, hr0.out, hb0.out⟩
  case round =>
    obtain ⟨t, ht, rfl, hown, hB⟩ := hrel
    have hown' := Lib.hid hown
    have hB' := Lib.hid hB
    clear hown hB
    by_cases h1 : t < l
    · by_cases h2 : t < 6
      · have d0 : decide (((t : Nat) : Int) < (l : Int)) = true := decide_eq_true (by omega)
        obtain ⟨g, off, rfl, hc⟩ : ∃ g off, a = some ⟨g, off, none⟩ ∧ w.cell? ⟨g, off + t, none⟩ = some (.int .i64 (Z t)) := by
          rcases h3'.out with e | ⟨g, off, e, hc⟩
          · omega
          · exact ⟨g, off, e, hc t (by omega)⟩
        have c0 := carry hB'.out hc
        have hx : (sixL Z l t)[t]? = some ((sixL Z l t)[t]'(by rw [sixL_len]; exact h2)) := List.getElem?_eq_getElem _
        have c1 := hown'.out.cellAt t (by omega)
        rw [ints_at hx] at c1
        have f1 := hown'.out.frozenAt t
        obtain ⟨k1, k2⟩ := hown'.out.stored t (.int .i64 (Z t))
        rw [Cm.ints_set, ← sixL_succ Z h1 h2] at k1
        have k1' := Lib.hid k1
        have k2' := Lib.hid (hB'.out.setCell (p := ⟨w.heap.size, t, none⟩) (Nat.le_refl _) (.int .i64 (Z t)))
        generalize (sixL Z l t)[t]'_ = y at *
        clear k1 k2 hc hx
        go_wp2_with fail
        refine ⟨⟨t + 1, by omega, by go_num, k1'.out, k2'.out⟩, ?_⟩
        simp [intOf]; omega
      · have d0 : decide (((t : Nat) : Int) < (l : Int)) = true := decide_eq_true (by omega)
        have hd := Lib.hid (sixL_done Z l t (fun h => h2 h.2))
        go_wp2_with fail
        go_ret
        exact ⟨rfl, by rw [← hd.out]; exact hown'.out, hB'.out⟩
    · have d0 : decide (((t : Nat) : Int) < (l : Int)) = false := decide_eq_false (by omega)
      have hd := Lib.hid (sixL_done Z l t (fun h => h1 h.1))
      go_wp2_with fail
      go_ret
      exact ⟨rfl, by rw [← hd.out]; exact hown'.out, hB'.out⟩
end Go.Proofs.Ytlpacihkmfgegaa
