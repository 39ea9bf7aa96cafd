/- Package layout: Field, and the reference's. -/
import Derived.Test.YtknjdkgemkmoeaaLyA
import Derived.Maps.OwnSet
import Derived.Maps.OwnOps
import Derived.StringKeys
namespace Go.Proofs.Ytknjdkgemkmoeaa
open Go.ChangeShapes Go.WideShapes Go.ChangeAt Go.RowKit
set_option linter.unusedSimpArgs false
set_option linter.unusedVariables false
theorem keyS : Maps.Keyed Try.prog 9 := Maps.string_keyed Try.underlying9
theorem keyOf_str (s : ByteArray) (hs : s.size ≤ maxLen) : keyOf Try.prog 9 (.string s) = some (.string s.data.toList) := Go.WideMaps.keyOf_string_mk Try.underlying9 hs
theorem zero_i (w : World) : (zeroValue 3).run Try.prog w = .ok (.int .i64 0) w := by kernel_rfl
/-- The offset of a field. -/
def fldV (s : ByteArray) : Int :=
  if s = { data := #[120] } then 0
  else if s = { data := #[121] } then 1
  else if s = { data := #[118, 120] } then 2
  else if s = { data := #[118, 121] } then 3
  else if s = { data := #[97] } then 4
  else if s = { data := #[98] } then 5
  else if s = { data := #[104, 105, 116] } then 6
  else if s = { data := #[115, 116, 105, 108, 108] } then 7
  else -1
def fldD0 : DataW Unit := .map []
def fldD1 : DataW Unit := fldD0.put (.string ({ data := #[120] } : ByteArray).data.toList) (.lit (.int .i64 0))
def fldD2 : DataW Unit := fldD1.put (.string ({ data := #[121] } : ByteArray).data.toList) (.lit (.int .i64 1))
def fldD3 : DataW Unit := fldD2.put (.string ({ data := #[118, 120] } : ByteArray).data.toList) (.lit (.int .i64 2))
def fldD4 : DataW Unit := fldD3.put (.string ({ data := #[118, 121] } : ByteArray).data.toList) (.lit (.int .i64 3))
def fldD5 : DataW Unit := fldD4.put (.string ({ data := #[97] } : ByteArray).data.toList) (.lit (.int .i64 4))
def fldD6 : DataW Unit := fldD5.put (.string ({ data := #[98] } : ByteArray).data.toList) (.lit (.int .i64 5))
def fldD7 : DataW Unit := fldD6.put (.string ({ data := #[104, 105, 116] } : ByteArray).data.toList) (.lit (.int .i64 6))
def fldD8 : DataW Unit := fldD7.put (.string ({ data := #[115, 116, 105, 108, 108] } : ByteArray).data.toList) (.lit (.int .i64 7))
theorem fld_map0 : Maps.IsMap fldD0 := Maps.isMap_empty
theorem fld_map1 : Maps.IsMap fldD1 := Maps.IsMap.put fld_map0 _ _
theorem fld_map2 : Maps.IsMap fldD2 := Maps.IsMap.put fld_map1 _ _
theorem fld_map3 : Maps.IsMap fldD3 := Maps.IsMap.put fld_map2 _ _
theorem fld_map4 : Maps.IsMap fldD4 := Maps.IsMap.put fld_map3 _ _
theorem fld_map5 : Maps.IsMap fldD5 := Maps.IsMap.put fld_map4 _ _
theorem fld_map6 : Maps.IsMap fldD6 := Maps.IsMap.put fld_map5 _ _
theorem fld_map7 : Maps.IsMap fldD7 := Maps.IsMap.put fld_map6 _ _
theorem fld_map8 : Maps.IsMap fldD8 := Maps.IsMap.put fld_map7 _ _
theorem str_ne {a b : ByteArray} (h : a ≠ b) : Lit.string a.data.toList ≠ Lit.string b.data.toList := fun e => h (by
  have e1 : a.data.toList = b.data.toList := by simpa using e
  have e2 : a.data = b.data := Array.toList_inj.1 e1
  cases a; cases b; cases e2; rfl)
theorem fld_read (s : ByteArray) : ∃ c : Int, fldD8.atKey (.string s.data.toList) (.lit (.int .i64 0)) = .lit (.int .i64 c) ∧ ((Maps.has fldD8 (.string s.data.toList) = true ∧ c = fldV s ∧ 0 ≤ c) ∨ (Maps.has fldD8 (.string s.data.toList) = false ∧ fldV s = -1)) := by
  by_cases h0 : s = { data := #[120] }
  · subst h0
    refine ⟨0, ?_, .inl ⟨?_, rfl, by decide⟩⟩
    · show (fldD7.put (.string ({ data := #[115, 116, 105, 108, 108] } : ByteArray).data.toList) (.lit (.int .i64 7))).atKey _ _ = _; rw [Maps.atKey_put_other (str_ne (by decide))]; show (fldD6.put (.string ({ data := #[104, 105, 116] } : ByteArray).data.toList) (.lit (.int .i64 6))).atKey _ _ = _; rw [Maps.atKey_put_other (str_ne (by decide))]; show (fldD5.put (.string ({ data := #[98] } : ByteArray).data.toList) (.lit (.int .i64 5))).atKey _ _ = _; rw [Maps.atKey_put_other (str_ne (by decide))]; show (fldD4.put (.string ({ data := #[97] } : ByteArray).data.toList) (.lit (.int .i64 4))).atKey _ _ = _; rw [Maps.atKey_put_other (str_ne (by decide))]; show (fldD3.put (.string ({ data := #[118, 121] } : ByteArray).data.toList) (.lit (.int .i64 3))).atKey _ _ = _; rw [Maps.atKey_put_other (str_ne (by decide))]; show (fldD2.put (.string ({ data := #[118, 120] } : ByteArray).data.toList) (.lit (.int .i64 2))).atKey _ _ = _; rw [Maps.atKey_put_other (str_ne (by decide))]; show (fldD1.put (.string ({ data := #[121] } : ByteArray).data.toList) (.lit (.int .i64 1))).atKey _ _ = _; rw [Maps.atKey_put_other (str_ne (by decide))]; exact Maps.atKey_put_same (k := .string ({ data := #[120] } : ByteArray).data.toList) fld_map0 trivial _ _
    · show Maps.has (fldD7.put (.string ({ data := #[115, 116, 105, 108, 108] } : ByteArray).data.toList) (.lit (.int .i64 7))) _ = _; rw [Maps.has_put_other (str_ne (by decide))]; show Maps.has (fldD6.put (.string ({ data := #[104, 105, 116] } : ByteArray).data.toList) (.lit (.int .i64 6))) _ = _; rw [Maps.has_put_other (str_ne (by decide))]; show Maps.has (fldD5.put (.string ({ data := #[98] } : ByteArray).data.toList) (.lit (.int .i64 5))) _ = _; rw [Maps.has_put_other (str_ne (by decide))]; show Maps.has (fldD4.put (.string ({ data := #[97] } : ByteArray).data.toList) (.lit (.int .i64 4))) _ = _; rw [Maps.has_put_other (str_ne (by decide))]; show Maps.has (fldD3.put (.string ({ data := #[118, 121] } : ByteArray).data.toList) (.lit (.int .i64 3))) _ = _; rw [Maps.has_put_other (str_ne (by decide))]; show Maps.has (fldD2.put (.string ({ data := #[118, 120] } : ByteArray).data.toList) (.lit (.int .i64 2))) _ = _; rw [Maps.has_put_other (str_ne (by decide))]; show Maps.has (fldD1.put (.string ({ data := #[121] } : ByteArray).data.toList) (.lit (.int .i64 1))) _ = _; rw [Maps.has_put_other (str_ne (by decide))]; exact Maps.has_put_same (k := .string ({ data := #[120] } : ByteArray).data.toList) fld_map0 trivial _
  by_cases h1 : s = { data := #[121] }
  · subst h1
    refine ⟨1, ?_, .inl ⟨?_, rfl, by decide⟩⟩
    · show (fldD7.put (.string ({ data := #[115, 116, 105, 108, 108] } : ByteArray).data.toList) (.lit (.int .i64 7))).atKey _ _ = _; rw [Maps.atKey_put_other (str_ne (by decide))]; show (fldD6.put (.string ({ data := #[104, 105, 116] } : ByteArray).data.toList) (.lit (.int .i64 6))).atKey _ _ = _; rw [Maps.atKey_put_other (str_ne (by decide))]; show (fldD5.put (.string ({ data := #[98] } : ByteArray).data.toList) (.lit (.int .i64 5))).atKey _ _ = _; rw [Maps.atKey_put_other (str_ne (by decide))]; show (fldD4.put (.string ({ data := #[97] } : ByteArray).data.toList) (.lit (.int .i64 4))).atKey _ _ = _; rw [Maps.atKey_put_other (str_ne (by decide))]; show (fldD3.put (.string ({ data := #[118, 121] } : ByteArray).data.toList) (.lit (.int .i64 3))).atKey _ _ = _; rw [Maps.atKey_put_other (str_ne (by decide))]; show (fldD2.put (.string ({ data := #[118, 120] } : ByteArray).data.toList) (.lit (.int .i64 2))).atKey _ _ = _; rw [Maps.atKey_put_other (str_ne (by decide))]; exact Maps.atKey_put_same (k := .string ({ data := #[121] } : ByteArray).data.toList) fld_map1 trivial _ _
    · show Maps.has (fldD7.put (.string ({ data := #[115, 116, 105, 108, 108] } : ByteArray).data.toList) (.lit (.int .i64 7))) _ = _; rw [Maps.has_put_other (str_ne (by decide))]; show Maps.has (fldD6.put (.string ({ data := #[104, 105, 116] } : ByteArray).data.toList) (.lit (.int .i64 6))) _ = _; rw [Maps.has_put_other (str_ne (by decide))]; show Maps.has (fldD5.put (.string ({ data := #[98] } : ByteArray).data.toList) (.lit (.int .i64 5))) _ = _; rw [Maps.has_put_other (str_ne (by decide))]; show Maps.has (fldD4.put (.string ({ data := #[97] } : ByteArray).data.toList) (.lit (.int .i64 4))) _ = _; rw [Maps.has_put_other (str_ne (by decide))]; show Maps.has (fldD3.put (.string ({ data := #[118, 121] } : ByteArray).data.toList) (.lit (.int .i64 3))) _ = _; rw [Maps.has_put_other (str_ne (by decide))]; show Maps.has (fldD2.put (.string ({ data := #[118, 120] } : ByteArray).data.toList) (.lit (.int .i64 2))) _ = _; rw [Maps.has_put_other (str_ne (by decide))]; exact Maps.has_put_same (k := .string ({ data := #[121] } : ByteArray).data.toList) fld_map1 trivial _
  by_cases h2 : s = { data := #[118, 120] }
  · subst h2
    refine ⟨2, ?_, .inl ⟨?_, rfl, by decide⟩⟩
    · show (fldD7.put (.string ({ data := #[115, 116, 105, 108, 108] } : ByteArray).data.toList) (.lit (.int .i64 7))).atKey _ _ = _; rw [Maps.atKey_put_other (str_ne (by decide))]; show (fldD6.put (.string ({ data := #[104, 105, 116] } : ByteArray).data.toList) (.lit (.int .i64 6))).atKey _ _ = _; rw [Maps.atKey_put_other (str_ne (by decide))]; show (fldD5.put (.string ({ data := #[98] } : ByteArray).data.toList) (.lit (.int .i64 5))).atKey _ _ = _; rw [Maps.atKey_put_other (str_ne (by decide))]; show (fldD4.put (.string ({ data := #[97] } : ByteArray).data.toList) (.lit (.int .i64 4))).atKey _ _ = _; rw [Maps.atKey_put_other (str_ne (by decide))]; show (fldD3.put (.string ({ data := #[118, 121] } : ByteArray).data.toList) (.lit (.int .i64 3))).atKey _ _ = _; rw [Maps.atKey_put_other (str_ne (by decide))]; exact Maps.atKey_put_same (k := .string ({ data := #[118, 120] } : ByteArray).data.toList) fld_map2 trivial _ _
    · show Maps.has (fldD7.put (.string ({ data := #[115, 116, 105, 108, 108] } : ByteArray).data.toList) (.lit (.int .i64 7))) _ = _; rw [Maps.has_put_other (str_ne (by decide))]; show Maps.has (fldD6.put (.string ({ data := #[104, 105, 116] } : ByteArray).data.toList) (.lit (.int .i64 6))) _ = _; rw [Maps.has_put_other (str_ne (by decide))]; show Maps.has (fldD5.put (.string ({ data := #[98] } : ByteArray).data.toList) (.lit (.int .i64 5))) _ = _; rw [Maps.has_put_other (str_ne (by decide))]; show Maps.has (fldD4.put (.string ({ data := #[97] } : ByteArray).data.toList) (.lit (.int .i64 4))) _ = _; rw [Maps.has_put_other (str_ne (by decide))]; show Maps.has (fldD3.put (.string ({ data := #[118, 121] } : ByteArray).data.toList) (.lit (.int .i64 3))) _ = _; rw [Maps.has_put_other (str_ne (by decide))]; exact Maps.has_put_same (k := .string ({ data := #[118, 120] } : ByteArray).data.toList) fld_map2 trivial _
  by_cases h3 : s = { data := #[118, 121] }
  · subst h3
    refine ⟨3, ?_, .inl ⟨?_, rfl, by decide⟩⟩
    · show (fldD7.put (.string ({ data := #[115, 116, 105, 108, 108] } : ByteArray).data.toList) (.lit (.int .i64 7))).atKey _ _ = _; rw [Maps.atKey_put_other (str_ne (by decide))]; show (fldD6.put (.string ({ data := #[104, 105, 116] } : ByteArray).data.toList) (.lit (.int .i64 6))).atKey _ _ = _; rw [Maps.atKey_put_other (str_ne (by decide))]; show (fldD5.put (.string ({ data := #[98] } : ByteArray).data.toList) (.lit (.int .i64 5))).atKey _ _ = _; rw [Maps.atKey_put_other (str_ne (by decide))]; show (fldD4.put (.string ({ data := #[97] } : ByteArray).data.toList) (.lit (.int .i64 4))).atKey _ _ = _; rw [Maps.atKey_put_other (str_ne (by decide))]; exact Maps.atKey_put_same (k := .string ({ data := #[118, 121] } : ByteArray).data.toList) fld_map3 trivial _ _
    · show Maps.has (fldD7.put (.string ({ data := #[115, 116, 105, 108, 108] } : ByteArray).data.toList) (.lit (.int .i64 7))) _ = _; rw [Maps.has_put_other (str_ne (by decide))]; show Maps.has (fldD6.put (.string ({ data := #[104, 105, 116] } : ByteArray).data.toList) (.lit (.int .i64 6))) _ = _; rw [Maps.has_put_other (str_ne (by decide))]; show Maps.has (fldD5.put (.string ({ data := #[98] } : ByteArray).data.toList) (.lit (.int .i64 5))) _ = _; rw [Maps.has_put_other (str_ne (by decide))]; show Maps.has (fldD4.put (.string ({ data := #[97] } : ByteArray).data.toList) (.lit (.int .i64 4))) _ = _; rw [Maps.has_put_other (str_ne (by decide))]; exact Maps.has_put_same (k := .string ({ data := #[118, 121] } : ByteArray).data.toList) fld_map3 trivial _
  by_cases h4 : s = { data := #[97] }
  · subst h4
    refine ⟨4, ?_, .inl ⟨?_, rfl, by decide⟩⟩
    · show (fldD7.put (.string ({ data := #[115, 116, 105, 108, 108] } : ByteArray).data.toList) (.lit (.int .i64 7))).atKey _ _ = _; rw [Maps.atKey_put_other (str_ne (by decide))]; show (fldD6.put (.string ({ data := #[104, 105, 116] } : ByteArray).data.toList) (.lit (.int .i64 6))).atKey _ _ = _; rw [Maps.atKey_put_other (str_ne (by decide))]; show (fldD5.put (.string ({ data := #[98] } : ByteArray).data.toList) (.lit (.int .i64 5))).atKey _ _ = _; rw [Maps.atKey_put_other (str_ne (by decide))]; exact Maps.atKey_put_same (k := .string ({ data := #[97] } : ByteArray).data.toList) fld_map4 trivial _ _
    · show Maps.has (fldD7.put (.string ({ data := #[115, 116, 105, 108, 108] } : ByteArray).data.toList) (.lit (.int .i64 7))) _ = _; rw [Maps.has_put_other (str_ne (by decide))]; show Maps.has (fldD6.put (.string ({ data := #[104, 105, 116] } : ByteArray).data.toList) (.lit (.int .i64 6))) _ = _; rw [Maps.has_put_other (str_ne (by decide))]; show Maps.has (fldD5.put (.string ({ data := #[98] } : ByteArray).data.toList) (.lit (.int .i64 5))) _ = _; rw [Maps.has_put_other (str_ne (by decide))]; exact Maps.has_put_same (k := .string ({ data := #[97] } : ByteArray).data.toList) fld_map4 trivial _
  by_cases h5 : s = { data := #[98] }
  · subst h5
    refine ⟨5, ?_, .inl ⟨?_, rfl, by decide⟩⟩
    · show (fldD7.put (.string ({ data := #[115, 116, 105, 108, 108] } : ByteArray).data.toList) (.lit (.int .i64 7))).atKey _ _ = _; rw [Maps.atKey_put_other (str_ne (by decide))]; show (fldD6.put (.string ({ data := #[104, 105, 116] } : ByteArray).data.toList) (.lit (.int .i64 6))).atKey _ _ = _; rw [Maps.atKey_put_other (str_ne (by decide))]; exact Maps.atKey_put_same (k := .string ({ data := #[98] } : ByteArray).data.toList) fld_map5 trivial _ _
    · show Maps.has (fldD7.put (.string ({ data := #[115, 116, 105, 108, 108] } : ByteArray).data.toList) (.lit (.int .i64 7))) _ = _; rw [Maps.has_put_other (str_ne (by decide))]; show Maps.has (fldD6.put (.string ({ data := #[104, 105, 116] } : ByteArray).data.toList) (.lit (.int .i64 6))) _ = _; rw [Maps.has_put_other (str_ne (by decide))]; exact Maps.has_put_same (k := .string ({ data := #[98] } : ByteArray).data.toList) fld_map5 trivial _
  by_cases h6 : s = { data := #[104, 105, 116] }
  · subst h6
    refine ⟨6, ?_, .inl ⟨?_, rfl, by decide⟩⟩
    · show (fldD7.put (.string ({ data := #[115, 116, 105, 108, 108] } : ByteArray).data.toList) (.lit (.int .i64 7))).atKey _ _ = _; rw [Maps.atKey_put_other (str_ne (by decide))]; exact Maps.atKey_put_same (k := .string ({ data := #[104, 105, 116] } : ByteArray).data.toList) fld_map6 trivial _ _
    · show Maps.has (fldD7.put (.string ({ data := #[115, 116, 105, 108, 108] } : ByteArray).data.toList) (.lit (.int .i64 7))) _ = _; rw [Maps.has_put_other (str_ne (by decide))]; exact Maps.has_put_same (k := .string ({ data := #[104, 105, 116] } : ByteArray).data.toList) fld_map6 trivial _
  by_cases h7 : s = { data := #[115, 116, 105, 108, 108] }
  · subst h7
    refine ⟨7, ?_, .inl ⟨?_, rfl, by decide⟩⟩
    · exact Maps.atKey_put_same (k := .string ({ data := #[115, 116, 105, 108, 108] } : ByteArray).data.toList) fld_map7 trivial _ _
    · exact Maps.has_put_same (k := .string ({ data := #[115, 116, 105, 108, 108] } : ByteArray).data.toList) fld_map7 trivial _
  refine ⟨0, ?_, .inr ⟨?_, ?_⟩⟩
  · show (fldD7.put (.string ({ data := #[115, 116, 105, 108, 108] } : ByteArray).data.toList) (.lit (.int .i64 7))).atKey _ _ = _; rw [Maps.atKey_put_other (str_ne h7)]; show (fldD6.put (.string ({ data := #[104, 105, 116] } : ByteArray).data.toList) (.lit (.int .i64 6))).atKey _ _ = _; rw [Maps.atKey_put_other (str_ne h6)]; show (fldD5.put (.string ({ data := #[98] } : ByteArray).data.toList) (.lit (.int .i64 5))).atKey _ _ = _; rw [Maps.atKey_put_other (str_ne h5)]; show (fldD4.put (.string ({ data := #[97] } : ByteArray).data.toList) (.lit (.int .i64 4))).atKey _ _ = _; rw [Maps.atKey_put_other (str_ne h4)]; show (fldD3.put (.string ({ data := #[118, 121] } : ByteArray).data.toList) (.lit (.int .i64 3))).atKey _ _ = _; rw [Maps.atKey_put_other (str_ne h3)]; show (fldD2.put (.string ({ data := #[118, 120] } : ByteArray).data.toList) (.lit (.int .i64 2))).atKey _ _ = _; rw [Maps.atKey_put_other (str_ne h2)]; show (fldD1.put (.string ({ data := #[121] } : ByteArray).data.toList) (.lit (.int .i64 1))).atKey _ _ = _; rw [Maps.atKey_put_other (str_ne h1)]; show (fldD0.put (.string ({ data := #[120] } : ByteArray).data.toList) (.lit (.int .i64 0))).atKey _ _ = _; rw [Maps.atKey_put_other (str_ne h0)]; rfl
  · show Maps.has (fldD7.put (.string ({ data := #[115, 116, 105, 108, 108] } : ByteArray).data.toList) (.lit (.int .i64 7))) _ = _; rw [Maps.has_put_other (str_ne h7)]; show Maps.has (fldD6.put (.string ({ data := #[104, 105, 116] } : ByteArray).data.toList) (.lit (.int .i64 6))) _ = _; rw [Maps.has_put_other (str_ne h6)]; show Maps.has (fldD5.put (.string ({ data := #[98] } : ByteArray).data.toList) (.lit (.int .i64 5))) _ = _; rw [Maps.has_put_other (str_ne h5)]; show Maps.has (fldD4.put (.string ({ data := #[97] } : ByteArray).data.toList) (.lit (.int .i64 4))) _ = _; rw [Maps.has_put_other (str_ne h4)]; show Maps.has (fldD3.put (.string ({ data := #[118, 121] } : ByteArray).data.toList) (.lit (.int .i64 3))) _ = _; rw [Maps.has_put_other (str_ne h3)]; show Maps.has (fldD2.put (.string ({ data := #[118, 120] } : ByteArray).data.toList) (.lit (.int .i64 2))) _ = _; rw [Maps.has_put_other (str_ne h2)]; show Maps.has (fldD1.put (.string ({ data := #[121] } : ByteArray).data.toList) (.lit (.int .i64 1))) _ = _; rw [Maps.has_put_other (str_ne h1)]; show Maps.has (fldD0.put (.string ({ data := #[120] } : ByteArray).data.toList) (.lit (.int .i64 0))) _ = _; rw [Maps.has_put_other (str_ne h0)]; rfl
  · unfold fldV; rw [if_neg h0, if_neg h1, if_neg h2, if_neg h3, if_neg h4, if_neg h5, if_neg h6, if_neg h7]

set_option maxRecDepth 100000 in
set_option maxHeartbeats 8000000 in
theorem field_any (s : ByteArray) (hs : s.size ≤ maxLen) (w : World) :
    Calls Try.prog 36 #[.string s] w fun e w' => e = .returned (.int .i64 (fldV s)) ∧ Below w.heap.size w w' := by
  have hmm := @run_makeMap Try.prog
  have o0 := World.ownsMap_made w Try.prog 9 (plainElem (H := Unit) Try.prog 3)
  have b0 := alloc_below w (.map #[] 0)
  generalize hW0 : w.alloc (.map #[] 0) = W0 at *
  obtain ⟨W1, r1, o1, g1⟩ := o0.update keyS Try.underlying122 (by unfold maxLen; omega) (keyOf_str { data := #[120] } (by decide)) (plainElem_int (H := Unit) (P := Try.prog) (a := 0) Try.underlying3 (by decide))
  have b1 := b0.grown g1 b0.size (fun r e => by cases e; exact Nat.le_refl _)
  obtain ⟨W2, r2, o2, g2⟩ := o1.update keyS Try.underlying122 (by unfold maxLen; omega) (keyOf_str { data := #[121] } (by decide)) (plainElem_int (H := Unit) (P := Try.prog) (a := 1) Try.underlying3 (by decide))
  have b2 := b1.grown g2 b1.size (fun r e => by cases e; exact Nat.le_refl _)
  obtain ⟨W3, r3, o3, g3⟩ := o2.update keyS Try.underlying122 (by unfold maxLen; omega) (keyOf_str { data := #[118, 120] } (by decide)) (plainElem_int (H := Unit) (P := Try.prog) (a := 2) Try.underlying3 (by decide))
  have b3 := b2.grown g3 b2.size (fun r e => by cases e; exact Nat.le_refl _)
  obtain ⟨W4, r4, o4, g4⟩ := o3.update keyS Try.underlying122 (by unfold maxLen; omega) (keyOf_str { data := #[118, 121] } (by decide)) (plainElem_int (H := Unit) (P := Try.prog) (a := 3) Try.underlying3 (by decide))
  have b4 := b3.grown g4 b3.size (fun r e => by cases e; exact Nat.le_refl _)
  obtain ⟨W5, r5, o5, g5⟩ := o4.update keyS Try.underlying122 (by unfold maxLen; omega) (keyOf_str { data := #[97] } (by decide)) (plainElem_int (H := Unit) (P := Try.prog) (a := 4) Try.underlying3 (by decide))
  have b5 := b4.grown g5 b4.size (fun r e => by cases e; exact Nat.le_refl _)
  obtain ⟨W6, r6, o6, g6⟩ := o5.update keyS Try.underlying122 (by unfold maxLen; omega) (keyOf_str { data := #[98] } (by decide)) (plainElem_int (H := Unit) (P := Try.prog) (a := 5) Try.underlying3 (by decide))
  have b6 := b5.grown g6 b5.size (fun r e => by cases e; exact Nat.le_refl _)
  obtain ⟨W7, r7, o7, g7⟩ := o6.update keyS Try.underlying122 (by unfold maxLen; omega) (keyOf_str { data := #[104, 105, 116] } (by decide)) (plainElem_int (H := Unit) (P := Try.prog) (a := 6) Try.underlying3 (by decide))
  have b7 := b6.grown g7 b6.size (fun r e => by cases e; exact Nat.le_refl _)
  obtain ⟨W8, r8, o8, g8⟩ := o7.update keyS Try.underlying122 (by unfold maxLen; omega) (keyOf_str { data := #[115, 116, 105, 108, 108] } (by decide)) (plainElem_int (H := Unit) (P := Try.prog) (a := 7) Try.underlying3 (by decide))
  have b8 := b7.grown g8 b7.size (fun r e => by cases e; exact Nat.le_refl _)
  obtain ⟨v, ps, hrun, hv⟩ := (show W8.ownsMap Try.prog 9 (plainElem (H := Unit) Try.prog 3) w.heap.size 8 fldD8 from o8).look_ok keyS Try.underlying122 (zero_i W8) (plainElem_int Try.underlying3 (by decide)) (keyOf_str s hs)
  obtain ⟨c', rfl, hc', -⟩ := plainElem_int_inv Try.underlying3 hv
  obtain ⟨c, hc, hhas⟩ := fld_read s
  have e : c' = c := by
    have := (congrArg Prod.fst hc').symm.trans hc
    simpa using this
  subst e
  have hB := Lib.hid b8
  have hm0 := Lib.hid hW0
  clear hv hc' hc o0 o1 o2 o3 o4 o5 o6 o7 o8 g1 g2 g3 g4 g5 g6 g7 g8 b0 b1 b2 b3 b4 b5 b6 b7 b8
  rcases hhas with ⟨h1, h2, h3⟩ | ⟨h1, h2⟩
  · rw [h1] at hrun
    rw [h2] at hrun
    clear h1 h2 hm0
    go_enter Try.func36, Try.ntmps36
    go_wp2
    go_ret
    exact ⟨rfl, hB.out⟩
  · rw [h1] at hrun
    have h2' := Lib.hid h2
    clear h1 h2 hm0
    go_enter Try.func36, Try.ntmps36
    go_wp2
    go_ret
    exact ⟨by rw [h2'.out]; rfl, hB.out⟩
end Go.Proofs.Ytknjdkgemkmoeaa
