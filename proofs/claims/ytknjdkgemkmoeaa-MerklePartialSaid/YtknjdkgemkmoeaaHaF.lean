/- Package hash64: Bytes. -/
import Derived.Test.YtknjdkgemkmoeaaHaE
import Derived.Laws.MakeOwn
namespace Go.Proofs.Ytknjdkgemkmoeaa
open Go.ChangeShapes Go.WideShapes Go.ChangeAt Go.RowKit Go.Shelf
set_option linter.unusedSimpArgs false
set_option linter.unusedVariables false
attribute [local go_sem] Oper.semAt_some

def wInts (L : List Nat) (k : Nat) : List Int := (wordsN L k).map BitVec.toInt
theorem wInts_succ (L : List Nat) (k : Nat) : wInts L (k + 1) = wInts L k ++ [(word L k).toInt] := by unfold wInts; rw [wordsN_succ, List.map_append]; rfl
theorem wInts_len (L : List Nat) (k : Nat) : (wInts L k).length = k := by unfold wInts; rw [List.length_map, wordsN_len]
theorem wInts_word (L : List Nat) (n : Nat) (h : L.length = n) : (wInts L (nw n) ++ [(n : Int)]).map (BitVec.ofInt 64) = words L ++ [BitVec.ofNat 64 L.length] := by
  unfold wInts words
  rw [h, List.map_append, List.map_map]
  congr 1
  rw [show (BitVec.ofInt 64 ∘ BitVec.toInt : W64 → W64) = id from funext fun a => BitVec.ofInt_toInt, List.map_id]
theorem ints_append (l m : List Int) : ints (l ++ m) = ints l ++ ints m := by unfold ints; rw [List.map_append]

end Go.Proofs.Ytknjdkgemkmoeaa
