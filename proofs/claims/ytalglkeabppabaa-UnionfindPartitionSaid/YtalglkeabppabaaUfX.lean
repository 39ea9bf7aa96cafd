/- For the laws of package unionfind: size; what is carried along. -/
import Derived.Test.YtalglkeabppabaaUfW
namespace Go.Proofs.Ytalglkeabppabaa
open Go.ChangeShapes Go.WideShapes Go.ChangeAt Go.RowKit
open Uf
set_option linter.unusedSimpArgs false
set_option linter.unusedVariables false

def sz (n : Int) : Nat := (arnd n 15).toNat
theorem sz_le (n : Int) : sz n ≤ 14 := by have := arnd_bd n (m := 15) (by omega); unfold sz; omega
theorem size8_any (n : Int) (w : World) (hn : (Lit.int .i64 n).wf = true) :
    Calls Try.prog 11 #[.int .i64 n] w fun e w' => e = .returned (.int .i64 ((sz n : Nat) : Int)) ∧ w = w' := by
  obtain ⟨b1, b2⟩ := i64_bd hn
  have h := Lib.hid (show ((sz n : Nat) : Int) = arnd n 15 from by have := arnd_bd n (m := 15) (by omega); unfold sz; omega)
  rw [h.out]
  go_enter Try.func11, Try.ntmps11
  go_wp2_with (go_at_call 27; with_reducible refine (around_any n 15 _ b1 b2 (by omega)).mono ?_; rintro e w1 ⟨rfl, rfl⟩)
  go_ret
  exact ⟨rfl, rfl⟩

/-- v is a slice of pairs, or of integers, and lies elsewhere than in block g. -/
structure PLn (g : Nat) (w : World) (v : Value) (E : List (Int × Int)) : Prop where
  pl : PL w v E
  ne : v.ownBlock ≠ some g
structure ILn (g : Nat) (w : World) (v : Value) (l : List Int) : Prop where
  il : IL w v l
  ne : v.ownBlock ≠ some g
theorem PLn.carry {g : Nat} {w w' : World} {v : Value} {E : List (Int × Int)} (h : PLn g w v E) (hb : Below w.heap.size w w') : PLn g w' v E := ⟨h.1.carry hb, h.2⟩
theorem ILn.carry {g : Nat} {w w' : World} {v : Value} {l : List Int} (h : ILn g w v l) (hb : Below w.heap.size w w') : ILn g w' v l := ⟨h.1.carry hb, h.2⟩
theorem PLn.grown {g : Nat} {w w' : World} {v : Value} {E : List (Int × Int)} (h : PLn g w v E) (hg : w.grownBy w' (some g)) : PLn g w' v E := by
  obtain ⟨⟨a, cap, rfl, h1, h2, h3⟩, hn⟩ := h
  refine ⟨⟨a, cap, rfl, h1, h2, ?_⟩, hn⟩
  rcases h3 with h3 | ⟨b, off, rfl, hb, hc⟩
  · exact .inl h3
  · have hbg : some b ≠ some g := fun e => hn (by simpa [Value.ownBlock] using e)
    exact .inr ⟨b, off, rfl, Nat.lt_of_lt_of_le hb hg.size, fun i p hp => ⟨hg.cell (hc i p hp).1 hbg, hg.cell (hc i p hp).2 hbg⟩⟩
theorem ILn.grown {g : Nat} {w w' : World} {v : Value} {l : List Int} (h : ILn g w v l) (hg : w.grownBy w' (some g)) : ILn g w' v l :=
  ⟨VL.grown h.1 hg (fun k hk => by cases hk; exact h.2), h.2⟩
end Go.Proofs.Ytalglkeabppabaa
