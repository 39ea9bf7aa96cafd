/- Package hash64: Pair; small facts about rows of integers. -/
import Derived.Test.YtknjdkgemkmoeaaHaD
import Derived.Laws.AppendOwnNone
namespace Go.Proofs.Ytknjdkgemkmoeaa
open Go.ChangeShapes Go.WideShapes Go.ChangeAt Go.RowKit Go.Shelf
set_option linter.unusedSimpArgs false
set_option linter.unusedVariables false
attribute [local go_sem] Oper.semAt_some

theorem info_int : (Try.prog.info? 3).map (fun i => (i.zero, i.size, i.bytes)) = some (some (.int .i64 0), 1, 8) := by kernel_rfl
theorem info_byte : (Try.prog.info? 5).map (fun i => (i.zero, i.size, i.bytes)) = some (some (.int .u8 0), 1, 1) := by kernel_rfl
theorem info_word : (Try.prog.info? 36).map (fun i => (i.zero, i.size, i.bytes)) = some (some (.int .u64 0), 1, 8) := by kernel_rfl
theorem own_other {A B : World} {base : Nat} {e : TypeId} {size : Nat} {v : Value} {k : Nat} {xs : List Value} {row : Option Nat} (h : A.ownsRow base e size v k xs) (hg : A.grownBy B row) (hr : ∀ r, row = some r → r < base) : B.ownsRow base e size v k xs := by
  refine h.kept hg ?_
  rcases h.2 with ⟨rfl, _⟩ | ⟨g, cap, cur, rfl, hgb, _⟩
  · exact .inl rfl
  · exact .inr fun e' => by have := hr g (by simpa [Value.ownBlock] using e'.symm); omega
theorem own_block {A : World} {base : Nat} {e : TypeId} {size : Nat} {v : Value} {k : Nat} {xs : List Value} (h : A.ownsRow base e size v k xs) {r : Nat} (hr : v.ownBlock = some r) : base ≤ r := by
  rcases h.2 with ⟨rfl, _⟩ | ⟨g, cap, cur, rfl, hgb, _⟩
  · simp [Value.ownBlock] at hr
  · have : g = r := by simpa [Value.ownBlock] using hr
    omega
theorem own_mono {A : World} {base base' : Nat} {e : TypeId} {size : Nat} {v : Value} {k : Nat} {xs : List Value} (h : A.ownsRow base e size v k xs) (hb : base' ≤ base) : A.ownsRow base' e size v k xs :=
  ⟨h.1, h.2.imp_right fun ⟨g, cap, cur, h1, h2, h3⟩ => ⟨g, cap, cur, h1, Nat.le_trans hb h2, h3⟩⟩
theorem ints_one' (l : List Int) : ∀ u ∈ ints l, u.oneCell' = true := fun u hu => by
  unfold ints at hu
  obtain ⟨z, _, rfl⟩ := List.mem_map.1 hu
  rfl
theorem two_new (w : World) (x y : Int) : IL (w.alloc (.cells #[.int .i64 x, .int .i64 y] 3)) (.slice (some ⟨w.heap.size, 0, none⟩) 2 2) [x, y] := by
  refine ⟨_, 2, rfl, Nat.le_refl _, by decide, .inr ⟨w.heap.size, 0, rfl, by simp, fun i u hu => ?_⟩⟩
  rw [Nat.zero_add, World.cell?_alloc_new]
  simpa [ints] using hu
theorem one_new (w : World) (x : Int) : IL (w.alloc (.cells #[.int .i64 x] 3)) (.slice (some ⟨w.heap.size, 0, none⟩) 1 1) [x] := by
  refine ⟨_, 1, rfl, Nat.le_refl _, by decide, .inr ⟨w.heap.size, 0, rfl, by simp, fun i u hu => ?_⟩⟩
  rw [Nat.zero_add, World.cell?_alloc_new]
  simpa [ints] using hu

theorem wrap64_word (a : W64) : wrap64 (a.toNat : Int) = a.toInt := by rw [← IntWalk.i64_left]; exact i64_of_word a
theorem pairLab : labL { data := #[112, 97, 105, 114] } = [112, 97, 105, 114] := by decide
theorem pairSize : ByteArray.size { data := #[112, 97, 105, 114] } ≤ 1000 := by decide
set_option maxHeartbeats 2000000 in
theorem pair_any (a b : W64) (w : World) : Calls Try.prog 55 #[.int .u64 (a.toNat : Int), .int .u64 (b.toNat : Int)] w fun e w' => e = .returned (.int .u64 ((pairW a b).toNat : Int)) ∧ Below w.heap.size w w' := by
  have ha := wrap64_word a
  have hb := wrap64_word b
  have K := sum_any { data := #[112, 97, 105, 114] } _ [a.toInt, b.toInt] _ (two_new w a.toInt b.toInt) pairSize (by simp)
  rw [pairLab] at K
  simp only [List.map_cons, List.map_nil, BitVec.ofInt_toInt] at K
  rw [show sumW [112, 97, 105, 114] [a, b] = pairW a b from rfl, ← ha, ← hb] at K
  have hB := Lib.hid (alloc_below w (.cells #[.int .i64 (wrap64 (a.toNat : Int)), .int .i64 (wrap64 (b.toNat : Int))] 3))
  have hK := Lib.hid K
  clear K ha hb
  generalize pairW a b = r at *
  go_enter Try.func55, Try.ntmps55
  go_wp2_with fail
  with_reducible refine (hK.out).mono ?_
  rintro e w1 ⟨rfl, hb1⟩
  go_wp2
  go_ret
  exact ⟨rfl, below_step hB.out hb1⟩
end Go.Proofs.Ytknjdkgemkmoeaa
