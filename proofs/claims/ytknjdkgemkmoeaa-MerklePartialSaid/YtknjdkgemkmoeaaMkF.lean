/- The reference of merkle: Cells, Wrong; slices of leaves. -/
import Derived.Test.YtknjdkgemkmoeaaMkE
import Derived.Test.YtknjdkgemkmoeaaHaL
import Derived.BigQuiet
namespace Go.Proofs.Ytknjdkgemkmoeaa
open Go.ChangeShapes Go.WideShapes Go.ChangeAt Go.RowKit Go.Shelf
set_option linter.unusedSimpArgs false
set_option linter.unusedVariables false

theorem refCells_any (v : Value) (l : List Int) (w : World) (h : IL w v l) (hnn : ∀ n c, v = .slice none n c → v = .slice none 0 0) :
    Calls Try.prog 12 #[v] w fun e w' => (∃ v, e = .returned v ∧ w'.ownsRow w.heap.size 3 1 v (l.take 20).length (ints (l.take 20))) ∧ Below w.heap.size w w' := by
  have K := Lib.hid (show Calls Try.prog 42 #[v, .int .i64 20] w fun e w' => (∃ v, e = .returned v ∧ w'.ownsRow w.heap.size 3 1 v (l.take 20).length (ints (l.take 20))) ∧ Below w.heap.size w w' from ints_any v l 20 w h hnn (by decide))
  clear h hnn
  generalize l.take 20 = M at *
  go_enter Try.func12, Try.ntmps12
  go_wp2_with fail
  refine (K.out).mono ?_
  rintro e w1 ⟨⟨u, rfl, ho⟩, hb⟩
  go_wp2
  go_ret
  exact ⟨⟨_, rfl, ho⟩, hb⟩

/-! ## Slices of leaves -/
structure Lf where
  i : Int
  v : Int
  pv : Value
  l : List W64
/-- What is asked of a leaf in memory. -/
structure LfAt (w : World) (g o : Nat) (f : Lf) : Prop where
  c0 : w.cell? ⟨g, o, none⟩ = some (.int .i64 f.i)
  c1 : w.cell? ⟨g, o + 1, none⟩ = some (.int .i64 f.v)
  c2 : w.cell? ⟨g, o + 2, none⟩ = some f.pv
  pr : VL w f.pv (u64s f.l)
  few : f.l.length ≤ 1000
theorem LfAt.carry {w w' : World} {g o : Nat} {f : Lf} (h : LfAt w g o f) (hb : Below w.heap.size w w') : LfAt w' g o f :=
  ⟨Proofs.Ytknjdkgemkmoeaa.carry hb h.c0, Proofs.Ytknjdkgemkmoeaa.carry hb h.c1, Proofs.Ytknjdkgemkmoeaa.carry hb h.c2, h.pr.carry hb, h.few⟩
def LL (w : World) (v : Value) (ls : List Lf) : Prop :=
  ∃ a cap, v = .slice a ls.length cap ∧ ls.length ≤ cap ∧ cap ≤ maxLen ∧ (0 < ls.length → ∃ g off, a = some ⟨g, off, none⟩ ∧ g < w.heap.size ∧ ∀ k f, ls[k]? = some f → LfAt w g (off + k * 3) f)
theorem LL.carry {w w' : World} {v : Value} {ls : List Lf} (h : LL w v ls) (hb : Below w.heap.size w w') : LL w' v ls := by
  obtain ⟨a, cap, h1, h2, h3, h4⟩ := h
  exact ⟨a, cap, h1, h2, h3, fun hp => let ⟨g, off, e, hg, hc⟩ := h4 hp; ⟨g, off, e, Nat.lt_of_lt_of_le hg hb.size, fun k f hk => (hc k f hk).carry hb⟩⟩

/-! ## Wrong -/
def clash (h f : Lf) : Bool := (h.i == f.i) && !(h.v == f.v)
def okI (root : W64) (n : Nat) (ls : List Lf) (t : Nat) : Prop := ∀ f, ls[t]? = some f → verW root n f.i f.v f.l = true ∧ ∀ k h, k < t → ls[k]? = some h → clash h f = false
def okL (root : W64) (n : Nat) (ls : List Lf) : Prop := ∀ t, okI root n ls t
open Classical in
noncomputable def wrongV (root : W64) (n : Nat) (ls : List Lf) : Int := if okL root n ls then 0 else 22
theorem wrong_no {root : W64} {n : Nat} {ls : List Lf} {t : Nat} (h : ¬ okI root n ls t) : wrongV root n ls = 22 := by unfold wrongV; rw [if_neg fun k => h (k t)]
theorem wrong_yes {root : W64} {n : Nat} {ls : List Lf} (h : ∀ t, t < ls.length → okI root n ls t) : wrongV root n ls = 0 := by
  unfold wrongV
  rw [if_pos]
  intro t
  rcases Nat.lt_or_ge t ls.length with h1 | h1
  · exact h t h1
  · intro f hf
    rw [List.getElem?_eq_none h1] at hf
    cases hf

end Go.Proofs.Ytknjdkgemkmoeaa
