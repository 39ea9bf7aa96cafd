/- The reference of merkle: Bent. -/
import Derived.Test.YtknjdkgemkmoeaaMkD
import Derived.Test.YtknjdkgemkmoeaaFixed
import Derived.Test.YtknjdkgemkmoeaaHaM
namespace Go.Proofs.Ytknjdkgemkmoeaa
open Go.ChangeShapes Go.WideShapes Go.ChangeAt Go.RowKit Go.Shelf
set_option linter.unusedSimpArgs false
set_option linter.unusedVariables false

theorem grown_self (w : World) (row : Option Nat) : w.grownBy w row := ⟨rfl, rfl, rfl, Nat.le_refl _, fun _ _ _ => rfl⟩
/-- append of a slice that may be nil (and is empty then) onto a row of the call's own. -/
theorem wpList_append_nilable {P : Program} {w : World} {ops : Array Oper} {rest : List Oper} {o : Oper} {a : Act} {Q : Exit → Act → World → Prop} (hgd : o.guard = none) (s x : Operand) (t : TypeId)
    (ho : o.op = .call { callee := .builtin .append, args := #[s, x], argTypes := #[t, t] })
    (base : Nat) (e : TypeId) (i : TypeInfo) (z : Value) (size bytes : Nat) (ht : P.underlying t = some (.slice e)) (hi : P.info? e = some i) (hz : i.zero = some z)
    (hsize : i.size = size) (hby : i.bytes = bytes) (hzs : z.cells.size = size) (hsz : 0 < size)
    (v : Value) (n : Nat) (xs : List Value) (hs : a.eval s = v) (hown : w.ownsRow base e size v n xs)
    (ax : Option Addr) (m c : Nat) (news : List Value) (hx : a.eval x = .slice ax m c) (hl : news.length = m * size) (h0 : ax = none → m = 0 ∧ c = 0) (hnews : ∀ ad, ax = some ad → ∀ j u, news[j]? = some u → w.cell? (ad.add j) = some u) (h1 : ∀ u ∈ news, u.oneCell' = true)
    (h63 : n + m ≤ maxLen) (hbytes : (n + m) * bytes ≤ 140737488355328) (hbase : base ≤ w.heap.size)
    (h : ∀ v' w', w'.ownsRow base e size v' (n + m) (xs ++ news) → w.grownBy w' v.ownBlock → wpList P ops Q rest (a.put o.dst v') w') : wpList P ops Q (o :: rest) a w := by
  cases ax with
  | none =>
    obtain ⟨rfl, rfl⟩ := h0 rfl
    have hn : news = [] := List.length_eq_zero_iff.1 (by rw [hl, Nat.zero_mul])
    subst hn
    refine wpList_append_own_none hgd s x t ho base e i size ht hi v n xs hs hown hx (h v w ?_ (grown_self _ _))
    rw [List.append_nil]; exact hown
  | some ad => exact wpList_append_own w hgd s x t ho base e i z size bytes ht hi hz hsize hby hzs hsz v n xs hs hown ad m c news hx hl (hnews ad rfl) h1 h63 hbytes hbase (fun v' w' h2 h3 _ => h v' w' h2 h3)

theorem own_slice {w : World} {B : Nat} {e : TypeId} {sz : Nat} {v : Value} {n : Nat} {xs : List Value} (h : w.ownsRow B e sz v n xs) : ∃ a c, v = .slice a n c := by
  rcases h.2 with ⟨rfl, h2⟩ | ⟨g, cap, cur, rfl, _⟩
  · exact ⟨_, _, by rw [h2]⟩
  · exact ⟨_, _, rfl⟩
/-- A row of the call's own, one cell of it set. -/
theorem own_set {w : World} {B g n c : Nat} {e : TypeId} {xs : List Value} (h : w.ownsRow B e 1 (.slice (some ⟨g, 0, none⟩) n c) n xs) {m : Nat} (hm : m < n) (u : Value) : (w.setCell ⟨g, m, none⟩ u).ownsRow B e 1 (.slice (some ⟨g, 0, none⟩) n c) n (xs.set m u) := by
  obtain ⟨h1, h2⟩ := h
  rcases h2 with ⟨e2, _⟩ | ⟨g', cap, cur, e2, h4, h5, h6, h7, h8, h9⟩
  · cases e2
  · cases e2
    refine ⟨by rw [List.length_set]; exact h1, .inr ⟨g, c, cur.setIfInBounds m u, rfl, h4, heap_setCell_same w g m cur e u h5, h6, h7, by rw [Array.size_setIfInBounds]; exact h8, ?_⟩⟩
    rw [Array.toList_setIfInBounds, List.take_set, h9]
theorem u64_add' (x : W64) (d : Int) : IntKind.u64.wrap ((x.toNat : Int) + d) = ((x + BitVec.ofInt 64 d).toNat : Int) := by
  rw [u64_wrap, BitVec.toNat_ofInt, BitVec.toNat_add, BitVec.toNat_ofInt]
  have h := x.isLt
  omega
theorem u64s_set (l : List W64) (i : Nat) (x : W64) : (u64s l).set i (.int .u64 (x.toNat : Int)) = u64s (l.set i x) := by unfold u64s; rw [List.map_set]
/-- What the store leaves. -/
theorem bent_store {w V U : World} {i v : Int} {n gb c' m : Nat} {l : List W64} (p : W64) (hV : V.heap.size = w.heap.size + 2) (hgb : V.heap.size ≤ gb) (hm : m < n) (hA : LfB U w.heap.size i v (.slice (some ⟨gb, 0, none⟩) n c')) (hB : LfB U (w.heap.size + 1) 0 0 (.slice none 0 0))
    (ho : U.ownsRow V.heap.size 36 1 (.slice (some ⟨gb, 0, none⟩) n c') n (u64s l)) (hb : Below w.heap.size w U) :
    LfB (U.setCell ⟨gb, m, none⟩ (.int .u64 (p.toNat : Int))).drew w.heap.size i v (.slice (some ⟨gb, 0, none⟩) n c') ∧ LfB (U.setCell ⟨gb, m, none⟩ (.int .u64 (p.toNat : Int))).drew (w.heap.size + 1) 0 0 (.slice none 0 0) ∧
    (U.setCell ⟨gb, m, none⟩ (.int .u64 (p.toNat : Int))).drew.ownsRow V.heap.size 36 1 (.slice (some ⟨gb, 0, none⟩) n c') n (u64s (l.set m p)) ∧ Below w.heap.size w (U.setCell ⟨gb, m, none⟩ (.int .u64 (p.toNat : Int))).drew := by
  refine ⟨hA.other (by simp only; omega) _, hB.other (by simp only; omega) _, ?_, (hb.setCell (by simp only; omega) _).drew⟩
  rw [← u64s_set]
  exact own_set ho hm _
/-- What the copy leaves. -/
theorem bent_copy {w V w1 : World} {i v : Int} {pv : Value} {n : Nat} {a' : Option Addr} {c' : Nat} {xs : List Value} (hV : Below w.heap.size w V) (hzV : V.heap.size = w.heap.size + 2) (hA : LfB V w.heap.size i v pv) (hB : LfB V (w.heap.size + 1) 0 0 (.slice none 0 0))
    (ho : w1.ownsRow V.heap.size 36 1 (.slice a' n c') n xs) (hg : (V.alloc (.cells #[] 36)).grownBy w1 (Value.slice (some ⟨V.heap.size, 0, none⟩) 0 0).ownBlock) :
    LfB w1 w.heap.size i v pv ∧ LfB (w1.setCell ⟨w.heap.size, 2, none⟩ (.slice a' n c')) w.heap.size i v (.slice a' n c') ∧ LfB (w1.setCell ⟨w.heap.size, 2, none⟩ (.slice a' n c')) (w.heap.size + 1) 0 0 (.slice none 0 0) ∧
    (w1.setCell ⟨w.heap.size, 2, none⟩ (.slice a' n c')).ownsRow V.heap.size 36 1 (.slice a' n c') n xs ∧ Below w.heap.size w (w1.setCell ⟨w.heap.size, 2, none⟩ (.slice a' n c')) := by
  have h1 := (hA.below (alloc_below V (.cells #[] 36))).grown hg (by simp [Value.ownBlock]; omega)
  have h2 := (hB.below (alloc_below V (.cells #[] 36))).grown hg (by simp [Value.ownBlock]; omega)
  have h3 := (hV.alloc hV.size (.cells #[] 36)).grown hg (by rw [World.size_alloc]; have := hV.size; omega) fun r e => by simp [Value.ownBlock] at e; omega
  exact ⟨h1, h1.set2 _, h2.other (by simp) _, own_other ho (grownBy_set w1 _ _) (fun r e => by cases e; simp only; omega), h3.setCell (Nat.le_refl _) _⟩

/-! ## Bent -/
def bk (l : List W64) (how : Int) : Nat := (arnd how (2 + (l.length : Int))).toNat
def bd (by_ : Int) : Int := 1 + arnd by_ 1000000
def bI (i : Int) (l : List W64) (how by_ : Int) : Int := if bk l how = 0 then wrap64 (i + bd by_) else i
def bV (v : Int) (l : List W64) (how by_ : Int) : Int := if bk l how = 1 then wrap64 (v + bd by_) else v
def bL (l : List W64) (how by_ : Int) : List W64 := if 2 ≤ bk l how then l.set (bk l how - 2) (l.getD (bk l how - 2) 0 + BitVec.ofInt 64 (bd by_)) else l
theorem bd_bd (by_ : Int) : 1 ≤ bd by_ ∧ bd by_ ≤ 1000000 := by
  have := arnd_bd by_ (m := 1000000) (by decide)
  unfold bd; omega
theorem bk_lt (l : List W64) (how : Int) : bk l how < 2 + l.length := by
  have := arnd_bd how (m := 2 + (l.length : Int)) (by omega)
  unfold bk; omega
theorem bk_int (l : List W64) (how : Int) : ((bk l how : Nat) : Int) = arnd how (2 + (l.length : Int)) := by
  have := arnd_bd how (m := 2 + (l.length : Int)) (by omega)
  unfold bk; omega
theorem u64_add (x : W64) (d : Int) : IntKind.u64.wrap ((x.toNat : Int) + IntKind.u64.wrap d) = ((x + BitVec.ofInt 64 d).toNat : Int) := by
  rw [u64_wrap d, BitVec.toNat_add]
  generalize (BitVec.ofInt 64 d).toNat = m
  generalize x.toNat = k
  simp only [IntKind.wrap, IntKind.bits, IntKind.signed, Bool.false_and, Bool.false_eq_true, if_false]
  omega

end Go.Proofs.Ytknjdkgemkmoeaa
