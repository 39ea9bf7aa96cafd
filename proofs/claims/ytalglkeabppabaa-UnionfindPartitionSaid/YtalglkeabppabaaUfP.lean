/- Package unionfind: the object as a slice of parents of which none lies above its child; has and find. -/
import Derived.Test.YtalglkeabppabaaUfE
import Derived.Test.YtalglkeabppabaaOpen
import Derived.Test.YtalglkeabppabaaMadeAlloc
import Derived.Test.YtalglkeabppabaaFixed
import Derived.WalkLawsBesides
import Derived.Deep.DeepCutAuto
import Derived.Deep.CutBlock
import Derived.Deep.LoopGhost
namespace Go.Proofs.Ytalglkeabppabaa
open Go.ChangeShapes Go.WideShapes Go.ChangeAt Go.RowKit
set_option linter.unusedSimpArgs false
set_option linter.unusedVariables false
namespace Uf

/-- The least element of i's set. -/
noncomputable def hd (f : Nat → Int) (i : Nat) : Nat := Classical.choose (hd_exists f i)
theorem hd_le (f : Nat → Int) (i : Nat) : hd f i ≤ i := (Classical.choose_spec (hd_exists f i)).1
theorem hd_same (f : Nat → Int) (i : Nat) : f (hd f i) = f i := (Classical.choose_spec (hd_exists f i)).2.1
theorem hd_least (f : Nat → Int) (i j : Nat) (h : j < hd f i) : f j ≠ f i := (Classical.choose_spec (hd_exists f i)).2.2 j h
theorem hd_head (f : Nat → Int) (i : Nat) : isHead f (hd f i) = true := isHead_iff.2 fun j hj e => hd_least f i j hj (e.trans (hd_same f i))
theorem hd_unique {f : Nat → Int} {i p : Nat} (h : isHead f p = true) (e : f p = f i) : hd f i = p := by
  rcases Nat.lt_trichotomy (hd f i) p with h1 | h1 | h1
  · exact absurd ((hd_same f i).trans e.symm) (isHead_iff.1 h _ h1)
  · exact h1
  · exact absurd e (hd_least f i p h1)
theorem hd_eq {f : Nat → Int} {i j : Nat} : hd f i = hd f j ↔ f i = f j :=
  ⟨fun h => (hd_same f i).symm.trans ((congrArg f h).trans (hd_same f j)), fun h => hd_unique (hd_head f j) ((hd_same f j).trans h.symm)⟩
theorem hd_self {f : Nat → Int} {i : Nat} (h : isHead f i = true) : hd f i = i := hd_unique h rfl
theorem hd_mem {k : Nat} (f : Nat → Int) {i : Nat} (hi : i < k) : hd f i ∈ heads k f := mem_heads.2 ⟨Nat.lt_of_le_of_lt (hd_le f i) hi, isHead_iff.1 (hd_head f i)⟩

/-- Parents below k: none lies above its child, all of one set; who is its own parent is its set's least. -/
structure Low (k : Nat) (P : Nat → Nat) (f : Nat → Int) : Prop where
  le : ∀ i, i < k → P i ≤ i
  same : ∀ i, i < k → f (P i) = f i
  root : ∀ i, i < k → P i = i → isHead f i = true
theorem Low.start (k : Nat) : Low k (fun i => i) idL := ⟨fun _ _ => Nat.le_refl _, fun _ _ => rfl, fun i _ _ => isHead_iff.2 fun j hj e => by unfold idL at e; omega⟩
theorem Low.lt {k : Nat} {P : Nat → Nat} {f : Nat → Int} (h : Low k P f) {i : Nat} (hi : i < k) : P i < k := Nat.lt_of_le_of_lt (h.le i hi) hi
theorem Low.top {k : Nat} {P : Nat → Nat} {f : Nat → Int} (h : Low k P f) {i : Nat} (hi : i < k) (e : P i = i) : hd f i = i := hd_self (h.root i hi e)
theorem Low.halve {k : Nat} {P : Nat → Nat} {f : Nat → Int} (h : Low k P f) {a : Nat} (ha : a < k) (hne : P (P a) ≠ P a) : Low k (upd P a (P (P a))) f := by
  have hp := h.lt ha
  have h1 := h.le a ha
  have h2 := h.le _ hp
  refine ⟨fun i hi => ?_, fun i hi => ?_, fun i hi e => ?_⟩
  · by_cases hia : i = a
    · rw [hia, upd_at]; omega
    · rw [upd_ne hia]; exact h.le i hi
  · by_cases hia : i = a
    · rw [hia, upd_at, h.same _ hp, h.same _ ha]
    · rw [upd_ne hia]; exact h.same i hi
  · by_cases hia : i = a
    · rw [hia, upd_at] at e; omega
    · rw [upd_ne hia] at e; exact h.root i hi e
theorem Low.link {k : Nat} {P : Nat → Nat} {f : Nat → Int} (h : Low k P f) {a b : Nat} (ha : a < k) (hb : b < k) (hne : f a ≠ f b) :
    Low k (upd P (max (hd f a) (hd f b)) (min (hd f a) (hd f b))) (mrg f a b) := by
  have hpq : hd f a ≠ hd f b := fun e => hne (hd_eq.1 e)
  have ka := Nat.lt_of_le_of_lt (hd_le f a) ha
  have kb := Nat.lt_of_le_of_lt (hd_le f b) hb
  have hm : mrg f a b (min (hd f a) (hd f b)) = mrg f a b (max (hd f a) (hd f b)) := by
    have e := (mrg_keep (a := a) (b := b) (hd_same f a)).trans ((mrg_ends f a b).trans (mrg_keep (hd_same f b)).symm)
    rcases Nat.le_total (hd f a) (hd f b) with h1 | h1
    · rw [Nat.min_eq_left h1, Nat.max_eq_right h1]; exact e
    · rw [Nat.min_eq_right h1, Nat.max_eq_left h1]; exact e.symm
  refine ⟨fun i hi => ?_, fun i hi => ?_, fun i hi e => ?_⟩
  · by_cases hia : i = max (hd f a) (hd f b)
    · rw [hia, upd_at]; omega
    · rw [upd_ne hia]; exact h.le i hi
  · by_cases hia : i = max (hd f a) (hd f b)
    · rw [hia, upd_at]; exact hm
    · rw [upd_ne hia]; exact mrg_keep (h.same i hi)
  · by_cases hia : i = max (hd f a) (hd f b)
    · rw [hia, upd_at] at e; omega
    · rw [upd_ne hia] at e
      exact (isHead_mrg (hd_mem f ha) (hd_mem f hb) (hd_same f a) (hd_same f b) hne hi).2 ⟨h.root i hi e, hia⟩
theorem Low.same_set {k : Nat} {P : Nat → Nat} {f : Nat → Int} (h : Low k P f) {a : Nat} (ha : a < k) : upd P (hd f a) (hd f a) = P := by
  have ka := Nat.lt_of_le_of_lt (hd_le f a) ha
  have e : P (hd f a) = hd f a := by
    have h1 := h.le _ ka
    have h2 := h.same _ ka
    rcases Nat.lt_or_ge (P (hd f a)) (hd f a) with h3 | h3
    · exact absurd (h2.trans (hd_same f a)) (hd_least f a _ h3)
    · omega
  funext i
  by_cases hia : i = hd f a
  · rw [hia, upd_at, e]
  · rw [upd_ne hia]
theorem Low.union {k : Nat} {P : Nat → Nat} {f : Nat → Int} (h : Low k P f) {a b : Nat} (ha : a < k) (hb : b < k) :
    Low k (upd P (max (hd f a) (hd f b)) (min (hd f a) (hd f b))) (uniF k f a b) ∧ canU k f a b = decide (hd f a ≠ hd f b) := by
  have e1 : inB k (a : Int) = true := inB_iff.2 ⟨by omega, by omega⟩
  have e2 : inB k (b : Int) = true := inB_iff.2 ⟨by omega, by omega⟩
  by_cases e : f a = f b
  · have hh := hd_eq.2 e
    have hc : canU k f a b = false := canU_after fun _ _ => by simpa using e
    rw [uniF_none hc, hc, hh, Nat.max_self, Nat.min_self, h.same_set hb]
    exact ⟨h, by simp⟩
  · have hh : hd f a ≠ hd f b := fun he => e (hd_eq.1 he)
    have hc : canU k f a b = true := canU_iff.2 ⟨e1, e2, by simpa using e⟩
    unfold uniF
    rw [if_pos hc, hc]
    exact ⟨by simpa using h.link ha hb e, by simp [hh]⟩

/-! ## The object -/
def prow (k : Nat) (P : Nat → Nat) : Array Value := ((List.range k).map fun i => Value.int .i64 (P i : Nat)).toArray
theorem prow_size (k : Nat) (P : Nat → Nat) : (prow k P).size = k := by simp [prow]
theorem prow_at {k : Nat} (P : Nat → Nat) {i : Nat} (hi : i < k) : (prow k P)[i]? = some (.int .i64 (P i : Nat)) := by simp [prow, hi]
theorem prow_set {k : Nat} (P : Nat → Nat) {i : Nat} (hi : i < k) (v : Nat) : (prow k P).setIfInBounds i (.int .i64 (v : Nat)) = prow k (upd P i v) := by
  apply Array.ext_getElem?
  intro j
  rw [Array.getElem?_setIfInBounds]
  by_cases hj : j < k
  · by_cases e : i = j
    · subst e
      rw [if_pos rfl, if_pos (by rw [prow_size]; exact hi), prow_at _ hi, upd_at]
    · rw [if_neg e, prow_at _ hj, prow_at _ hj, upd_ne (fun h => e h.symm)]
  · have e : i ≠ j := by omega
    rw [if_neg e, Array.getElem?_eq_none (by rw [prow_size]; omega), Array.getElem?_eq_none (by rw [prow_size]; omega)]

/-- Block b is an object whose parents, k of them, lie in block g. -/
structure Par (w : World) (b g k : Nat) (P : Nat → Nat) : Prop where
  ob : w.heap[b]? = some (.cells #[.slice (some ⟨g, 0, none⟩) k k] 48 (0, 0))
  ne : b ≠ g
  row : w.heap[g]? = some (.cells (prow k P) 3 (0, 0))
theorem Par.carry {w w' : World} {b g k : Nat} {P : Nat → Nat} (h : Par w b g k P) (hb : Below w.heap.size w w') : Par w' b g k P :=
  ⟨(hb.block _ (Array.getElem?_eq_some_iff.1 h.ob).1).trans h.ob, h.ne, (hb.block _ (Array.getElem?_eq_some_iff.1 h.row).1).trans h.row⟩
theorem Par.grown {w w' : World} {b g k : Nat} {P : Nat → Nat} {row : Option Nat} (h : Par w b g k P) (hg : w.grownBy w' row) (h1 : some b ≠ row) (h2 : some g ≠ row) : Par w' b g k P :=
  ⟨(hg.block _ (Array.getElem?_eq_some_iff.1 h.ob).1 h1).trans h.ob, h.ne, (hg.block _ (Array.getElem?_eq_some_iff.1 h.row).1 h2).trans h.row⟩
theorem Par.cell0 {w : World} {b g k : Nat} {P : Nat → Nat} (h : Par w b g k P) : w.cell? ⟨b, 0, none⟩ = some (.slice (some ⟨g, 0, none⟩) k k) := heap_cell h.ob 0
theorem Par.cell {w : World} {b g k : Nat} {P : Nat → Nat} (h : Par w b g k P) {i : Nat} (hi : i < k) : w.cell? ⟨g, i, none⟩ = some (.int .i64 (P i : Nat)) := by
  rw [heap_cell h.row i]; exact prow_at P hi
theorem Par.frozen {w : World} {b g k : Nat} {P : Nat → Nat} (h : Par w b g k P) (i : Nat) : w.frozen? ⟨g, i, none⟩ = false := heap_frozen h.row i
theorem Par.lt {w : World} {b g k : Nat} {P : Nat → Nat} (h : Par w b g k P) : b < w.heap.size ∧ g < w.heap.size := ⟨(Array.getElem?_eq_some_iff.1 h.ob).1, (Array.getElem?_eq_some_iff.1 h.row).1⟩
theorem Par.set {w : World} {b g k : Nat} {P : Nat → Nat} (h : Par w b g k P) {i : Nat} (hi : i < k) (v : Nat) : Par (w.setCell ⟨g, i, none⟩ (.int .i64 (v : Nat))) b g k (upd P i v) :=
  ⟨(Below.heap_setCell _ _ _ _ h.ne).trans h.ob, h.ne, by rw [← prow_set P hi v]; exact heap_setCell h.row i _⟩
theorem grown_set {w w' : World} {p : Addr} (h : w.grownBy w' (some p.block)) (v : Value) : w.grownBy (w'.setCell p v) (some p.block) :=
  ⟨h.os, h.tape, h.output, by simp [World.setCell]; exact h.size, fun k hk hne => (Below.heap_setCell _ _ _ _ (fun e => hne (by rw [e]))).trans (h.block k hk hne)⟩
theorem grown_refl (w : World) (row : Option Nat) : w.grownBy w row := ⟨rfl, rfl, rfl, Nat.le_refl _, fun _ _ _ => rfl⟩
theorem grown_trans {a b c : World} {row : Option Nat} (h : a.grownBy b row) (k : b.grownBy c row) : a.grownBy c row :=
  ⟨k.os.trans h.os, k.tape.trans h.tape, k.output.trans h.output, Nat.le_trans h.size k.size, fun i hi hne => (k.block i (Nat.lt_of_lt_of_le hi h.size) hne).trans (h.block i hi hne)⟩
theorem grown_below {w w' : World} {row : Option Nat} (h : Below w.heap.size w w') : w.grownBy w' row := ⟨h.os, h.tape, h.output, h.size, fun i hi _ => h.block i hi⟩
theorem below_none {w w' : World} (h : w.grownBy w' none) : Below w.heap.size w w' := ⟨h.os, h.tape, h.output, h.size, fun i hi => h.block i hi (by simp)⟩
end Uf

open Uf
theorem has_any (b g k : Nat) (P : Nat → Nat) (a : Int) (w : World) (h : Par w b g k P) (hk : k ≤ 10000) :
    Calls Try.prog 30 #[.pointer (some ⟨b, 0, none⟩), .int .i64 a] w fun e w' => e = .returned (.bool (inB k a)) ∧ w = w' := by
  have c0 := h.cell0
  clear h
  by_cases a0 : 0 ≤ a
  · by_cases a1 : a < k
    · have hy := Lib.hid (show inB k a = true from inB_iff.2 ⟨a0, a1⟩)
      have d0 : decide (0 ≤ a) = true := by simpa using a0
      go_enter Try.func30, Try.ntmps30
      go_wp2
      go_ret
      exact ⟨by rw [hy.out]; first | done | rfl, rfl⟩
    · have hy := Lib.hid (show inB k a = false from by rw [Bool.eq_false_iff]; exact fun e => a1 (inB_iff.1 e).2)
      have d0 : decide (0 ≤ a) = true := by simpa using a0
      go_enter Try.func30, Try.ntmps30
      go_wp2
      go_ret
      exact ⟨by rw [hy.out]; first | done | rfl, rfl⟩
  · have hy := Lib.hid (show inB k a = false from by rw [Bool.eq_false_iff]; exact fun e => a0 (inB_iff.1 e).1)
    have d0 : decide (0 ≤ a) = false := by simpa using a0
    go_enter Try.func30, Try.ntmps30
    go_wp2
    go_ret
    exact ⟨by rw [hy.out]; first | done | rfl, rfl⟩

set_option maxHeartbeats 4000000 in
theorem find_any (b g k : Nat) (P : Nat → Nat) (f : Nat → Int) (i : Nat) (w : World) (h : Par w b g k P) (hL : Low k P f) (hk : k ≤ 10000) (hi : i < k) :
    Calls Try.prog 31 #[.pointer (some ⟨b, 0, none⟩), .int .i64 (i : Nat)] w fun e w' => e = .returned (.int .i64 (hd f i : Nat)) ∧ (∃ P', Par w' b g k P' ∧ Low k P' f) ∧ w.grownBy w' (some g) := by
  have h' := Lib.hid h
  have hL' := Lib.hid hL
  clear h hL
  go_enter Try.func31, Try.ntmps31
  go_wp2
  go_step3
  go_wp2
  go_step3
  go_wp2
  go_loopg [1] i (fun n a wr => ∃ (x : Nat) (P' : Nat → Nat), x ≤ n ∧ n < k ∧ a = .int .i64 (x : Nat) ∧ Par wr b g k P' ∧ Low k P' f ∧ hd f x = hd f i ∧ w.grownBy wr (some g))
  case atStart => exact ⟨i, P, Nat.le_refl _, hi, rfl, h'.out, hL'.out, rfl, grown_refl _ _⟩
  case round =>
    obtain ⟨x, P', hxn, hn, rfl, hp, hl, hh, hg⟩ := hrel
    have hx : x < k := by omega
    have hpx := hl.lt hx
    have hppx := hl.lt hpx
    have c0 := hp.cell0
    have c1 := hp.cell hx
    have c2 := hp.cell hpx
    have f1 := hp.frozen x
    have le1 := hl.le x hx
    have le2 := hl.le _ hpx
    have hp' := Lib.hid hp
    have hl' := Lib.hid hl
    have hh' := Lib.hid hh
    have hg' := Lib.hid hg
    clear hp hl hh hg
    by_cases e : P' (P' x) = P' x
    · have hy := Lib.hid (show hd f i = P' x from by
        have h1 := hl'.out.top hpx e
        have h2 : hd f (P' x) = hd f x := hd_eq.2 (hl'.out.same x hx)
        rw [← hh'.out, ← h2, h1])
      have b1 : (((P' (P' x) : Nat) : Int) == ((P' x : Nat) : Int)) = true := by simp [e]
      have e' := Lib.hid e
      clear e
      generalize P' (P' x) = z at *
      generalize P' x = y at *
      go_wp2
      rw [Exit.noGoto_ret]
      go_ret
      exact ⟨by rw [hy.out]; rfl, ⟨P', hp'.out, hl'.out⟩, hg'.out⟩
    · have b1 : (((P' (P' x) : Nat) : Int) == ((P' x : Nat) : Int)) = false := by simpa using (fun h => e (Int.ofNat.inj h))
      have hhv := Lib.hid (hl'.out.halve hx e)
      have hst := Lib.hid (hp'.out.set hx (P' (P' x)))
      have hxx := Lib.hid (show hd f (P' (P' x)) = hd f i from by rw [hd_eq.2 (hl'.out.same _ hpx), hd_eq.2 (hl'.out.same _ hx), hh'.out])
      have hlt : P' (P' x) < x := by omega
      have e' := Lib.hid e
      clear e
      go_wp2
      go_roundg (P' (P' x))
      case measure => omega
      case rel => exact ⟨P' (P' x), _, Nat.le_refl _, by omega, rfl, hst.out, hhv.out, hxx.out, grown_set (p := ⟨g, x, none⟩) hg'.out _⟩

/-- The object at hand: it says what the labels f say. -/
def St (w : World) (b g k : Nat) (f : Nat → Int) : Prop := ∃ P, Par w b g k P ∧ Low k P f
theorem St.carry {w w' : World} {b g k : Nat} {f : Nat → Int} (h : St w b g k f) (hb : Below w.heap.size w w') : St w' b g k f := by
  obtain ⟨P, h1, h2⟩ := h; exact ⟨P, h1.carry hb, h2⟩
theorem St.lt {w : World} {b g k : Nat} {f : Nat → Int} (h : St w b g k f) : b < w.heap.size ∧ g < w.heap.size ∧ b ≠ g := by
  obtain ⟨P, h1, h2⟩ := h; exact ⟨h1.lt.1, h1.lt.2, h1.ne⟩
theorem St.find {w : World} {b g k : Nat} {f : Nat → Int} (h : St w b g k f) (hk : k ≤ 10000) {i : Nat} (hi : i < k) :
    Calls Try.prog 31 #[.pointer (some ⟨b, 0, none⟩), .int .i64 (i : Nat)] w fun e w' => e = .returned (.int .i64 (hd f i : Nat)) ∧ St w' b g k f ∧ w.grownBy w' (some g) := by
  obtain ⟨P, h1, h2⟩ := h; exact find_any b g k P f i w h1 h2 hk hi
theorem St.has {w : World} {b g k : Nat} {f : Nat → Int} (h : St w b g k f) (hk : k ≤ 10000) (a : Int) :
    Calls Try.prog 30 #[.pointer (some ⟨b, 0, none⟩), .int .i64 a] w fun e w' => e = .returned (.bool (inB k a)) ∧ w = w' := by
  obtain ⟨P, h1, h2⟩ := h; exact has_any b g k P a w h1 hk
