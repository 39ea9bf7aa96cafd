/- Package cellmem: cells with a log of overwritten values, as plain data, and the plain facts that the laws of stage 9 ask. Written before the package landed: nothing here speaks of its code. -/
import Derived.Test.YtlpacihkmfgegaaRows
namespace Go.Proofs.Ytlpacihkmfgegaa
namespace Cm
set_option linter.unusedSimpArgs false
set_option linter.unusedVariables false

/-- Cells; the number of the oldest entry kept; the entries kept, the oldest first: a cell and what it held. -/
structure Me where
  cs : List Int
  base : Nat
  lg : List (Nat × Int)
def Me.new (cs : List Int) : Me := ⟨cs, 0, []⟩
def Me.pos (S : Me) : Nat := S.base + S.lg.length
/-- Is there a cell i of n? -/
def cin (n : Nat) (i : Int) : Bool := decide (0 ≤ i) && decide (i < n)
theorem cin_iff {n : Nat} {i : Int} : cin n i = true ↔ 0 ≤ i ∧ i < n := by simp [cin]
def Me.get (S : Me) (i : Int) : Int := if cin S.cs.length i = true then S.cs.getD i.toNat 0 else 0
def Me.set (S : Me) (i v : Int) : Me := if cin S.cs.length i = true then ⟨S.cs.set i.toNat v, S.base, S.lg ++ [(i.toNat, S.cs.getD i.toNat 0)]⟩ else S
/-- The entries' values back into the cells, the newest first. -/
def restore (es : List (Nat × Int)) (cs : List Int) : List Int := es.foldr (fun e c => c.set e.1 e.2) cs
/-- 0: the mark may be used; 24: before the base; 6: beyond the position. -/
def Me.err (S : Me) (m : Int) : Int := if m < S.base then 24 else if S.pos < m then 6 else 0
def Me.undo (S : Me) (m : Int) : Me := if S.err m = 0 then ⟨restore (S.lg.drop (m.toNat - S.base)) S.cs, S.base, S.lg.take (m.toNat - S.base)⟩ else S
def Me.discard (S : Me) (m : Int) : Me := if S.err m = 0 then ⟨S.cs, m.toNat, S.lg.drop (m.toNat - S.base)⟩ else S
/-- The cells that have an entry from m on, rising. -/
def Me.chg (S : Me) (m : Nat) : List Nat := (List.range S.cs.length).filter fun i => decide (i ∈ (S.lg.drop (m - S.base)).map Prod.fst)
def Me.changed (S : Me) (m : Int) : List Nat := if S.err m = 0 then S.chg m.toNat else []

/-! ## Restoring -/
theorem restore_len : ∀ (es : List (Nat × Int)) (cs : List Int), (restore es cs).length = cs.length
  | [], _ => rfl
  | e :: es, cs => by
    show ((restore es cs).set e.1 e.2).length = _
    rw [List.length_set, restore_len es cs]
theorem restore_append (a b : List (Nat × Int)) (cs : List Int) : restore (a ++ b) cs = restore a (restore b cs) := by unfold restore; rw [List.foldr_append]
theorem restore_snoc (a : List (Nat × Int)) (e : Nat × Int) (cs : List Int) : restore (a ++ [e]) cs = restore a (cs.set e.1 e.2) := restore_append a [e] cs
theorem set_back {cs : List Int} {i : Nat} (hi : i < cs.length) (v : Int) : (cs.set i v).set i (cs.getD i 0) = cs := by
  rw [List.set_set]
  refine List.ext_getElem? fun j => ?_
  rw [List.getElem?_set]
  by_cases e : i = j
  · subst e
    rw [if_pos rfl, if_pos hi, List.getElem?_eq_getElem hi]
    simp [List.getD, hi]
  · rw [if_neg e]
theorem restore_at {es : List (Nat × Int)} {cs : List Int} {i : Nat} (h : i ∉ es.map Prod.fst) : (restore es cs)[i]? = cs[i]? := by
  induction es with
  | nil => rfl
  | cons e es ih =>
    rw [List.map_cons, List.mem_cons, not_or] at h
    show ((restore es cs).set e.1 e.2)[i]? = _
    rw [List.getElem?_set, if_neg (fun h2 => h.1 h2.symm)]
    exact ih h.2

/-! ## One Set -/
theorem Me.set_out {S : Me} {i : Int} (h : cin S.cs.length i = false) (v : Int) : S.set i v = S := by unfold Me.set; rw [if_neg (by rw [h]; simp)]
theorem Me.set_in {S : Me} {i : Int} (h : cin S.cs.length i = true) (v : Int) : S.set i v = ⟨S.cs.set i.toNat v, S.base, S.lg ++ [(i.toNat, S.cs.getD i.toNat 0)]⟩ := by unfold Me.set; rw [if_pos h]
theorem Me.set_len (S : Me) (i v : Int) : (S.set i v).cs.length = S.cs.length := by
  unfold Me.set; split
  · rw [List.length_set]
  · rfl
theorem Me.set_base (S : Me) (i v : Int) : (S.set i v).base = S.base := by unfold Me.set; split <;> rfl

/-! ## Some Sets, one behind the other -/
def Me.sets (S : Me) (l : List (Int × Int)) : Me := l.foldl (fun S p => S.set p.1 p.2) S
theorem Me.sets_snoc (S : Me) (l : List (Int × Int)) (p : Int × Int) : S.sets (l ++ [p]) = (S.sets l).set p.1 p.2 := by unfold Me.sets; rw [List.foldl_append]; rfl
/-- What Sets leave: the log is longer by es, and es restores the cells. -/
structure Since (S T : Me) (es : List (Nat × Int)) : Prop where
  base : T.base = S.base
  lg : T.lg = S.lg ++ es
  back : restore es T.cs = S.cs
  len : T.cs.length = S.cs.length
theorem Since.refl (S : Me) : Since S S [] := ⟨rfl, (List.append_nil _).symm, rfl, rfl⟩
theorem Since.set {S T : Me} {es : List (Nat × Int)} (h : Since S T es) (i v : Int) : ∃ es', Since S (T.set i v) (es ++ es') ∧ es' = (if cin S.cs.length i = true then [(i.toNat, T.cs.getD i.toNat 0)] else []) := by
  cases hc : cin T.cs.length i with
  | false =>
    rw [Me.set_out hc]
    rw [h.len] at hc
    exact ⟨[], by rw [List.append_nil]; exact h, by rw [hc]; rfl⟩
  | true =>
    rw [Me.set_in hc]
    have hi := cin_iff.1 hc
    refine ⟨[(i.toNat, T.cs.getD i.toNat 0)], ⟨h.base, by show T.lg ++ _ = _; rw [h.lg, List.append_assoc], ?_, by show (T.cs.set _ _).length = _; rw [List.length_set]; exact h.len⟩, ?_⟩
    · show restore (es ++ [(i.toNat, T.cs.getD i.toNat 0)]) (T.cs.set i.toNat v) = _
      rw [restore_snoc, set_back (by omega) v]
      exact h.back
    · rw [← h.len, hc]; rfl
theorem sets_since (S : Me) : ∀ (l : List (Int × Int)) {T : Me} {es : List (Nat × Int)}, Since S T es → ∃ es', Since S (T.sets l) es'
  | [], T, es, h => ⟨es, h⟩
  | p :: l, T, es, h => by
    obtain ⟨es', h', _⟩ := h.set p.1 p.2
    exact sets_since S l h'
/-- Undo to the position of S takes T back to S whole. -/
theorem Since.undo {S T : Me} {es : List (Nat × Int)} (h : Since S T es) : T.err S.pos = 0 ∧ T.undo S.pos = S := by
  have e1 : T.pos = S.pos + es.length := by unfold Me.pos; rw [h.base, h.lg, List.length_append]; omega
  have e0 : T.err S.pos = 0 := by
    unfold Me.err
    rw [if_neg (by rw [h.base]; unfold Me.pos; omega), if_neg (by rw [e1]; omega)]
  refine ⟨e0, ?_⟩
  unfold Me.undo
  rw [if_pos e0]
  have e2 : ((S.pos : Nat) : Int).toNat - T.base = S.lg.length := by rw [h.base]; unfold Me.pos; omega
  rw [e2, h.lg, List.drop_left, List.take_left, h.back, h.base]
/-- What Changed says at the position of S: the cells of es. -/
theorem Since.chg {S T : Me} {es : List (Nat × Int)} (h : Since S T es) : T.err S.pos = 0 ∧ T.changed S.pos = (List.range S.cs.length).filter fun i => decide (i ∈ es.map Prod.fst) := by
  refine ⟨h.undo.1, ?_⟩
  unfold Me.changed
  rw [if_pos h.undo.1]
  unfold Me.chg
  have e2 : ((S.pos : Nat) : Int).toNat - T.base = S.lg.length := by rw [h.base]; unfold Me.pos; omega
  rw [e2, h.lg, List.drop_left, h.len]
/-- Cells that es does not name hold what they held. -/
theorem Since.same {S T : Me} {es : List (Nat × Int)} (h : Since S T es) {i : Nat} (hi : i ∉ es.map Prod.fst) : T.cs[i]? = S.cs[i]? := by rw [← h.back, restore_at hi]

/-! ## Marks -/
theorem Me.err_cases (S : Me) (m : Int) : (m < S.base ∧ S.err m = 24) ∨ (¬ m < S.base ∧ S.pos < m ∧ S.err m = 6) ∨ (¬ m < S.base ∧ ¬ (S.pos : Int) < m ∧ S.err m = 0) := by
  unfold Me.err
  by_cases h1 : m < S.base
  · exact .inl ⟨h1, by rw [if_pos h1]⟩
  · by_cases h2 : (S.pos : Int) < m
    · exact .inr (.inl ⟨h1, h2, by rw [if_neg h1, if_pos h2]⟩)
    · exact .inr (.inr ⟨h1, h2, by rw [if_neg h1, if_neg h2]⟩)
theorem Me.undo_bad {S : Me} {m : Int} (h : S.err m ≠ 0) : S.undo m = S := by unfold Me.undo; rw [if_neg h]
theorem Me.discard_bad {S : Me} {m : Int} (h : S.err m ≠ 0) : S.discard m = S := by unfold Me.discard; rw [if_neg h]
theorem Me.undo_len (S : Me) (m : Int) : (S.undo m).cs.length = S.cs.length := by
  unfold Me.undo; split
  · exact restore_len _ _
  · rfl
theorem Me.discard_cs (S : Me) (m : Int) : (S.discard m).cs = S.cs := by unfold Me.discard; split <;> rfl
theorem Me.undo_pos {S : Me} {m : Int} (h : S.err m = 0) : ((S.undo m).pos : Int) = m ∧ (S.undo m).base = S.base ∧ S.base ≤ m.toNat ∧ m.toNat ≤ S.pos ∧ 0 ≤ m := by
  rcases S.err_cases m with ⟨_, e⟩ | ⟨_, _, e⟩ | ⟨h1, h2, _⟩
  · rw [e] at h; cases h
  · rw [e] at h; cases h
  · unfold Me.undo
    rw [if_pos h]
    unfold Me.pos at *
    refine ⟨?_, rfl, by omega, by omega, by omega⟩
    show ((S.base + (S.lg.take (m.toNat - S.base)).length : Nat) : Int) = m
    rw [List.length_take]
    omega
theorem Me.discard_pos {S : Me} {m : Int} (h : S.err m = 0) : (S.discard m).pos = S.pos ∧ ((S.discard m).base : Int) = m := by
  rcases S.err_cases m with ⟨_, e⟩ | ⟨_, _, e⟩ | ⟨h1, h2, _⟩
  · rw [e] at h; cases h
  · rw [e] at h; cases h
  · unfold Me.discard
    rw [if_pos h]
    unfold Me.pos at *
    refine ⟨?_, by show ((m.toNat : Nat) : Int) = m; omega⟩
    show m.toNat + (S.lg.drop (m.toNat - S.base)).length = S.base + S.lg.length
    rw [List.length_drop]
    omega

/-! ## The reference: a copy of all cells for each position -/
structure Rf where
  st : List (List Int)
  ce : List Nat
  base : Nat
def Rf.new (cs : List Int) : Rf := ⟨[cs], [], 0⟩
/-- The reference says what the memory says. -/
structure Says (R : Rf) (S : Me) : Prop where
  len : R.st.length = R.ce.length + 1
  pos : R.ce.length = S.pos
  base : R.base = S.base
  now : R.st[R.ce.length]? = some S.cs
  at' : ∀ j, S.base ≤ j → j ≤ S.pos → R.st[j]? = some (restore (S.lg.drop (j - S.base)) S.cs)
  ce : R.ce.drop S.base = S.lg.map Prod.fst
theorem Says.start (cs : List Int) : Says (Rf.new cs) (Me.new cs) :=
  ⟨rfl, rfl, rfl, rfl, fun j h1 h2 => by
    obtain rfl : j = 0 := by
      have : (Me.new cs).pos = 0 := rfl
      omega
    rfl, rfl⟩
theorem Says.set {R : Rf} {S : Me} (h : Says R S) {i v : Int} (hi : cin S.cs.length i = true) : Says ⟨R.st ++ [S.cs.set i.toNat v], R.ce ++ [i.toNat], R.base⟩ (S.set i v) := by
  rw [Me.set_in hi]
  have hc := cin_iff.1 hi
  have hp := h.pos
  have hb : S.base ≤ R.ce.length := by rw [hp]; unfold Me.pos; omega
  refine ⟨?_, ?_, h.base, ?_, fun j h1 h2 => ?_, ?_⟩
  · show (R.st ++ _).length = (R.ce ++ _).length + 1
    rw [List.length_append, List.length_append, h.len]; rfl
  · show (R.ce ++ _).length = S.base + (S.lg ++ _).length
    rw [List.length_append, List.length_append, hp]
    unfold Me.pos
    simp only [List.length_cons, List.length_nil]
    omega
  · show (R.st ++ [_])[(R.ce ++ [i.toNat]).length]? = _
    rw [List.length_append, List.getElem?_append_right (by rw [h.len]; exact Nat.le_refl _), h.len]
    simp
  · show (R.st ++ [_])[j]? = some (restore ((S.lg ++ [_]).drop (j - S.base)) (S.cs.set i.toNat v))
    have h2' : j ≤ S.pos + 1 := by
      have : (⟨S.cs.set i.toNat v, S.base, S.lg ++ [(i.toNat, S.cs.getD i.toNat 0)]⟩ : Me).pos = S.pos + 1 := by unfold Me.pos; simp only [List.length_append, List.length_cons, List.length_nil]; omega
      omega
    by_cases hj : j ≤ S.pos
    · rw [List.getElem?_append_left (by rw [h.len, hp]; omega), h.at' j h1 hj]
      rw [List.drop_append_of_le_length (by unfold Me.pos at hj; omega), restore_snoc, set_back (by omega) v]
    · obtain rfl : j = S.pos + 1 := by omega
      rw [List.getElem?_append_right (by rw [h.len, hp]; exact Nat.le_refl _), h.len, hp, Nat.sub_self]
      rw [List.drop_eq_nil_of_le (by rw [List.length_append]; unfold Me.pos; simp only [List.length_cons, List.length_nil]; omega)]
      rfl
  · show (R.ce ++ [i.toNat]).drop S.base = (S.lg ++ [_]).map Prod.fst
    rw [List.drop_append_of_le_length hb, h.ce, List.map_append]; rfl
theorem Says.undo {R : Rf} {S : Me} (h : Says R S) {m : Int} (he : S.err m = 0) : Says ⟨R.st.take (m.toNat + 1), R.ce.take m.toNat, R.base⟩ (S.undo m) := by
  obtain ⟨h1, h2, h3, h4, h5⟩ := Me.undo_pos he
  have hp := h.pos
  have hu : S.undo m = ⟨restore (S.lg.drop (m.toNat - S.base)) S.cs, S.base, S.lg.take (m.toNat - S.base)⟩ := by unfold Me.undo; rw [if_pos he]
  have hpu : (S.undo m).pos = m.toNat := by omega
  refine ⟨?_, ?_, ?_, ?_, fun j g1 g2 => ?_, ?_⟩
  · show (R.st.take _).length = (R.ce.take _).length + 1
    rw [List.length_take, List.length_take, h.len]; omega
  · show (R.ce.take _).length = _
    rw [List.length_take, hpu]; omega
  · rw [h2]; exact h.base
  · show (R.st.take _)[(R.ce.take _).length]? = _
    rw [List.length_take, show min m.toNat R.ce.length = m.toNat by omega, List.getElem?_take, if_pos (by omega), h.at' _ h3 h4, hu]
  · rw [h2] at g1
    rw [hpu] at g2
    show (R.st.take _)[j]? = _
    rw [List.getElem?_take, if_pos (by omega), h.at' j g1 (by omega), hu]
    simp only
    rw [← restore_append]
    congr 2
    rw [show S.lg.drop (m.toNat - S.base) = (S.lg.drop (j - S.base)).drop (m.toNat - j) by rw [List.drop_drop]; congr 1; omega, List.drop_take,
      show m.toNat - S.base - (j - S.base) = m.toNat - j by omega, List.take_append_drop]
  · rw [h2, hu]
    show (R.ce.take _).drop _ = (S.lg.take _).map _
    rw [List.drop_take, h.ce, List.map_take]
theorem Says.discard {R : Rf} {S : Me} (h : Says R S) {m : Int} (he : S.err m = 0) : Says ⟨R.st, R.ce, m.toNat⟩ (S.discard m) := by
  obtain ⟨h1, h2, h3, h4, h5⟩ := Me.undo_pos he
  obtain ⟨k1, k2⟩ := Me.discard_pos he
  have hu : S.discard m = ⟨S.cs, m.toNat, S.lg.drop (m.toNat - S.base)⟩ := by unfold Me.discard; rw [if_pos he]
  refine ⟨h.len, by rw [k1]; exact h.pos, by rw [hu], by rw [hu]; exact h.now, fun j g1 g2 => ?_, ?_⟩
  · rw [k1] at g2
    have g1' : m.toNat ≤ j := by rw [hu] at g1; exact g1
    rw [h.at' j (by omega) g2, hu]
    simp only
    rw [List.drop_drop]
    congr 3
    omega
  · rw [hu]
    show R.ce.drop m.toNat = (S.lg.drop _).map _
    rw [List.map_drop, ← h.ce, List.drop_drop]
    congr 1
    omega
theorem Says.changed {R : Rf} {S : Me} (h : Says R S) {m : Int} (he : S.err m = 0) : S.changed m = (List.range S.cs.length).filter fun i => decide (i ∈ R.ce.drop m.toNat) := by
  obtain ⟨_, _, h3, h4, h5⟩ := Me.undo_pos he
  unfold Me.changed
  rw [if_pos he]
  unfold Me.chg
  have e : R.ce.drop m.toNat = (S.lg.drop (m.toNat - S.base)).map Prod.fst := by
    rw [List.map_drop, ← h.ce, List.drop_drop]
    congr 1
    omega
  rw [e]
end Cm
end Go.Proofs.Ytlpacihkmfgegaa
