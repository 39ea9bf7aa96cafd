/- Package merkle: what a partial tree knows, in the words of the tree. -/
import Derived.Test.YtknjdkgemkmoeaaMlR
import Derived.Test.YtknjdkgemkmoeaaMlQ
namespace Go.Proofs.Ytknjdkgemkmoeaa
open Go.ChangeShapes Go.WideShapes Go.ChangeAt Go.RowKit Go.Shelf
set_option linter.unusedSimpArgs false
set_option linter.unusedVariables false

/-- What is read at a place. -/
def At (D : DataW Unit) (t x : Nat) (z : W64) : Prop := D.atKey (kP t x) (.lit (.int .u64 0)) = .lit (.int .u64 (z.toNat : Int))
/-- The hashes of C that a partial tree of height H keeps for the cell i. -/
def Side (D : DataW Unit) (C : List Int) (H i : Nat) : Prop := ∀ t, t < H → At D t (sib (i / 2 ^ t)) (nodeW C t (sib (i / 2 ^ t)))
theorem At.put {D : DataW Unit} (hD : Maps.IsMap D) {t x t' x' : Nat} {z z' : W64} (h : (t = t' ∧ x = x' → z = z')) (h2 : ¬ (t = t' ∧ x = x') → At D t' x' z') (b1 : t < 1000000) (b2 : x < 1000000) (b3 : t' < 1000000) (b4 : x' < 1000000) :
    At (D.put (kP t x) (.lit (.int .u64 (z.toNat : Int)))) t' x' z' := by
  unfold At
  by_cases e : t = t' ∧ x = x'
  · obtain ⟨rfl, rfl⟩ := e
    rw [Maps.atKey_put_same (k := kP t x) hD trivial, h ⟨rfl, rfl⟩]
  · rw [Maps.atKey_put_other (kP_level b3 b4 b1 b2 (by omega))]
    exact h2 e
theorem lrn_map {D : DataW Unit} (hD : Maps.IsMap D) (i : Nat) (l : List W64) : ∀ k, Maps.IsMap (lrn D i l k)
  | 0 => hD
  | k + 1 => (lrn_map hD i l k).put _ _
theorem rse_map {D : DataW Unit} (hD : Maps.IsMap D) (i : Nat) (v : Int) (sb : Nat → W64) : ∀ k, Maps.IsMap (rse D i v sb k)
  | 0 => hD
  | k + 1 => (rse_map hD i v sb k).put _ _
theorem div_small {i k : Nat} (h : i < 100000) : i / 2 ^ k < 100000 := Nat.lt_of_le_of_lt (Nat.div_le_self i (2 ^ k)) h
theorem sib_small {i k : Nat} (h : i < 100000) : sib (i / 2 ^ k) < 1000000 := Nat.lt_of_lt_of_le (sib_lt (div_small (k := k) h)) (by omega)
theorem getD_proof (C : List Int) (i : Nat) {H t : Nat} (h : t < H) : (proofW C i H).getD t 0 = nodeW C t (sib (i / 2 ^ t)) := by
  rw [List.getD_eq_getElem?_getD, proofW_at C i h]; rfl
/-- What was right stays right while a leaf of C is learned. -/
theorem lrn_at {D : DataW Unit} (hD : Maps.IsMap D) {C : List Int} {i H : Nat} (hi : i < 100000) (hH : H ≤ 100) {t x : Nat} (ht : t < 1000000) (hx : x < 1000000) : ∀ k, k ≤ H → (At D t x (nodeW C t x) ∨ (t < k ∧ x = sib (i / 2 ^ t))) → At (lrn D i (proofW C i H) k) t x (nodeW C t x)
  | 0, _, h => by
    rcases h with h | h
    · exact h
    · omega
  | k + 1, hk, h => by
    show At ((lrn D i (proofW C i H) k).put (kP k (sib (i / 2 ^ k))) (.lit (.int .u64 (((proofW C i H).getD k 0).toNat : Int)))) _ _ _
    rw [getD_proof C i (by omega)]
    refine At.put (lrn_map hD _ _ _) (fun e => by rw [e.1, ← e.2, e.1]) (fun e => lrn_at hD hi hH ht hx k (by omega) ?_) (by omega) (sib_small hi) ht hx
    rcases h with h | ⟨h1, h2⟩
    · exact .inl h
    · refine .inr ⟨?_, h2⟩
      rcases Nat.lt_or_ge t k with h3 | h3
      · exact h3
      · obtain rfl : t = k := by omega
        exact absurd ⟨rfl, h2.symm⟩ e
/-- .. and while the way of a cell is set anew. -/
theorem rse_at {D : DataW Unit} (hD : Maps.IsMap D) {C : List Int} {i : Nat} {v : Int} (hiC : i < C.length) (hi : i < 100000) {t x : Nat} (ht : t < 1000000) (hx : x < 1000000) : ∀ k, k ≤ 100 → (x ≠ i / 2 ^ t → At D t x (nodeW C t x)) → (x = i / 2 ^ t → t < k) →
    At (rse D i v (fun k => nodeW C k (sib (i / 2 ^ k))) k) t x (nodeW (C.set i v) t x)
  | 0, _, h, h2 => by
    have hne : x ≠ i / 2 ^ t := fun e => by have := h2 e; omega
    rw [node_set v (Ne.symm hne)]
    exact h hne
  | k + 1, hk, h, h2 => by
    show At ((rse D i v _ k).put (kP k (i / 2 ^ k)) (.lit (.int .u64 ((hsW i v _ k).toNat : Int)))) _ _ _
    rw [hsW_node v hiC k]
    refine At.put (rse_map hD _ _ _ _) (fun e => by rw [e.1, ← e.2, e.1]) (fun e => ?_) (by omega) (by have := div_small (k := k) hi; omega) ht hx
    by_cases hxe : x = i / 2 ^ t
    · refine rse_at hD hiC hi ht hx k (by omega) h fun _ => ?_
      have := h2 hxe
      rcases Nat.lt_or_ge t k with h3 | h3
      · exact h3
      · obtain rfl : t = k := by omega
        exact absurd ⟨rfl, hxe.symm⟩ e
    · exact rse_at hD hiC hi ht hx k (by omega) h fun e' => absurd e' hxe
/-- Leaves of C. -/
def Of (C : List Int) (f : Lf) : Prop := ∃ j y, C[j]? = some y ∧ f.i = (j : Nat) ∧ f.v = y ∧ f.l = proofW C j (ht C.length)
theorem hashD_map (root : W64) (H : Nat) (ls : List Lf) : ∀ k, Maps.IsMap (hashD root H ls k)
  | 0 => Maps.isMap_empty.put _ _
  | k + 1 => by
    cases h : ls[k]? with
    | none =>
      show Maps.IsMap (match ls[k]? with | some f => _ | none => _)
      rw [h]
      exact hashD_map root H ls k
    | some f => rw [hashD_succ h]; exact lrn_map (hashD_map root H ls k) _ _ _
theorem hash_known {C : List Int} {ls : List Lf} (hC : C.length ≤ 1000) (hof : ∀ (k : Nat) (f : Lf), ls[k]? = some f → Of C f) : ∀ m, m ≤ ls.length →
    At (hashD (rootW C) (ht C.length) ls m) (ht C.length) 0 (rootW C) ∧ ∀ (k : Nat) (f : Lf), k < m → ls[k]? = some f → Side (hashD (rootW C) (ht C.length) ls m) C (ht C.length) f.i.toNat
  | 0, _ => ⟨by
      have := Maps.atKey_put_same (H := Unit) (k := kP (ht C.length) 0) (D := .map []) Maps.isMap_empty trivial (.lit (.int .u64 ((rootW C).toNat : Int))) (.lit (.int .u64 0))
      exact this, fun k f h => absurd h (Nat.not_lt_zero _)⟩
  | m + 1, hm => by
    obtain ⟨h1, h2⟩ := hash_known hC hof m (by omega)
    obtain ⟨f, hf⟩ : ∃ f, ls[m]? = some f := ⟨_, List.getElem?_eq_getElem (by omega)⟩
    obtain ⟨j, y, hy, e1, e2, e3⟩ := hof m f hf
    have hj := (List.getElem?_eq_some_iff.1 hy).1
    have h16 := ht_small (n := C.length) (by omega)
    rw [hashD_succ hf, e1, Int.toNat_natCast, e3]
    have hmp := hashD_map (rootW C) (ht C.length) ls m
    refine ⟨lrn_at hmp (C := C) (by omega) (by omega) (by omega) (by omega) _ (Nat.le_refl _) (.inl h1), fun k g hk hg t ht' => ?_⟩
    have hgi : g.i.toNat < 100000 := by
      obtain ⟨j', y', hy', e', _⟩ := hof k g hg
      have := (List.getElem?_eq_some_iff.1 hy').1
      omega
    refine lrn_at hmp (by omega) (by omega) (by omega) (sib_small hgi) _ (Nat.le_refl _) ?_
    rcases Nat.lt_or_ge k m with h3 | h3
    · exact .inl (h2 k g h3 hg t ht')
    · obtain rfl : k = m := by omega
      rw [hf] at hg
      cases hg
      exact .inr ⟨ht', by rw [e1, Int.toNat_natCast]⟩
/-- After a Set of a known cell: the root, and what is known beside every other known way. -/
theorem rse_known {D : DataW Unit} {C : List Int} {i : Nat} {v : Int} (hD : Maps.IsMap D) (hi : i < C.length) (hC : C.length ≤ 1000) :
    At (rse D i v (fun k => nodeW C k (sib (i / 2 ^ k))) (ht C.length + 1)) (ht C.length) 0 (rootW (C.set i v)) ∧
    ∀ j, j < C.length → Side D C (ht C.length) j → Side (rse D i v (fun k => nodeW C k (sib (i / 2 ^ k))) (ht C.length + 1)) (C.set i v) (ht C.length) j := by
  have h16 := ht_small (n := C.length) (by omega)
  have h0 : i / 2 ^ ht C.length = 0 := Nat.div_eq_of_lt (Nat.lt_of_lt_of_le hi (ht_self _))
  refine ⟨?_, fun j hj hs t ht' => ?_⟩
  · have := rse_at (C := C) (v := v) hD hi (by omega) (t := ht C.length) (x := 0) (by omega) (by omega) (ht C.length + 1) (by omega) (fun e => absurd h0.symm e) (fun _ => Nat.lt_succ_self _)
    have e : rootW (C.set i v) = nodeW (C.set i v) (ht C.length) 0 := by unfold rootW; rw [List.length_set]
    rw [e]; exact this
  · exact rse_at hD hi (by omega) (by omega) (sib_small (by omega)) (ht C.length + 1) (by omega) (fun _ => hs t ht') (fun _ => by omega)
end Go.Proofs.Ytknjdkgemkmoeaa
