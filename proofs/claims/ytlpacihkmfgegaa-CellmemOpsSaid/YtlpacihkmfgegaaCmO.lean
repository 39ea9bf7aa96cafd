/- The reference of package cellmem: a memory as a value; own, New, Now, Mark, check. -/
import Derived.Test.YtlpacihkmfgegaaCmL
namespace Go.Proofs.Ytlpacihkmfgegaa
open Go.ChangeShapes Go.WideShapes Go.ChangeAt Go.RowKit
open Cm
set_option linter.unusedSimpArgs false
set_option linter.unusedVariables false

/-! ## own -/
set_option maxHeartbeats 2000000 in
theorem ownS_any (ad : Addr) (cap : Nat) (l : List Int) (w : World) (hn : l.length ≤ 10000) (hc : ∀ j u, (ints l)[j]? = some u → w.cell? (ad.add j) = some u) :
    Calls Try.prog 40 #[.slice (some ad) l.length cap] w fun e w' => (∃ v, e = .returned v ∧ w'.ownsRow w.heap.size 3 1 v l.length (ints l)) ∧ Below w.heap.size w w' := by
  obtain ⟨i0, hi0, hz0, hz1, hz2⟩ := info_parts info_int
  have hi0' := Lib.hid hi0; clear hi0
  have hz0' := Lib.hid hz0; clear hz0
  have hz1' := Lib.hid hz1; clear hz1
  have hz2' := Lib.hid hz2; clear hz2
  have hc' := Lib.hid hc; clear hc
  have hl1 := Lib.hid (show (ints l).length = l.length * 1 from by rw [ints_length, Nat.mul_one])
  obtain ⟨n, hne⟩ : ∃ n, n = l.length := ⟨_, rfl⟩
  rw [← hne] at hl1 hn ⊢
  clear hne
  go_enter Try.func40, Try.ntmps40
  go_wp2_with (at_builtin; refine wpList_append_own _ rfl _ _ 22 rfl w.heap.size 3 i0 _ 1 8 Try.underlying22 hi0'.out hz0'.out hz1'.out hz2'.out rfl (by decide) _ 0 [] rfl (World.ownsRow_nil _ _ _ _) ad n cap (ints l) rfl hl1.out hc'.out (ints_one' _) (by unfold maxLen; omega) (by omega) (Nat.le_refl _) ?_; intro v' w2 hown2 hg2 _)
  have hB2 := (Below.refl w.heap.size w).grown hg2 (Nat.le_refl _) (fun j hj => by cases hj)
  simp only [Nat.zero_add, List.nil_append] at hown2
  have hi := Lib.hid hown2
  clear hown2
  go_wp2
  go_ret
  exact ⟨⟨_, rfl, hi.out⟩, hB2⟩
set_option maxHeartbeats 2000000 in
theorem ownE_any (w : World) :
    Calls Try.prog 40 #[.slice none 0 0] w fun e w' => e = .returned (.slice none 0 0) ∧ Below w.heap.size w w' := by
  obtain ⟨i0, hi0, hz0, hz1, hz2⟩ := info_parts info_int
  have hi0' := Lib.hid hi0; clear hi0 hz0 hz1 hz2
  go_enter Try.func40, Try.ntmps40
  go_wp2_with (at_builtin; refine wpList_append_own_none rfl _ _ 22 rfl w.heap.size 3 i0 1 Try.underlying22 hi0'.out _ 0 [] rfl (World.ownsRow_nil _ _ _ _) rfl ?_)
  go_ret
  exact ⟨rfl, Below.refl _ _⟩
/-- Where the address is nil there is no room: so Go's slices are. -/
def Noz (v : Value) : Prop := ∀ n c, v = .slice none n c → v = .slice none 0 0
theorem own_any (v : Value) (l : List Int) (w : World) (h : IL w v l) (hz : Noz v) (hn : l.length ≤ 10000) :
    Calls Try.prog 40 #[v] w fun e w' => (∃ v, e = .returned v ∧ w'.ownsRow w.heap.size 3 1 v l.length (ints l)) ∧ Below w.heap.size w w' := by
  obtain ⟨a, cap, rfl, h1, h2, h3⟩ := h
  rw [ints_length] at *
  cases a with
  | none =>
    have e := hz _ _ rfl
    simp only [Value.slice.injEq, true_and] at e
    obtain ⟨e1, rfl⟩ := e
    have hl : l = [] := List.length_eq_zero_iff.1 e1
    subst hl
    refine (ownE_any w).mono ?_
    rintro e w' ⟨rfl, hb⟩
    exact ⟨⟨_, rfl, World.ownsRow_nil _ _ _ _⟩, hb⟩
  | some ad =>
    refine ownS_any ad cap l w hn fun j u hu => ?_
    rcases h3 with h3 | ⟨g, off, h3, _, h4⟩
    · rw [h3] at hu; simp at hu
    · cases h3
      have ha : (⟨g, off, none⟩ : Addr).add j = ⟨g, off + j, none⟩ := by unfold Addr.add; split <;> simp_all
      rw [ha]; exact h4 j u hu
theorem noz_owned {w : World} {B : Nat} {e : TypeId} {k : Nat} {v : Value} {n : Nat} {xs : List Value} (h : w.ownsRow B e k v n xs) : Noz v := by
  rcases h.2 with ⟨rfl, _⟩ | ⟨g, cap, cur, rfl, _⟩
  · exact fun n c _ => rfl
  · intro n c e; cases e

/-! ## The reference's memory -/
/-- The values of its fields say what R says; xs are the states' values. -/
structure Rv (w : World) (sv cv : Value) (xs : List Value) (R : Rf) : Prop where
  st : VL w sv xs
  len : xs.length = R.st.length
  el : ∀ (i : Nat) (x : Value) (l : List Int), xs[i]? = some x → R.st[i]? = some l → IL w x l
  nx : ∀ (i : Nat) (x : Value), xs[i]? = some x → Noz x
  ce : IL w cv (natI R.ce)
  nc : Noz cv
def refV (sv cv : Value) (R : Rf) : Value := .agg #[sv, cv, .int .i64 (R.base : Nat)]
/-- The blocks that the values lie in. -/
def Rown (sv cv : Value) (xs : List Value) (g : Nat) : Prop := sv.ownBlock = some g ∨ cv.ownBlock = some g ∨ ∃ x, x ∈ xs ∧ x.ownBlock = some g
/-- They stay when blocks beside them turn. -/
theorem Rv.apart {w w' : World} {O O' : Nat → Prop} {sv cv : Value} {xs : List Value} {R : Rf} (h : Rv w sv cv xs R) (hm : Moves O w O' w') (ha : ∀ g, Rown sv cv xs g → ¬ O g) : Rv w' sv cv xs R :=
  ⟨h.st.moves hm fun k hk => ha k (.inl hk), h.len, fun i x l hx hl => (h.el i x l hx hl).moves hm fun k hk => ha k (.inr (.inr ⟨x, List.mem_of_getElem? hx, hk⟩)), h.nx, h.ce.moves hm fun k hk => ha k (.inr (.inl hk)), h.nc⟩
theorem Rv.carry {w w' : World} {sv cv : Value} {xs : List Value} {R : Rf} (h : Rv w sv cv xs R) (hb : Below w.heap.size w w') : Rv w' sv cv xs R :=
  ⟨h.st.carry hb, h.len, fun i x l hx hl => (h.el i x l hx hl).carry hb, h.nx, h.ce.carry hb, h.nc⟩
theorem VL.shape {w : World} {v : Value} {xs : List Value} (h : VL w v xs) : ∃ a cap, v = .slice a xs.length cap ∧ xs.length ≤ cap ∧ cap ≤ maxLen ∧ (0 < xs.length → ∃ g off, a = some ⟨g, off, none⟩ ∧ g < w.heap.size ∧ ∀ (i : Nat) (u : Value), xs[i]? = some u → w.cell? ⟨g, off + i, none⟩ = some u) := by
  obtain ⟨a, cap, h1, h2, h3, h4⟩ := h
  refine ⟨a, cap, h1, h2, h3, fun h0 => ?_⟩
  rcases h4 with rfl | ⟨g, off, h5, h6, h7⟩
  · simp at h0
  · exact ⟨g, off, h5, h6, h7⟩
section
variable {w : World} {sv cv : Value} {xs : List Value} {R : Rf} {S : Me}
theorem Rv.now (h : Rv w sv cv xs R) (hs : Says R S) : ∃ x, xs[R.ce.length]? = some x ∧ IL w x S.cs ∧ Noz x := by
  have hl : R.ce.length < xs.length := by rw [h.len, hs.len]; omega
  refine ⟨_, List.getElem?_eq_getElem hl, h.el _ _ _ (List.getElem?_eq_getElem hl) hs.now, h.nx _ _ (List.getElem?_eq_getElem hl)⟩
theorem refNow_any (h : Rv w sv cv xs R) (hs : Says R S) (hP : S.pos ≤ 10000) {x : Value} (hx : xs[R.ce.length]? = some x) :
    Calls Try.prog 23 #[refV sv cv R] w fun e w' => e = .returned x ∧ Below w.heap.size w w' := by
  unfold refV
  have hb := alloc_below w (.cells #[sv, cv, .int .i64 (R.base : Nat)] 28)
  have k0 := World.cell?_alloc_new (w := w) #[sv, cv, .int .i64 (R.base : Nat)] 28 0
  obtain ⟨V, hV⟩ : ∃ V, V = w.alloc (.cells #[sv, cv, .int .i64 (R.base : Nat)] 28) := ⟨_, rfl⟩
  rw [← hV] at hb k0
  obtain ⟨a, cap, hv, h2, h3, h4⟩ := (h.carry hb).st.shape
  have hxl : xs.length = R.ce.length + 1 := by rw [h.len, hs.len]
  have hpl : R.ce.length ≤ 10000 := by rw [hs.pos]; exact hP
  obtain ⟨g, off, ha, hg, hc⟩ := h4 (by omega)
  have c0 := hc _ _ hx
  rw [hxl] at hv h2
  subst ha
  subst hv
  have hb' := Lib.hid hb
  have hV' := Lib.hid hV
  clear h hs hb hc hx hxl hg hV hP
  generalize R.ce.length = n at *
  unfold maxLen at h3
  have i1 : ((n + 1 : Nat) : Int) - 1 = (n : Int) := by omega
  go_enter Try.func23, Try.ntmps23
  go_upto_region 1 with fail
  rw [show w.alloc (.cells #[.slice (some ⟨g, off, none⟩) (n + 1) cap, cv, .int .i64 (R.base : Nat)] 28) = V from hV'.out.symm]
  go_wp2_with fail
  go_ret
  exact ⟨rfl, hb'.out⟩
theorem refMark_any (h : Rv w sv cv xs R) (hP : R.ce.length ≤ 10000) :
    Calls Try.prog 25 #[refV sv cv R] w fun e w' => e = .returned (.int .i64 (R.ce.length : Nat)) ∧ Below w.heap.size w w' := by
  unfold refV
  have hb := alloc_below w (.cells #[sv, cv, .int .i64 (R.base : Nat)] 28)
  have k1 := World.cell?_alloc_new (w := w) #[sv, cv, .int .i64 (R.base : Nat)] 28 1
  obtain ⟨V, hV⟩ : ∃ V, V = w.alloc (.cells #[sv, cv, .int .i64 (R.base : Nat)] 28) := ⟨_, rfl⟩
  rw [← hV] at hb k1
  obtain ⟨a, cap, hv, _⟩ := h.ce
  rw [ints_length, natI_length] at hv
  subst hv
  have hb' := Lib.hid hb
  have hV' := Lib.hid hV
  clear h hb hV
  generalize R.ce.length = n at *
  go_enter Try.func25, Try.ntmps25
  go_upto_region 1 with fail
  rw [show w.alloc (.cells #[sv, .slice a n cap, .int .i64 (R.base : Nat)] 28) = V from hV'.out.symm]
  go_wp2_with fail
  go_ret
  exact ⟨rfl, hb'.out⟩
set_option maxHeartbeats 2000000 in
theorem refCheck_any (h : Rv w sv cv xs R) (hs : Says R S) (hP : S.pos ≤ 10000) (m : Int) :
    Calls Try.prog 41 #[refV sv cv R, .int .i64 m] w fun e w' => e = .returned (.int .i64 (S.err m)) ∧ Below w.heap.size w w' := by
  have hb := alloc_below w (.cells #[sv, cv, .int .i64 (R.base : Nat)] 28)
  have km := Lib.hid (refMark_any (h.carry hb) (by rw [hs.pos]; exact hP))
  unfold refV at *
  have k0 := World.cell?_alloc_new (w := w) #[sv, cv, .int .i64 (R.base : Nat)] 28 0
  have k1 := World.cell?_alloc_new (w := w) #[sv, cv, .int .i64 (R.base : Nat)] 28 1
  have k2 := World.cell?_alloc_new (w := w) #[sv, cv, .int .i64 (R.base : Nat)] 28 2
  obtain ⟨V, hV⟩ : ∃ V, V = w.alloc (.cells #[sv, cv, .int .i64 (R.base : Nat)] 28) := ⟨_, rfl⟩
  rw [← hV] at hb k0 k1 k2 km
  have hb' := Lib.hid hb
  have hV' := Lib.hid hV
  have e1 := hs.base
  have e2 := hs.pos
  obtain ⟨sa, sn, sc, rfl⟩ : ∃ a n c, sv = .slice a n c := by obtain ⟨a, c, h1, _⟩ := h.st; exact ⟨_, _, _, h1⟩
  obtain ⟨ca, cn, cc, rfl⟩ : ∃ a n c, cv = .slice a n c := by obtain ⟨a, c, h1, _⟩ := h.ce; exact ⟨_, _, _, h1⟩
  clear h hb hV hs
  generalize R.base = r at *
  generalize R.ce.length = p at *
  rcases S.err_cases m with ⟨h1, h2⟩ | ⟨h1, h3, h2⟩ | ⟨h1, h3, h2⟩
  · rw [h2]
    have d0 : decide (m < (r : Int)) = true := decide_eq_true (by omega)
    clear h1 h2 e1 e2
    go_enter Try.func41, Try.ntmps41
    go_upto_region 1 with fail
    rw [show w.alloc (.cells #[.slice sa sn sc, .slice ca cn cc, .int .i64 (r : Nat)] 28) = V from hV'.out.symm]
    go_wp2_with fail
    go_ret
    exact ⟨rfl, hb'.out⟩
  · rw [h2]
    have d0 : decide (m < (r : Int)) = false := decide_eq_false (by omega)
    have d1 : decide ((p : Int) < m) = true := decide_eq_true (by omega)
    clear h1 h2 h3 e1 e2
    go_enter Try.func41, Try.ntmps41
    go_upto_region 1 with fail
    rw [show w.alloc (.cells #[.slice sa sn sc, .slice ca cn cc, .int .i64 (r : Nat)] 28) = V from hV'.out.symm]
    go_wp2_with (first | (go_at_call 25; with_reducible refine km.out.mono ?_; rintro e y1 ⟨rfl, hb1⟩; have hb2 := Lib.hid (below_step hb'.out hb1); clear hb1))
    go_ret
    exact ⟨rfl, hb2.out⟩
  · rw [h2]
    have d0 : decide (m < (r : Int)) = false := decide_eq_false (by omega)
    have d1 : decide ((p : Int) < m) = false := decide_eq_false (by omega)
    clear h1 h2 h3 e1 e2
    go_enter Try.func41, Try.ntmps41
    go_upto_region 1 with fail
    rw [show w.alloc (.cells #[.slice sa sn sc, .slice ca cn cc, .int .i64 (r : Nat)] 28) = V from hV'.out.symm]
    go_wp2_with (first | (go_at_call 25; with_reducible refine km.out.mono ?_; rintro e y1 ⟨rfl, hb1⟩; have hb2 := Lib.hid (below_step hb'.out hb1); clear hb1))
    go_ret
    exact ⟨rfl, hb2.out⟩
end
end Go.Proofs.Ytlpacihkmfgegaa
