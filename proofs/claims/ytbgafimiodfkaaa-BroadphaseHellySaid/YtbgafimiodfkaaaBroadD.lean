/- package broadphase: the map of active boxes, as a datum; a step of the range over it; the sort of the pairs. -/
import Derived.Test.YtbgafimiodfkaaaBroadC
import Derived.Maps.RangeWalk
import Derived.Maps.OwnSet
import Derived.Maps.AppendAt
namespace Go.Proofs.Ytbgafimiodfkaaa
open Go.ChangeShapes Go.WideShapes Go.ChangeAt Go.RowKit
open Bo
set_option linter.unusedSimpArgs false
set_option linter.unusedVariables false

def dBx (b : Bx) : DataW Unit := .agg [.lit (.int .i64 b.x0), .lit (.int .i64 b.y0), .lit (.int .i64 b.x1), .lit (.int .i64 b.y1)]
theorem dBx_inj {a b : Bx} (h : dBx a = dBx b) : a = b := by
  cases a; cases b
  simp only [dBx, DataW.agg.injEq, List.cons.injEq, DataW.lit.injEq, Lit.int.injEq, true_and, and_true] at h
  simp_all

open Classical in
/-- How a box in a map reads. -/
noncomputable def boxElem (v : Value) : Option (DataW Unit × List MemPlace) :=
  if h : ∃ c : Bx, v = .agg #[.int .i64 c.x0, .int .i64 c.y0, .int .i64 c.x1, .int .i64 c.y1] then some (dBx h.choose, []) else none
theorem agg_inj {c c' : Bx} (h : Value.agg #[.int .i64 c.x0, .int .i64 c.y0, .int .i64 c.x1, .int .i64 c.y1] = .agg #[.int .i64 c'.x0, .int .i64 c'.y0, .int .i64 c'.x1, .int .i64 c'.y1]) : c = c' := by
  cases c; cases c'
  simp only [Value.agg.injEq, Array.mk.injEq, List.cons.injEq, Value.int.injEq, true_and, and_true] at h
  simp_all
theorem boxElem_mk (a b c d : Int) : boxElem (.agg #[.int .i64 a, .int .i64 b, .int .i64 c, .int .i64 d]) = some (dBx ⟨a, b, c, d⟩, []) := by
  have h : ∃ e : Bx, Value.agg #[.int .i64 a, .int .i64 b, .int .i64 c, .int .i64 d] = .agg #[.int .i64 e.x0, .int .i64 e.y0, .int .i64 e.x1, .int .i64 e.y1] := ⟨⟨a, b, c, d⟩, rfl⟩
  unfold boxElem
  rw [dif_pos h, agg_inj (c := ⟨a, b, c, d⟩) h.choose_spec]
theorem boxElem_inv {v : Value} {y : DataW Unit × List MemPlace} (h : boxElem v = some y) : ∃ c : Bx, v = .agg #[.int .i64 c.x0, .int .i64 c.y0, .int .i64 c.x1, .int .i64 c.y1] ∧ y = (dBx c, []) := by
  unfold boxElem at h
  split at h
  · rename_i hc
    exact ⟨hc.choose, hc.choose_spec, (Option.some.inj h).symm⟩
  · cases h

def kb (i : Nat) : Lit := .int .i64 (i : Int)
theorem kb_inj {i j : Nat} (h : kb i = kb j) : i = j := by
  simp only [kb, Lit.int.injEq, true_and] at h; omega
theorem kb_key (i : Nat) : WideAt.IsKeyLit (kb i) := trivial
/-- The map reads as the boxes of 'act'. -/
structure MapIs (bs : List Bx) (D : DataW Unit) (act : Nat → Prop) : Prop where
  key : ∀ kl, Maps.has D kl = true → ∃ i, kl = kb i ∧ act i
  box : ∀ i, act i → Maps.has D (kb i) = true ∧ ∀ zd, D.atKey (kb i) zd = dBx (at' bs i)
theorem MapIs.start (bs : List Bx) : MapIs bs (.map []) (fun _ => False) := ⟨fun kl h => by simp [Maps.has] at h, fun i h => h.elim⟩
theorem MapIs.del {bs : List Bx} {D : DataW Unit} {act : Nat → Prop} (h : MapIs bs D act) (j : Nat) : MapIs bs (D.del (kb j)) (fun i => act i ∧ i ≠ j) :=
  ⟨fun kl hk => by
    by_cases e : kl = kb j
    · subst e; rw [Maps.has_del_same] at hk; cases hk
    · rw [Maps.has_del_other e] at hk
      obtain ⟨i, rfl, hi⟩ := h.key kl hk
      exact ⟨i, rfl, hi, fun q => e (by rw [q])⟩,
   fun i hi => by
    have hne : kb i ≠ kb j := fun q => hi.2 (kb_inj q)
    rw [Maps.has_del_other hne]
    exact ⟨(h.box i hi.1).1, fun zd => by rw [Maps.atKey_del_other hne]; exact (h.box i hi.1).2 zd⟩⟩
theorem MapIs.put {bs : List Bx} {D : DataW Unit} {act : Nat → Prop} (h : MapIs bs D act) (hm : Maps.IsMap D) (j : Nat) : MapIs bs (D.put (kb j) (dBx (at' bs j))) (fun i => act i ∨ i = j) :=
  ⟨fun kl hk => by
    by_cases e : kl = kb j
    · exact ⟨j, e, Or.inr rfl⟩
    · rw [Maps.has_put_other e] at hk
      obtain ⟨i, h1, h2⟩ := h.key kl hk
      exact ⟨i, h1, Or.inl h2⟩,
   fun i hi => by
    by_cases e : i = j
    · subst e; exact ⟨Maps.has_put_same hm (kb_key i) _, fun zd => Maps.atKey_put_same hm (kb_key i) _ zd⟩
    · have hne : kb i ≠ kb j := fun q => e (kb_inj q)
      have hi' : act i := hi.elim id (fun q => absurd q e)
      rw [Maps.has_put_other hne]
      exact ⟨(h.box i hi').1, fun zd => by rw [Maps.atKey_put_other hne]; exact (h.box i hi').2 zd⟩⟩

theorem keyLaw : Maps.Keyed Try.prog 3 := Maps.int_keyed Try.underlying3
theorem kb_of (i : Nat) (h : i ≤ 1000) : keyOf Try.prog 3 (.int .i64 (i : Int)) = some (kb i) := Maps.keyOf_int_mk Try.underlying3 (WalkArith.wf_i64 (by omega))

section
variable {w : World} {ops : Array Oper} {rest : List Oper} {o : Oper} {a : Act} {Q : Exit → Act → World → Prop}
/-- A step of the range over the active boxes. -/
theorem next_box (hg : o.guard = none) (it : Operand) (hop : o.op = Op.next it false) (bs : List Bx) (act : Nat → Prop) (b r n : Nat) (D : DataW Unit) (hM : MapIs bs D act) (left : Lit → Bool) (cnt : Nat)
    (hit : a.eval it = .pointer (some ⟨r, 0, none⟩)) (h : w.ranges Try.prog 3 boxElem b r n D left cnt)
    (hDone : cnt = 0 → (∀ i, ¬ left (kb i) = true) → wpList Try.prog ops Q rest (a.put o.dst (.tuple #[.bool false])) w)
    (hMore : ∀ (i : Nat) (w' : World) (cnt' : Nat), act i → left (kb i) = true → w'.ranges Try.prog 3 boxElem b r n D (fun z => left z && !z.sameKey (kb i)) cnt' → cnt' < cnt →
      w.grownBy w' (some r) → (Instr.entry (.pointer (some ⟨r, 0, none⟩))).run Try.prog w' = .ok (.tuple #[.int .i64 (i : Int), .agg #[.int .i64 (at' bs i).x0, .int .i64 (at' bs i).y0, .int .i64 (at' bs i).x1, .int .i64 (at' bs i).y1]]) w' →
      wpList Try.prog ops Q rest (a.put o.dst (.tuple #[.bool true, .int .i64 (i : Int), .agg #[.int .i64 (at' bs i).x0, .int .i64 (at' bs i).y0, .int .i64 (at' bs i).x1, .int .i64 (at' bs i).y1]])) w') :
    wpList Try.prog ops Q (o :: rest) a w :=
  wpList_next_ranges w hg it hop 3 keyLaw boxElem (Value.int .i64) (fun c : Bx => .agg #[.int .i64 c.x0, .int .i64 c.y0, .int .i64 c.x1, .int .i64 c.y1])
    (fun key kl hkey => by obtain ⟨x, rfl, _⟩ := Maps.keyOf_int_inv Try.underlying3 hkey; exact ⟨x, rfl⟩) (fun v y hv => by obtain ⟨c, rfl, _⟩ := boxElem_inv hv; exact ⟨c, rfl⟩)
    b r n D left cnt hit h (fun h0 hl => hDone h0 fun i => by rw [hl]; simp) (fun x c kl y w' cnt' hkey hlk hv hat hrg hlt hgr hsz hen => by
      obtain ⟨x', ex, rfl, hwx⟩ := Maps.keyOf_int_inv Try.underlying3 hkey
      cases ex
      obtain ⟨c', ec, rfl⟩ := boxElem_inv hv
      obtain rfl := agg_inj ec
      obtain ⟨i, hi1, hi2⟩ := hM.key _ (Maps.has_true_of_atKey hat)
      have hx : x = (i : Int) := by simpa [kb] using hi1
      subst hx
      have hb := (hM.box i hi2).2 (.lit (.bool true))
      have h2 := hat (.lit (.bool true))
      have h3 : c = at' bs i := dBx_inj (h2.symm.trans hb)
      subst h3
      exact hMore i w' cnt' hi2 hlk hrg hlt hgr hen)
end

/-! ### pairs in memory -/
def encPr (p : Nat × Nat) : List Value := [.int .i64 (p.1 : Int), .int .i64 (p.2 : Int)]
theorem pr_len : ∀ p : Nat × Nat, (encPr p).length = 2 := fun _ => rfl
theorem pr_one : ∀ x : Nat × Nat, ∀ v ∈ encPr x, v.oneCell' = true := fun x v hv => by
  simp only [encPr, List.mem_cons, List.not_mem_nil, or_false] at hv
  rcases hv with rfl | rfl <;> rfl
theorem swoPr : Go.Sort.SWO (ltOf cmpPr) where
  irrefl x := by
    unfold ltOf
    exact decide_eq_false fun h => PLt.irrefl x ((cmpPr_lt x x).1 h)
  trans x y z h1 h2 := by
    unfold ltOf at *
    exact decide_eq_true ((cmpPr_lt _ _).2 (((cmpPr_lt _ _).1 (of_decide_eq_true h1)).trans ((cmpPr_lt _ _).1 (of_decide_eq_true h2))))
  ntrans x y z h1 h2 := by
    unfold ltOf at *
    have a : ¬ PLt x y := fun h => of_decide_eq_false h1 ((cmpPr_lt x y).2 h)
    have b : ¬ PLt y z := fun h => of_decide_eq_false h2 ((cmpPr_lt y z).2 h)
    refine decide_eq_false fun h => ?_
    have c := (cmpPr_lt _ _).1 h
    unfold PLt at *
    omega
theorem sortPr_any {base : Nat} (v : Value) (ps : List (Nat × Nat)) (w : World) (hown : w.ownsRow base 39 2 v ps.length (ps.flatMap encPr)) (hl : ps.length < 4611686018427387904) :
    Calls Try.prog 26 #[v, .func (.func 27) #[] #[]] w fun e w' =>
      e = .returned (.tuple #[]) ∧ ∃ l' : List (Nat × Nat), l'.Perm ps ∧ (l'.Pairwise fun x y => ¬ cmpPr y x < 0) ∧ w'.ownsRow base 39 2 v l'.length (l'.flatMap encPr) ∧ Below base w w' :=
  sort_owned Try.sort_pr Try.isAgg39 Try.sizeOf39 pr_len pr_one cmpPr swoPr 27 (enters_of Try.func27 (by kernel_rfl) rfl) (fun x y W => closurePr x y W) v ps w hown hl
theorem infoPr : (Try.prog.info? 39).map (fun i => (i.zero, i.size, i.bytes)) = some (some (.agg #[.int .i64 0, .int .i64 0]), 2, 16) := by kernel_rfl

theorem ownsRow_base {w : World} {base base' : Nat} {e : TypeId} {size : Nat} {v : Value} {n : Nat} {xs : List Value} (h : w.ownsRow base e size v n xs) (hb : base' ≤ base) : w.ownsRow base' e size v n xs := by
  obtain ⟨h1, h2⟩ := h
  rcases h2 with h2 | ⟨g, cap, cur, h3, h4, h5⟩
  · exact ⟨h1, Or.inl h2⟩
  · exact ⟨h1, Or.inr ⟨g, cap, cur, h3, by omega, h5⟩⟩
theorem grown_of_below {a w : World} (h : Below a.heap.size a w) (row : Option Nat) : a.grownBy w row := ⟨h.os, h.tape, h.output, h.size, fun i hi _ => h.block i hi⟩
/-- Pairs' own answer. -/
def PairsPost (bs : List Bx) (base : Nat) (e : Ending) (w' : World) : Prop :=
  ∃ v : Value, e = .returned v ∧ w'.ownsRow base 39 2 v (pairs bs).length ((pairs bs).flatMap encPr)
theorem overlap4 (a0 a1 a2 a3 b0 b1 b2 b3 : Int) (w : World) :
    Calls Try.prog 11 #[.agg #[.int .i64 a0, .int .i64 a1, .int .i64 a2, .int .i64 a3], .agg #[.int .i64 b0, .int .i64 b1, .int .i64 b2, .int .i64 b3]] w fun e w' =>
      e = .returned (.bool (ov ⟨a0, a1, a2, a3⟩ ⟨b0, b1, b2, b3⟩)) ∧ Below w.heap.size w w' := overlap_any ⟨a0, a1, a2, a3⟩ ⟨b0, b1, b2, b3⟩ w
end Go.Proofs.Ytbgafimiodfkaaa
