/- package broadphase: Pairs: the sweep over the end points, the range over the active boxes within it. -/
import Derived.Test.YtbgafimiodfkaaaBroadD
namespace Go.Proofs.Ytbgafimiodfkaaa
open Go.ChangeShapes Go.WideShapes Go.ChangeAt Go.RowKit
open Bo
set_option linter.unusedSimpArgs false
set_option linter.unusedVariables false

theorem ownsRow_below {w w' : World} {base : Nat} {e : TypeId} {size : Nat} {v : Value} {n : Nat} {xs : List Value} (h : w.ownsRow base e size v n xs) (hb : Below w.heap.size w w') : w'.ownsRow base e size v n xs :=
  h.kept (grown_of_below hb none) (by cases hv : v.ownBlock <;> simp)
theorem ownsRow_past {w w' : World} {base B : Nat} {e : TypeId} {size : Nat} {v : Value} {n : Nat} {xs : List Value} (h : w.ownsRow base e size v n xs) (hg : w.grownBy w' (some B)) (hB : B < base) : w'.ownsRow base e size v n xs :=
  h.kept hg (by
    cases hv : v.ownBlock with
    | none => exact Or.inl rfl
    | some q => refine Or.inr fun e => ?_; have := (h.lt q hv).1; have := Option.some.inj e; omega)
theorem swept_len {bs : List Bx} {pre : List Pt} {ps : List (Nat × Nat)} (h : Swept bs pre ps) (hp : ∀ q ∈ pre, q.box < bs.length) : ps.length ≤ bs.length * bs.length := by
  refine nodup_len h.nodup fun p hp' => ?_
  obtain ⟨_, h1, h2, _⟩ := (h.mem p).1 hp'
  exact ⟨by have := hp _ h1; simpa [lef] using this, by have := hp _ h2; simpa [lef] using this⟩
theorem round_len {bs : List Bx} {pre : List Pt} {act : Nat → Prop} {j : Nat} {left : Nat → Prop} {ps : List (Nat × Nat)} (h : Round bs pre act j left ps) (hA : Active bs pre act) (hp : ∀ q ∈ pre, q.box < bs.length) (hj : j < bs.length) : ps.length ≤ bs.length * bs.length := by
  refine nodup_len h.nodup fun p hp' => ?_
  have hm : ∀ i, Bo.Met bs pre i → i < bs.length := fun i hi => by have := hp _ hi; simpa [lef] using this
  rcases (h.mem p).1 hp' with ⟨_, h1, h2, _⟩ | ⟨i, h1, _, _, rfl⟩
  · exact ⟨hm _ h1, hm _ h2⟩
  · have := hm _ (hA.met i h1)
    unfold pr
    exact ⟨by simp only; omega, by simp only; omega⟩
theorem sq_le {n : Nat} (h : n ≤ 1000) : n * n ≤ 1000000 := Nat.mul_le_mul h h

/-- What holds at the head of the sweep's round k. -/
def Sweep (bs : List Bx) (pl : List Pt) (B base : Nat) (w2 : World) (k : Nat) (v : Value) (wr : World) : Prop :=
  ∃ (ps : List (Nat × Nat)) (act : Nat → Prop) (D : DataW Unit), wr.ownsRow base 39 2 v ps.length (ps.flatMap encPr) ∧ Swept bs (pl.take k) ps ∧ Active bs (pl.take k) act ∧ MapIs bs D act ∧
    wr.ownsMap Try.prog 3 boxElem B k D ∧ w2.grownBy wr (some B)
/-- What holds at the head of a round of the range over the active boxes. -/
def Inner (bs : List Bx) (pre : List Pt) (act : Nat → Prop) (j B base lim n : Nat) (D : DataW Unit) (w2 : World) (v : Value) (wr : World) : Prop :=
  ∃ (left : Lit → Bool) (cnt : Nat) (ps : List (Nat × Nat)), wr.ranges Try.prog 3 boxElem B (lim + 1 + 1) n D left cnt ∧ wr.ownsRow base 39 2 v ps.length (ps.flatMap encPr) ∧
    (∀ q, v.ownBlock = some q → q < lim ∨ lim + 3 ≤ q) ∧ Round bs pre act j (fun i => left (kb i) = true) ps ∧ w2.grownBy wr (some B) ∧ lim + 3 ≤ wr.heap.size ∧
    wr.cell? ⟨lim, 1, none⟩ = some (.int .i64 (j : Int)) ∧ wr.cell? ⟨lim + 1, 0, none⟩ = some (.int .i64 (at' bs j).x0) ∧ wr.cell? ⟨lim + 1, 1, none⟩ = some (.int .i64 (at' bs j).y0) ∧
    wr.cell? ⟨lim + 1, 2, none⟩ = some (.int .i64 (at' bs j).x1) ∧ wr.cell? ⟨lim + 1, 3, none⟩ = some (.int .i64 (at' bs j).y1)
theorem take_succ' {pl : List Pt} {k : Nat} {p : Pt} (h : pl[k]? = some p) : pl.take (k + 1) = pl.take k ++ [p] := by
  rw [List.take_add_one, h]; rfl
theorem ahead_of {pl : List Pt} {k : Nat} {p : Pt} (hp : pl[k]? = some p) (hnd : pl.Nodup) (hs : pl.Pairwise fun x y => ¬ cmpPt y x < 0) : p ∉ pl.take k ∧ ∀ q ∈ pl.take k, ¬ cmpPt p q < 0 := by
  have e := take_succ' hp
  have h1 : (pl.take (k + 1)).Nodup := hnd.sublist (List.take_sublist _ _)
  have h2 : (pl.take (k + 1)).Pairwise fun x y => ¬ cmpPt y x < 0 := hs.sublist (List.take_sublist _ _)
  rw [e, List.nodup_append] at h1
  rw [e, List.pairwise_append] at h2
  exact ⟨fun h => h1.2.2 p h p (by simp) rfl, fun q hq => h2.2.2 q hq p (by simp)⟩
theorem two_one (x y : Int) : ∀ u ∈ [Value.int .i64 x, .int .i64 y], u.oneCell' = true := fun u hu => by
  simp only [List.mem_cons, List.not_mem_nil, or_false] at hu
  rcases hu with rfl | rfl <;> rfl

theorem not_own {w : World} {base lim : Nat} {e : TypeId} {size : Nat} {v : Value} {n : Nat} {xs : List Value} (h : w.ownsRow base e size v n xs) (hloc : ∀ q, v.ownBlock = some q → q < lim ∨ lim + 3 ≤ q) (x : Nat) (hx : x < base ∨ x = lim ∨ x = lim + 1 ∨ x = lim + 1 + 1) :
    some x ≠ v.ownBlock := fun e => by
  have h1 := (h.lt x e.symm).1
  have h2 := hloc x e.symm
  omega
theorem strike_iff (left : Lit → Bool) (i t : Nat) : ((fun z : Lit => left z && !z.sameKey (kb i)) (kb t) = true) ↔ left (kb t) = true ∧ t ≠ i := by
  show (left (kb t) && !(kb t).sameKey (kb i)) = true ↔ _
  by_cases e : t = i
  · subst e
    rw [WideAt.sameKey_self (kb_key t)]; simp
  · rw [Maps.sameKey_ne (fun q => e (kb_inj q))]; simp [e]
theorem inner_skip {bs : List Bx} {pre : List Pt} {act : Nat → Prop} {j B base lim n : Nat} {D : DataW Unit} {w2 wi w5 w6 : World} {v : Value} {left : Lit → Bool} {cnt5 i : Nat} {ps : List (Nat × Nat)}
    (hown : wi.ownsRow base 39 2 v ps.length (ps.flatMap encPr)) (hloc : ∀ q, v.ownBlock = some q → q < lim ∨ lim + 3 ≤ q) (hRd : Round bs pre act j (fun i => left (kb i) = true) ps) (hG : w2.grownBy wi (some B)) (hsz : lim + 3 ≤ wi.heap.size)
    (r1 : wi.cell? ⟨lim, 1, none⟩ = some (.int .i64 (j : Int))) (b0 : wi.cell? ⟨lim + 1, 0, none⟩ = some (.int .i64 (at' bs j).x0)) (b1 : wi.cell? ⟨lim + 1, 1, none⟩ = some (.int .i64 (at' bs j).y0))
    (b2 : wi.cell? ⟨lim + 1, 2, none⟩ = some (.int .i64 (at' bs j).x1)) (b3 : wi.cell? ⟨lim + 1, 3, none⟩ = some (.int .i64 (at' bs j).y1)) (h2 : w2.heap.size ≤ lim)
    (hrg5 : w5.ranges Try.prog 3 boxElem B (lim + 1 + 1) n D (fun z => left z && !z.sameKey (kb i)) cnt5) (hg5 : wi.grownBy w5 (some (lim + 1 + 1))) (hb56 : Below w5.heap.size w5 w6) (ho : ¬ Ov (at' bs j) (at' bs i)) :
    Inner bs pre act j B base lim n D w2 v w6 := by
  have g56 := grown_of_below hb56 none
  have cc : ∀ {a : Addr} {u : Value}, wi.cell? a = some u → a.block ≠ lim + 1 + 1 → w6.cell? a = some u := fun h hne => Proofs.Ytbgafimiodfkaaa.carry hb56 (hg5.cell h (fun e => hne (Option.some.inj e)))
  refine ⟨_, cnt5, ps, hrg5.kept g56 (by simp) (by simp), ownsRow_below (hown.kept hg5 (Or.inr fun e => ?_)) hb56, hloc, hRd.skip ho (strike_iff left i), (hG.andThen hg5 (fun q hq => ?_)).andThen g56 (fun q hq => by cases hq), ?_,
    cc r1 (by simp only; omega), cc b0 (by simp only; omega), cc b1 (by simp only; omega), cc b2 (by simp only; omega), cc b3 (by simp only; omega)⟩
  · have := hloc _ e; omega
  · cases hq; exact Or.inl (by omega)
  · have := hg5.size; have := hb56.size; omega
theorem inner_hit {bs : List Bx} {pre : List Pt} {act : Nat → Prop} {j B base lim n : Nat} {D : DataW Unit} {w2 wi w5 w6 w7 : World} {v v' : Value} {left : Lit → Bool} {cnt5 i : Nat} {ps : List (Nat × Nat)} {o : Obj} {xs : List Value}
    (hown : wi.ownsRow base 39 2 v ps.length (ps.flatMap encPr)) (hloc : ∀ q, v.ownBlock = some q → q < lim ∨ lim + 3 ≤ q) (hRd : Round bs pre act j (fun i => left (kb i) = true) ps) (hG : w2.grownBy wi (some B)) (hsz : lim + 3 ≤ wi.heap.size)
    (r1 : wi.cell? ⟨lim, 1, none⟩ = some (.int .i64 (j : Int))) (b0 : wi.cell? ⟨lim + 1, 0, none⟩ = some (.int .i64 (at' bs j).x0)) (b1 : wi.cell? ⟨lim + 1, 1, none⟩ = some (.int .i64 (at' bs j).y0))
    (b2 : wi.cell? ⟨lim + 1, 2, none⟩ = some (.int .i64 (at' bs j).x1)) (b3 : wi.cell? ⟨lim + 1, 3, none⟩ = some (.int .i64 (at' bs j).y1)) (h2 : w2.heap.size ≤ lim) (h3 : base ≤ lim) (h4 : B < base) (h5 : w2.heap.size ≤ base)
    (hrg5 : w5.ranges Try.prog 3 boxElem B (lim + 1 + 1) n D (fun z => left z && !z.sameKey (kb i)) cnt5) (hg5 : wi.grownBy w5 (some (lim + 1 + 1))) (hb56 : Below w5.heap.size w5 w6) (ho : Ov (at' bs j) (at' bs i)) (hi : act i) (hli : left (kb i) = true) (hj : ¬ Bo.Met bs pre j)
    (hown7 : w7.ownsRow base 39 2 v' (ps.length + 1) (ps.flatMap encPr ++ xs)) (hxs : xs = encPr (pr i j)) (hg7 : (w6.alloc o).grownBy w7 v.ownBlock) (hloc7 : v'.ownBlock = v.ownBlock ∨ v'.ownBlock = some (w6.alloc o).heap.size) :
    Inner bs pre act j B base lim n D w2 v' w7 := by
  have g56 := grown_of_below hb56 none
  have hno := not_own hown hloc
  have s6 : lim + 3 ≤ w6.heap.size := by have := hg5.size; have := hb56.size; omega
  have cc : ∀ {a : Addr} {u : Value}, wi.cell? a = some u → a.block ≠ lim + 1 + 1 → (a.block = lim ∨ a.block = lim + 1) → w7.cell? a = some u := fun {a u} h hne hne2 =>
    hg7.cell (Proofs.Ytbgafimiodfkaaa.carry (alloc_below w6 o) (Proofs.Ytbgafimiodfkaaa.carry hb56 (hg5.cell h (fun e => hne (Option.some.inj e))))) (hno _ (by omega))
  have hr6 := (hrg5.kept g56 (by simp) (by simp)).alloc o
  refine ⟨_, cnt5, ps ++ [pr i j], hr6.kept hg7 (hno B (Or.inl h4)) (hno _ (by omega)), ?_, fun q hq => ?_, hRd.hit hi hli hj ho (strike_iff left i),
    (((hG.andThen hg5 (fun q hq => ?_)).andThen g56 (fun q hq => by cases hq)).andThen (World.grownBy_alloc w6 o none) (fun q hq => by cases hq)).andThen hg7 (fun q hq => ?_), ?_,
    cc r1 (by simp only; omega) (Or.inl rfl), cc b0 (by simp only; omega) (Or.inr rfl), cc b1 (by simp only; omega) (Or.inr rfl), cc b2 (by simp only; omega) (Or.inr rfl), cc b3 (by simp only; omega) (Or.inr rfl)⟩
  · rw [List.length_append, List.flatMap_append, List.length_singleton, List.flatMap_singleton, ← hxs]
    exact hown7
  · rcases hloc7 with h | h
    · exact hloc q (h ▸ hq)
    · rw [h] at hq
      have e := Option.some.inj hq
      rw [World.size_alloc] at e
      omega
  · cases hq; exact Or.inl (by omega)
  · exact Or.inl (by have := (hown.lt q hq).1; omega)
  · have := hg7.size; rw [World.size_alloc] at this; omega
theorem enc_pr (i j : Nat) : [Value.int .i64 (min (i : Int) (j : Int)), .int .i64 (max (i : Int) (j : Int))] = encPr (pr i j) := by
  unfold encPr pr
  rw [show ((min i j : Nat) : Int) = min (i : Int) (j : Int) by omega, show ((max i j : Nat) : Int) = max (i : Int) (j : Int) by omega]
theorem overlapY (a b : Bx) (h : Ov a b) (w : World) :
    Calls Try.prog 11 #[.agg #[.int .i64 a.x0, .int .i64 a.y0, .int .i64 a.x1, .int .i64 a.y1], .agg #[.int .i64 b.x0, .int .i64 b.y0, .int .i64 b.x1, .int .i64 b.y1]] w fun e w' =>
      e = .returned (.bool true) ∧ Below w.heap.size w w' := by
  have := overlap_any a b w
  rw [ov_true h] at this
  exact this
theorem overlapN (a b : Bx) (h : ¬ Ov a b) (w : World) :
    Calls Try.prog 11 #[.agg #[.int .i64 a.x0, .int .i64 a.y0, .int .i64 a.x1, .int .i64 a.y1], .agg #[.int .i64 b.x0, .int .i64 b.y0, .int .i64 b.x1, .int .i64 b.y1]] w fun e w' =>
      e = .returned (.bool false) ∧ Below w.heap.size w w' := by
  have := overlap_any a b w
  rw [ov_false h] at this
  exact this

set_option maxRecDepth 100000 in
set_option maxHeartbeats 8000000 in
theorem pairsN_any (g off cap : Nat) (bs : List Bx) (w : World) (hR : RowK Bx.cells w g off cap bs) (hn : 1 ≤ bs.length) (hn2 : bs.length ≤ 1000) :
    Calls Try.prog 16 #[.slice (some ⟨g, off, none⟩) bs.length cap] w fun e w' => PairsPost bs w.heap.size e w' ∧ Below w.heap.size w w' := by
  obtain ⟨i0, hi0, hz0, hz1, hz2⟩ := info_parts infoPr
  have hcap := hR.le
  have hmax := hR.max
  unfold maxLen at hmax
  have hR' := Lib.hid hR
  have hi0' := Lib.hid hi0; clear hi0
  have hz0' := Lib.hid hz0; clear hz0
  have hz1' := Lib.hid hz1; clear hz1
  have hz2' := Lib.hid hz2; clear hz2
  have hmm := @run_makeMap Try.prog
  have hsq := sq_le hn2
  go_enter Try.func16, Try.ntmps16
  go_wp2_with fail
  refine (endPoints_any _ bs _ (Or.inr ⟨g, off, cap, rfl, hR'.out.carry (alloc_below _ _)⟩) hn2).mono ?_
  rintro e w2 ⟨⟨vp, pl, rfl, h1, h2, h3⟩, hb2⟩
  have hlen : pl.length = 2 * bs.length := by rw [h1.length_eq, pts_length]
  rcases owned_row h3 with ⟨rfl, rfl⟩ | ⟨gp, capp, rfl, hgp, hgl, hRp, _⟩
  · simp at hlen; omega
  have hplm : ∀ q ∈ pl, q.box < bs.length ∧ (q = lef bs q.box ∨ q = rig bs q.box) := fun q hq => mem_pts.1 (h1.mem_iff.1 hq)
  have hnd : pl.Nodup := h1.nodup_iff.2 (pts_nodup bs _)
  have hbw2 := Lib.hid (below_step (alloc_below w _) hb2)
  have hmap0 := (World.ownsMap_made w Try.prog 3 boxElem).kept (grown_of_below hb2 none) (by simp)
  have hsz2 : w.heap.size + 1 ≤ w2.heap.size := by have := hb2.size; simp at this; exact this
  have hgpB : w.heap.size < gp := by simp at hgp; omega
  have hRp' := Lib.hid hRp
  have hpl := Lib.hid (And.intro h1 (And.intro h2 (And.intro hplm hnd)))
  have hlen' := Lib.hid hlen
  have hll : pl.length ≤ 2000 := by omega
  clear h1 h2 h3 hRp hplm hnd hlen hR hb2 hgp
  go_wp2_with fail
  go_loopw [3, 14] (fun v i wr => ∃ k : Nat, k ≤ pl.length ∧ i = .int .i64 k ∧ Sweep bs pl w.heap.size w2.heap.size w2 k v wr) (fun _ i _ => pl.length - (intOf i).toNat)
  case atStart => exact ⟨0, Nat.zero_le _, rfl, [], _, _, World.ownsRow_nil _ _ _ _, Swept.start bs, Active.start bs, MapIs.start bs, hmap0, World.grownBy.refl _ _⟩
  case round =>
    obtain ⟨k, hk, rfl, ps, act, D, hown, hSw, hAc, hMp, hmap, hG⟩ := hrel
    have hSw' := Lib.hid hSw
    have hAc' := Lib.hid hAc
    have hMp' := Lib.hid hMp
    clear hSw hAc hMp hmap0
    by_cases hlt : k < pl.length
    · obtain ⟨p, hp⟩ : ∃ p, pl[k]? = some p := ⟨_, List.getElem?_eq_getElem hlt⟩
      have hpm := hpl.out.2.2.1 p (List.mem_of_getElem? hp)
      have cell := fun (c : Nat) (u : Value) (hu : p.cells[c]? = some u) => hG.cell (hRp'.out.at pt_len hp hu) (by simp; omega)
      have q0 := cell 0 _ rfl
      have q1 := cell 1 _ rfl
      have q2 := cell 2 _ rfl
      simp only [Nat.zero_add, Nat.add_zero] at q0 q1 q2
      clear cell
      have htk := Lib.hid (take_succ' hp)
      have hjb := hpm.1
      have hbw : Below w.heap.size w wr := hbw2.out.grown hG (by omega) (fun j hj => by cases hj; exact Nat.le_refl _)
      have hbw' := Lib.hid hbw
      have hws := hG.size
      rcases hpm.2 with hpe | hpe
      · -- A LEFT END
        have hrt : p.right = false := by rw [hpe]; rfl
        have hpe' := Lib.hid hpe
        obtain ⟨c0, c1, c2, c3⟩ := row_box (hR'.out.carry hbw) hjb
        rw [hrt] at q2
        have hah := Lib.hid (ahead_of hp hpl.out.2.2.2 (hpl.out.2.1.imp fun h => by omega))
        clear hrt hpe hpm hp
        generalize p.x = PX at *
        generalize p.box = j at *
        have hbx' : (j : Int) < (bs.length : Int) := by omega
        obtain ⟨wo, hwo⟩ : ∃ wo : World, wo = wr := ⟨_, rfl⟩
        subst hwo
        have hgw : g < wo.heap.size := block_lt_of_cell c0
        go_wp2_with (at_range; refine wpList_range_own _ rfl _ 46 rfl 3 23 keyLaw Try.underlying46 boxElem w.heap.size k D rfl ((hmap.alloc _).alloc _) ?_; intro w4 hrg4 hg4 hs4; go_frame)
        have e1 : ((wo.alloc (.cells #[.int .i64 PX, .int .i64 (j : Int), .bool false] 50)).alloc (.cells #[.int .i64 (at' bs j).x0, .int .i64 (at' bs j).y0, .int .i64 (at' bs j).x1, .int .i64 (at' bs j).y1] 23)).heap.size = wo.heap.size + 1 + 1 := by simp
        rw [e1] at hrg4 hs4
        have y1 := hg4.cell (a := ⟨wo.heap.size, 1, none⟩) (v := .int .i64 (j : Int)) (by simp [go_sem]) (by simp)
        have z0 := hg4.cell (a := ⟨wo.heap.size + 1, 0, none⟩) (v := .int .i64 (at' bs j).x0) (by simp [go_sem]) (by simp)
        have z1 := hg4.cell (a := ⟨wo.heap.size + 1, 1, none⟩) (v := .int .i64 (at' bs j).y0) (by simp [go_sem]) (by simp)
        have z2 := hg4.cell (a := ⟨wo.heap.size + 1, 2, none⟩) (v := .int .i64 (at' bs j).x1) (by simp [go_sem]) (by simp)
        have z3 := hg4.cell (a := ⟨wo.heap.size + 1, 3, none⟩) (v := .int .i64 (at' bs j).y1) (by simp [go_sem]) (by simp)
        have hG4 := ((hG.andThen (World.grownBy_alloc wo _ none) (fun j hj => by cases hj)).andThen (World.grownBy_alloc _ _ none) (fun j hj => by cases hj)).andThen hg4 (fun j hj => by cases hj)
        have hown4 := ownsRow_below ((hown.alloc _).alloc _) ⟨hg4.os, hg4.tape, hg4.output, hg4.size, fun i hi => hg4.block i hi (by simp)⟩
        have hl0 : ∀ q, Value.ownBlock _ = some q → q < wo.heap.size ∨ wo.heap.size + 3 ≤ q := fun q hq => Or.inl (hown.lt q hq).2
        have hall := Lib.hid (And.intro hG4 (And.intro hown4 hl0))
        clear hG4 hown4 hl0 hown hmap q0 q1 q2 c0 c1 c2 c3 hg4 e1 hbw
        have hG' := Lib.hid hG
        clear hG
        go_loopw [3] (fun v wi => Inner bs (pl.take k) act j w.heap.size w2.heap.size wo.heap.size k D w2 v wi) (fun _ wi => wi.rangeLeft w.heap.size (wo.heap.size + 1 + 1))
        case atStart => exact ⟨_, _, ps, hrg4, hall.out.2.1, hall.out.2.2, Round.start hSw'.out _ (fun i hi => (hMp'.out.box i hi).1), hall.out.1, by omega, y1, z0, z1, z2, z3⟩
        case round =>
          obtain ⟨left, cnt, ps1, hrg, hown, hloc, hRd, hG, hsz, r1, b0, b1, b2, b3⟩ := hrel
          clear y1 z0 z1 z2 z3 hrg4 hs4 hall
          have hRd' := Lib.hid hRd
          clear hRd
          go_wp2_with (at_next; refine next_box rfl _ rfl bs act w.heap.size (wo.heap.size + 1 + 1) k D hMp'.out left cnt rfl hrg ?_ ?_)
          · intro _ hl0
            have hl0' := Lib.hid hl0
            clear hl0
            go_wp2_with (at_mapUpdate; refine wpList_mapUpdate_own _ rfl _ _ _ 46 rfl 3 23 keyLaw Try.underlying46 boxElem w.heap.size k D rfl hrg.owns (by unfold maxLen; omega) _ _ _ rfl rfl (kb_of j (by omega)) _ [] (boxElem_mk _ _ _ _) ?_; intro w5 hmap5 hg5; go_frame)
            go_roundw
            case rel =>
              have hnot : ¬ Bo.Met bs (pl.take k) j := by have := hah.out.1; rw [hpe'.out] at this; exact this
              refine ⟨k + 1, by omega, by go_num, ps1, _, _, ownsRow_past hown hg5 (by omega), ?_, ?_, hMp'.out.put hrg.owns.isMap j, hmap5, hG.andThen hg5 (fun j hj => by cases hj; exact Or.inr rfl)⟩
              · rw [htk.out, hpe'.out]; exact hRd'.out.done hAc'.out (fun i h => by rw [hl0'.out i] at h; cases h) hnot (fun q hq => by have := hah.out.2 q hq; rw [hpe'.out] at this; omega)
              · rw [htk.out, hpe'.out]; exact hAc'.out.left j
            case measure => simp [intOf]; omega
          · intro i w5 cnt5 hi hli hrg5 hlt5 hg5 hen
            have hnot : ¬ Bo.Met bs (pl.take k) j := by have := hah.out.1; rw [hpe'.out] at this; exact this
            have hij : i ≠ j := fun e => hnot (e ▸ hAc'.out.met i hi)
            have hlen1 := round_len hRd'.out hAc'.out (fun q hq => (hpl.out.2.2.1 q (List.mem_of_mem_take hq)).1) hjb
            have r5 := hg5.cell r1 (by simp only [ne_eq, Option.some.injEq]; omega)
            have d0 := hg5.cell b0 (by simp only [ne_eq, Option.some.injEq]; omega)
            have d1 := hg5.cell b1 (by simp only [ne_eq, Option.some.injEq]; omega)
            have d2 := hg5.cell b2 (by simp only [ne_eq, Option.some.injEq]; omega)
            have d3 := hg5.cell b3 (by simp only [ne_eq, Option.some.injEq]; omega)
            have hs5 := hg5.size
            have hq0 : wo.heap.size < w5.heap.size := by omega
            have hq1 : wo.heap.size + 1 < w5.heap.size := by omega
            have hold := Lib.hid (And.intro r1 (And.intro b0 (And.intro b1 (And.intro b2 b3))))
            have hit := Lib.hid (And.intro hi (And.intro hli hnot))
            clear r1 b0 b1 b2 b3 hi hli hnot
            by_cases ho : Ov (at' bs j) (at' bs i)
            · have hov := Lib.hid (overlapY _ _ ho)
              have ho' := Lib.hid ho
              clear ho
              go_wp2_with fail
              refine (hov.out _).mono ?_
              rintro e w6 ⟨rfl, hb6⟩
              have hb56 := below_step (alloc_below w5 _) hb6
              have r6 := carry hb56 r5
              have hs6 := hb56.size
              have hq6 : wo.heap.size < w6.heap.size := by omega
              have hown6 := ownsRow_below (hown.kept hg5 (Or.inr fun e => by have := hloc _ e; omega)) hb56
              have hno := Lib.hid (not_own hown hloc)
              clear hb6 r5 d0 d1 d2 d3 hen
              go_wp2_with (at_builtin; refine wpList_append_own_at _ rfl _ _ 31 rfl w2.heap.size 39 i0 _ 2 16 Try.underlying31 hi0'.out hz0'.out hz1'.out hz2'.out rfl (by decide) _ _ _ rfl (hown6.alloc _) ⟨w6.heap.size, 0, none⟩ 1 1 [.int .i64 (min (i : Int) (j : Int)), .int .i64 (max (i : Int) (j : Int))] rfl rfl (new_cells _ _ _ _ rfl) (two_one _ _) (by unfold maxLen; omega) (by omega) (by simp; omega) ?_; intro v' w7 hown7 hg7 _ hloc7)
              have hr7 := ((hrg5.kept (grown_of_below hb56 none) (by simp) (by simp)).alloc _).kept hg7 (hno.out _ (by omega)) (hno.out _ (by omega))
              go_wp2_with fail
              go_roundw
              case rel => exact inner_hit hown hloc hRd'.out hG hsz hold.out.1 hold.out.2.1 hold.out.2.2.1 hold.out.2.2.2.1 hold.out.2.2.2.2 hws hws (by omega) (Nat.le_refl _) hrg5 hg5 hb56 ho'.out hit.out.1 hit.out.2.1 hit.out.2.2 hown7 (enc_pr i j) hg7 hloc7
              case measure => rw [hr7.left_eq, hrg.left_eq]; omega
            · have hov := Lib.hid (overlapN _ _ ho)
              have ho' := Lib.hid ho
              clear ho
              go_wp2_with fail
              refine (hov.out _).mono ?_
              rintro e w6 ⟨rfl, hb6⟩
              have hb56 := below_step (alloc_below w5 _) hb6
              go_wp2_with fail
              go_roundw
              case rel => exact inner_skip hown hloc hRd'.out hG hsz hold.out.1 hold.out.2.1 hold.out.2.2.1 hold.out.2.2.2.1 hold.out.2.2.2.2 hws hrg5 hg5 hb56 ho'.out
              case measure => rw [(hrg5.kept (grown_of_below hb56 none) (by simp) (by simp)).left_eq, hrg.left_eq]; omega
      · -- A RIGHT END
        have hrt : p.right = true := by rw [hpe]; rfl
        rw [hrt] at q2
        have hpe' := Lib.hid hpe
        clear hrt hpe hpm hp
        generalize p.x = PX at *
        generalize p.box = j at *
        go_wp2_with (at_delete; refine wpList_delete_own _ rfl _ _ 46 3 rfl 23 keyLaw Try.underlying46 boxElem w.heap.size k D rfl (hmap.alloc _) _ _ rfl (kb_of j (by omega)) ?_; intro w3 hmap3 hturn3; go_frame)
        have hG3 := (hG.andThen (World.grownBy_alloc wr _ none) (fun j hj => by cases hj)).andThen hturn3.grown (fun j hj => by cases hj; exact Or.inr rfl)
        have hown3 := ownsRow_past (hown.alloc (.cells #[.int .i64 PX, .int .i64 (j : Int), .bool true] 50)) hturn3.grown (by omega)
        go_roundw
        case rel =>
          refine ⟨k + 1, by omega, by go_num, ps, _, _, hown3, ?_, ?_, hMp'.out.del j, hmap3.mono (Nat.le_succ _), hG3⟩
          · rw [htk.out, hpe'.out]; exact hSw'.out.right j
          · rw [htk.out, hpe'.out]; exact hAc'.out.right j
        case measure => simp [intOf]; omega
    · obtain rfl : k = pl.length := by omega
      have hpp := hpl.out
      have hbx : ∀ q ∈ pl, q.box < bs.length := fun q hq => (hpp.2.2.1 q hq).1
      have hsw := hSw'.out
      rw [List.take_length] at hsw
      have hlen2 := swept_len hsw hbx
      have hbw : Below w.heap.size w wr := hbw2.out.grown hG (by omega) (fun j hj => by cases hj; exact Nat.le_refl _)
      have hbw' := Lib.hid hbw
      have hS := Lib.hid (sortPr_any _ ps wr hown (by omega))
      have hsw' := Lib.hid hsw
      have hpp' := Lib.hid hpp
      clear hsw hpp hbx hbw hlt hmap
      go_wp2_with fail
      refine hS.out.mono ?_
      rintro e w3 ⟨rfl, l, k1, k2, k3, k4⟩
      have hl : l = pairs bs := sorted_is hsw'.out.nodup (hsw'.out.all hpp'.out.1) k1 (k2.imp fun h => by omega)
      have k3' := Lib.hid k3
      have hl' := Lib.hid hl
      clear k1 k2 k3 hl
      go_wp2
      go_ret
      exact ⟨⟨_, rfl, by rw [← hl'.out]; exact ownsRow_base k3'.out (by omega)⟩, hbw'.out.trans (k4.mono (by omega))⟩
set_option maxRecDepth 100000 in
set_option maxHeartbeats 4000000 in
theorem pairsE_any (a : Option Addr) (cap : Nat) (w : World) :
    Calls Try.prog 16 #[.slice a 0 cap] w fun e w' => PairsPost [] w.heap.size e w' ∧ Below w.heap.size w w' := by
  have hmm := @run_makeMap Try.prog
  go_enter Try.func16, Try.ntmps16
  go_wp2_with fail
  refine (endPoints_any _ [] _ (Or.inl ⟨rfl, a, cap, rfl⟩) (by simp)).mono ?_
  rintro e w2 ⟨⟨vp, pl, rfl, h1, h2, h3⟩, hb2⟩
  obtain rfl : pl = [] := List.Perm.eq_nil h1
  have hb := Lib.hid (below_step (alloc_below w _) hb2)
  have hsz2 : w.heap.size ≤ w2.heap.size := hb.out.size
  have hS := Lib.hid (sortPr_any (base := w.heap.size) (.slice none 0 0) [] w2 (World.ownsRow_nil _ _ _ _) (by simp))
  rcases owned_row h3 with ⟨rfl, _⟩ | ⟨gp, capp, rfl, hgp, hgl, hRp, _⟩
  all_goals
    clear h1 h2 h3 hb2
    go_wp2_with fail
    refine wp_loop_rounds 1 ?_
    rw [rounds_succ]
    go_wp2_with fail
    refine hS.out.mono ?_
    rintro e w3 ⟨rfl, l, k1, k2, k3, k4⟩
    obtain rfl : l = [] := List.Perm.eq_nil k1
    have k3' := Lib.hid k3
    clear k1 k2 k3
    go_wp2
    go_ret
    exact ⟨⟨_, rfl, k3'.out⟩, hb.out.trans k4⟩

theorem pairs_any (v : Value) (bs : List Bx) (w : World) (hv : BoxesAt w v bs) (hn : bs.length ≤ 1000) :
    Calls Try.prog 16 #[v] w fun e w' => PairsPost bs w.heap.size e w' ∧ Below w.heap.size w w' := by
  rcases hv with ⟨rfl, a, cap, rfl⟩ | ⟨g, off, cap, rfl, hR⟩
  · exact pairsE_any a cap w
  · by_cases h : bs.length = 0
    · have e := List.length_eq_zero_iff.1 h
      subst e
      exact pairsE_any _ cap w
    · exact pairsN_any g off cap bs w hR (by omega) hn
end Go.Proofs.Ytbgafimiodfkaaa
