/- The two closures that package broadphase hands to the sort. -/
import Derived.Test.YtbgafimiodfkaaaBroad
import Derived.Sort.Grow
namespace Go.Proofs.Ytbgafimiodfkaaa
open Go.ChangeShapes Go.WideShapes Go.ChangeAt Go.RowKit Go.Sort
open Bo
set_option linter.unusedSimpArgs false
set_option linter.unusedVariables false

theorem wp_region_tail_drawn {P : Program} {id : Nat} {Q : Exit → Act → World → Prop} {a : Act} {w : World} {l : List Oper} (n : Nat) (hm : P.follows .mixedOrders = true) (hB : Region.lexTailB .any l.toArray n = true)
    (h : wpQuiet P l.toArray (fun w' => ∃ k, w' = w.drewN k) (fun a' => ∀ w', (∃ k, w' = w.drewN k) → wpList P l.toArray Q (l.drop n) a' w') (l.take n) a) : (Code.region id l.toArray true).wp P Q a w :=
  wp_region_head (C := fun w' => ∃ k, w' = w.drewN k) n hm hB ⟨1, rfl⟩ h
theorem met_quiet {P : Program} {f : FuncId} {args : Array Value} {w : World} {n : Nat} {v : Value}
    (h : Calls P f args (w.drewN n) fun e w' => e = .returned v ∧ w.drewN n = w') : Calls P f args (w.drewN n) fun e w'' => e = .returned v ∧ ∃ m, w'' = w.drewN m :=
  h.mono fun _ _ ⟨he, hm⟩ => ⟨he, n, hm.symm⟩

theorem grow3 (W : World) (a b c : Obj) (k : Nat) : (((W.alloc a).alloc b).drewN k).alloc c = grow (W.drewN k) #[a, b, c] := by
  rw [alloc_eq_grow, alloc_eq_grow, alloc_eq_grow, grow_grow]
  show grow (grow (W.drewN k) _) _ = _
  rw [grow_grow]; rfl
theorem grow2 (W : World) (a b : Obj) : (W.alloc a).alloc b = grow (W.drewN 0) #[a, b] := by
  rw [alloc_eq_grow, alloc_eq_grow, grow_grow]; rfl
theorem or2_cmp (p q : Nat × Nat) : or2 (cmpI p.1 q.1) (cmpI p.2 q.2) = cmpPr p q := by
  unfold or2 cmpI cmpPr
  (repeat' split) <;> omega

set_option maxHeartbeats 4000000 in
theorem closurePr (p q : Nat × Nat) (W : World) :
    Calls Try.prog 27 #[.agg #[.int .i64 p.1, .int .i64 p.2], .agg #[.int .i64 q.1, .int .i64 q.2]] W fun e w' =>
      e = .returned (.int .i64 (cmpPr p q)) ∧ ∃ n os', w' = grow (W.drewN n) os' := by
  obtain ⟨p1, p2⟩ := p
  obtain ⟨q1, q2⟩ := q
  have ho := Lib.hid (or2_cmp (p1, p2) (q1, q2))
  rw [← ho.out]
  simp only at ho ⊢
  have k1 := fun w => compare_any (p1 : Int) (q1 : Int) w
  have k2 := fun w => compare_any (p2 : Int) (q2 : Int) w
  generalize cmpI (p1 : Int) (q1 : Int) = x at *
  generalize cmpI (p2 : Int) (q2 : Int) = y at *
  generalize (p1 : Int) = P1 at *
  generalize (p2 : Int) = P2 at *
  generalize (q1 : Int) = Q1 at *
  generalize (q2 : Int) = Q2 at *
  have hk := Lib.hid (And.intro k1 k2)
  clear k1 k2 ho
  go_enter Try.func27, Try.ntmps27
  go_wp2_with fail
  refine wp_region_tail_drawn 10 (by kernel_rfl) (by kernel_rfl) ?_
  simp only [List.take_succ_cons, List.take_zero, List.drop_succ_cons, List.drop_zero]
  repeat (go_big_quiet_step ((first | (go_at_call 29; with_reducible exact met_quiet (hk.out.1 _)) | (go_at_call 29; with_reducible exact met_quiet (hk.out.2 _)))))
  refine wpQuiet_nil ?_
  intro _ hw'
  obtain ⟨n, hw''⟩ := hw'
  subst hw''
  go_wp2_with fail
  refine (or_any _ 2 x y _ (by omega) (by simp [go_sem]) (by simp [go_sem])).mono ?_
  rintro e w' ⟨rfl, rfl⟩
  go_wp2
  go_ret
  exact ⟨rfl, n, _, grow3 W _ _ _ n⟩

set_option maxHeartbeats 4000000 in
theorem closurePt (p q : Pt) (W : World) :
    Calls Try.prog 31 #[.agg #[.int .i64 p.x, .int .i64 p.box, .bool p.right], .agg #[.int .i64 q.x, .int .i64 q.box, .bool q.right]] W fun e w' =>
      e = .returned (.int .i64 (cmpPt p q)) ∧ ∃ n os', w' = grow (W.drewN n) os' := by
  obtain ⟨px, pb, pr⟩ := p
  obtain ⟨qx, qb, qr⟩ := q
  simp only
  generalize (pb : Int) = PB at *
  generalize (qb : Int) = QB at *
  by_cases h : px = qx
  · subst h
    have b1 : (px != px) = false := by simp
    have E : cmpPt ⟨px, pb, pr⟩ ⟨px, qb, qr⟩ = (match pr, qr with | true, false => 1 | false, true => -1 | _, _ => 0) := by cases pr <;> cases qr <;> simp [cmpPt]
    cases pr <;> cases qr
    all_goals
      have hE := Lib.hid E
      clear E
      go_enter Try.func31, Try.ntmps31
      go_wp2
      go_ret
      exact ⟨by rw [hE.out]; first | done | rfl, 0, _, grow2 W _ _⟩
  · have b1 : (px != qx) = true := by simpa using h
    have E : cmpPt ⟨px, pb, pr⟩ ⟨qx, qb, qr⟩ = cmpI px qx := by unfold cmpPt; rw [if_pos (by simpa using h)]
    have hE := Lib.hid E
    clear E
    have k1 := fun w => compare_any px qx w
    generalize cmpI px qx = x at *
    have hk := Lib.hid k1
    clear k1
    go_enter Try.func31, Try.ntmps31
    go_wp2_with fail
    refine (hk.out _).mono ?_
    rintro e w' ⟨rfl, rfl⟩
    go_wp2
    go_ret
    exact ⟨by rw [hE.out]; first | done | rfl, 0, _, grow2 W _ _⟩
end Go.Proofs.Ytbgafimiodfkaaa
