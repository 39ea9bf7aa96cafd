/- Package resolve: the methods of the body that is being changed, and what they leave. -/
import Derived.Test.YtihoanoanoaneaaResM
import Derived.WalkLawsBesides
import Derived.Deep.DeepCutAuto
import Derived.Deep.CutBlock
import Derived.Laws.EntriesVeiled
namespace Go.Proofs.Ytihoanoanoaneaa
open Go.ChangeShapes Go.WideShapes Go.ChangeAt Go.RowKit
open Fxm
set_option linter.unusedSimpArgs false
set_option linter.unusedVariables false

/-- The blocks of w outside S are in w' as they were. -/
structure Turn (S : Nat → Prop) (w w' : World) : Prop where
  os : w'.os = w.os
  tape : w'.tape = w.tape
  output : w'.output = w.output
  size : w.heap.size ≤ w'.heap.size
  block : ∀ i, i < w.heap.size → ¬ S i → w'.heap[i]? = w.heap[i]?
theorem Turn.of_below {S : Nat → Prop} {w w' : World} (h : Below w.heap.size w w') : Turn S w w' := ⟨h.os, h.tape, h.output, h.size, fun i hi _ => h.block i hi⟩
theorem Turn.trans {S : Nat → Prop} {a b c : World} (h : Turn S a b) (k : Turn S b c) : Turn S a c :=
  ⟨k.os.trans h.os, k.tape.trans h.tape, k.output.trans h.output, Nat.le_trans h.size k.size, fun i hi hs => (k.block i (Nat.lt_of_lt_of_le hi h.size) hs).trans (h.block i hi hs)⟩
theorem Turn.mono {S T : Nat → Prop} {w w' : World} (h : Turn S w w') (hs : ∀ i, S i → T i) : Turn T w w' := ⟨h.os, h.tape, h.output, h.size, fun i hi hn => h.block i hi (fun k => hn (hs i k))⟩
theorem Turn.set {S : Nat → Prop} {w w' : World} (h : Turn S w w') {p : Addr} (hp : S p.block) (v : Value) : Turn S w (w'.setCell p v) :=
  h.trans ⟨rfl, rfl, rfl, by simp [World.setCell], fun i _ hs => Below.heap_setCell _ _ _ _ (fun e => hs (e ▸ hp))⟩
theorem Turn.below {S : Nat → Prop} {w w' : World} {B : Nat} (h : Turn S w w') (hs : ∀ i, S i → B ≤ i) (hB : B ≤ w.heap.size) : Below B w w' :=
  ⟨h.os, h.tape, h.output, h.size, fun k hk => h.block k (by omega) (fun s => by have := hs k s; omega)⟩
theorem Turn.at {S : Nat → Prop} {w w' : World} {k : Nat} {o : Obj} (h : Turn S w w') (hk : w.heap[k]? = some o) (hs : ¬ S k) : w'.heap[k]? = some o := (h.block k (hlt hk) hs).trans hk

/-- A call that hands nothing back. -/
def done : Ending := .returned (.tuple #[])

theorem accel_any (k : Nat) (a : Mo) (x y : Int) (w : World) (hk : w.heap[k]? = some (motO 48 a)) (ha0 : Bd a.v0) (ha1 : Bd a.v1) (hx : Bd x) (hy : Bd y) :
    Calls Try.prog 29 #[.pointer (some ⟨k, 0, none⟩), .agg #[.int .i64 x, .int .i64 y]] w fun e w' => e = .returned (.tuple #[]) ∧ w'.heap[k]? = some (motO 48 { a with v0 := a.v0 + x, v1 := a.v1 + y }) ∧ Turn (· = k) w w' := by
  have hB := alloc_below w (vecO 24 x y)
  have r := hcarry hB hk
  obtain ⟨c0, c1, c2, c3, c4⟩ := mo_cells r
  have cf := mo_frozen r
  obtain ⟨x0, x1⟩ := vec_cells (new_at w (vecO 24 x y))
  have hl := hlt r
  obtain ⟨V, hV⟩ : ∃ V, V = w.alloc (vecO 24 x y) := ⟨_, rfl⟩
  rw [← hV] at hB r c0 c1 c2 c3 c4 cf x0 x1 hl
  have r' := Lib.hid r
  have hB' := Lib.hid hB
  have hk' := Lib.hid hk
  clear r hB hk c0 c1 c4 cf
  have hV' := Lib.hid hV
  clear hV
  go_enter Try.func29, Try.ntmps29
  go_upto_region 1 with fail
  rw [show w.alloc (.cells #[.int .i64 x, .int .i64 y] 24) = V from hV'.out.symm]
  refine wp_region_tail 11 (by kernel_rfl) (by kernel_rfl) ?_
  intro W hK
  have g_c2 := fun x => carry ((hK.below x)) c2
  have g_c3 := fun x => carry ((hK.below x)) c3
  have g_x0 := fun x => carry ((hK.below x)) x0
  have g_x1 := fun x => carry ((hK.below x)) x1
  simp only [List.take_succ_cons, List.take_zero, List.drop_succ_cons, List.drop_zero]
  repeat (go_big_quiet_step ((go_at_call 18; with_reducible exact met_made (add_any _ _ _ _ _ ha0 ha1 hx hy))))
  refine wpQuiet_nil ?_
  intro wq hw'
  have hbq := kept_in hK hw'
  clear g_c2 g_c3 g_x0 g_x1
  clear hw' hK W
  replace c2 := carry (hbq) c2
  replace c3 := carry (hbq) c3
  replace x0 := carry (hbq) x0
  replace x1 := carry (hbq) x1
  have r2 := Lib.hid (hcarry hbq r'.out)
  have cf := mo_frozen r2.out
  clear x0 x1
  go_wp2
  go_end0
  exact ⟨rfl, mo_vel r2.out _ _, ((Turn.of_below (S := (· = k)) (below_step hB'.out hbq)).set (p := ⟨k, 2, none⟩) rfl _).set (p := ⟨k, 3, none⟩) rfl _⟩

theorem shift_any (k : Nat) (a : Mo) (x y : Int) (w : World) (hk : w.heap[k]? = some (motO 48 a)) (ha0 : Bd a.p0) (ha1 : Bd a.p1) (hx : Bd x) (hy : Bd y) :
    Calls Try.prog 30 #[.pointer (some ⟨k, 0, none⟩), .agg #[.int .i64 x, .int .i64 y]] w fun e w' => e = .returned (.tuple #[]) ∧ w'.heap[k]? = some (motO 48 { a with p0 := a.p0 + x, p1 := a.p1 + y }) ∧ Turn (· = k) w w' := by
  have hB := alloc_below w (vecO 24 x y)
  have r := hcarry hB hk
  obtain ⟨c0, c1, c2, c3, c4⟩ := mo_cells r
  have cf := mo_frozen r
  obtain ⟨x0, x1⟩ := vec_cells (new_at w (vecO 24 x y))
  have hl := hlt r
  obtain ⟨V, hV⟩ : ∃ V, V = w.alloc (vecO 24 x y) := ⟨_, rfl⟩
  rw [← hV] at hB r c0 c1 c2 c3 c4 cf x0 x1 hl
  have r' := Lib.hid r
  have hB' := Lib.hid hB
  have hk' := Lib.hid hk
  clear r hB hk c2 c3 c4 cf
  have hV' := Lib.hid hV
  clear hV
  go_enter Try.func30, Try.ntmps30
  go_upto_region 1 with fail
  rw [show w.alloc (.cells #[.int .i64 x, .int .i64 y] 24) = V from hV'.out.symm]
  refine wp_region_tail 11 (by kernel_rfl) (by kernel_rfl) ?_
  intro W hK
  have g_c0 := fun x => carry ((hK.below x)) c0
  have g_c1 := fun x => carry ((hK.below x)) c1
  have g_x0 := fun x => carry ((hK.below x)) x0
  have g_x1 := fun x => carry ((hK.below x)) x1
  simp only [List.take_succ_cons, List.take_zero, List.drop_succ_cons, List.drop_zero]
  repeat (go_big_quiet_step ((go_at_call 18; with_reducible exact met_made (add_any _ _ _ _ _ ha0 ha1 hx hy))))
  refine wpQuiet_nil ?_
  intro wq hw'
  have hbq := kept_in hK hw'
  clear g_c0 g_c1 g_x0 g_x1
  clear hw' hK W
  replace c0 := carry (hbq) c0
  replace c1 := carry (hbq) c1
  replace x0 := carry (hbq) x0
  replace x1 := carry (hbq) x1
  have r2 := Lib.hid (hcarry hbq r'.out)
  have cf := mo_frozen r2.out
  clear x0 x1
  go_wp2
  go_end0
  exact ⟨rfl, mo_pos r2.out _ _, ((Turn.of_below (S := (· = k)) (below_step hB'.out hbq)).set (p := ⟨k, 0, none⟩) rfl _).set (p := ⟨k, 1, none⟩) rfl _⟩

theorem clampTo_any (x y m : Int) (w : World) (hm : -1048576 ≤ m ∧ m ≤ 1048576) :
    Calls Try.prog 45 #[.agg #[.int .i64 x, .int .i64 y], .int .i64 m] w fun e w' => e = .returned (.agg #[.int .i64 (clampV x (-m) m), .int .i64 (clampV y (-m) m)]) ∧ Below w.heap.size w w' := by
  go_enter Try.func45, Try.ntmps45
  go_wp2
  refine wp_region_tail 13 (by kernel_rfl) (by kernel_rfl) ?_
  intro W hK
  obtain ⟨hc, hf, hz, hb⟩ := hK
  simp only [List.take_succ_cons, List.take_zero, List.drop_succ_cons, List.drop_zero]
  repeat (go_big_quiet_step ((go_at_call 51; with_reducible exact met_same (clamp_any _ _ _ _))))
  refine wpQuiet_nil ?_
  intro _ hw'
  obtain ⟨xq, hw''⟩ := hw'
  subst hw''
  go_wp2
  refine bodyPost_ret (v := .agg #[.int .i64 (clampV x (-m) m), .int .i64 (clampV y (-m) m)]) (by simp [results, Try.results45, go_sem, hc, hf]) rfl ⟨rfl, ?_⟩
  repeat (first | exact Below.refl _ _ | (refine Below.setCell ?_ (by first | (simp; done) | (simp; omega) | omega) _) | (refine Below.alloc ?_ (by first | exact Nat.le_refl _ | (simp; done) | (simp; omega) | omega) _) | refine Below.drew ?_ | (refine Below.trans ?_ ((hb _).mono (by first | (simp; done) | (simp; omega) | omega))) | (refine Below.trans ?_ (hb1.mono (by first | (simp; done) | (simp; omega) | omega))))

theorem clampB_any (k : Nat) (a : Mo) (w : World) (hk : w.heap[k]? = some (motO 48 a)) :
    Calls Try.prog 31 #[.pointer (some ⟨k, 0, none⟩)] w fun e w' => e = .returned (.tuple #[]) ∧ w'.heap[k]? = some (motO 48 ⟨cp a.p0, cp a.p1, cv a.v0, cv a.v1, a.m⟩) ∧ Turn (· = k) w w' := by
  obtain ⟨c0, c1, c2, c3, c4⟩ := mo_cells hk
  have cf := mo_frozen hk
  have hk' := Lib.hid hk
  have k1 := fun w => clampTo_any a.p0 a.p1 1048576 w (by omega)
  have k2 := fun w => clampTo_any a.v0 a.v1 16384 w (by omega)
  have e0 : clampV a.p0 (-1048576) 1048576 = cp a.p0 := rfl
  have e1 : clampV a.p1 (-1048576) 1048576 = cp a.p1 := rfl
  have e2 : clampV a.v0 (-16384) 16384 = cv a.v0 := rfl
  have e3 : clampV a.v1 (-16384) 16384 = cv a.v1 := rfl
  rw [e0, e1] at k1
  rw [e2, e3] at k2
  have hkk := Lib.hid (And.intro k1 k2)
  clear k1 k2 e0 e1 e2 e3 hk
  go_enter Try.func31, Try.ntmps31
  go_wp2_with fail
  refine (hkk.out.1 _).mono ?_
  rintro e w1 ⟨rfl, hb1⟩
  have r1 := Lib.hid (hcarry hb1 hk'.out)
  clear c0 c1 c2 c3 c4 cf
  obtain ⟨c0, c1, c2, c3, c4⟩ := mo_cells r1.out
  have cf := mo_frozen r1.out
  have hb1' := Lib.hid hb1
  clear hb1
  go_upto_region 1 with fail
  have r2 := Lib.hid (mo_pos r1.out (cp a.p0) (cp a.p1))
  have hT := Lib.hid (((Turn.of_below hb1'.out).set (p := ⟨k, 0, none⟩) (S := (· = k)) rfl (.int .i64 (cp a.p0))).set (p := ⟨k, 1, none⟩) rfl (.int .i64 (cp a.p1)))
  generalize (w1.setCell ⟨k, 0, none⟩ (.int .i64 (cp a.p0))).setCell ⟨k, 1, none⟩ (.int .i64 (cp a.p1)) = V at *
  clear c0 c1 c2 c3 c4 cf r1 hb1' hk'
  obtain ⟨c0, c1, c2, c3, c4⟩ := mo_cells r2.out
  simp only at c0 c1 c2 c3 c4
  go_wp2_with fail
  refine (hkk.out.2 _).mono ?_
  rintro e w2 ⟨rfl, hb2⟩
  have r3 := Lib.hid (hcarry hb2 r2.out)
  clear c0 c1 c2 c3 c4
  obtain ⟨c0, c1, c2, c3, c4⟩ := mo_cells r3.out
  have cf := mo_frozen r3.out
  have hT2 := Lib.hid (hT.out.trans (Turn.of_below hb2))
  clear hb2 hT r2
  go_wp2
  go_end0
  exact ⟨rfl, mo_vel r3.out _ _, (hT2.out.set (p := ⟨k, 2, none⟩) rfl _).set (p := ⟨k, 3, none⟩) rfl _⟩

/-- Both bodies are given impulses: f and g along the normal. -/
theorem pushV_any (A B : Nat) (a b : Mo) (n0 n1 f g : Int) (w : World) (hA : w.heap[A]? = some (motO 48 a)) (hB : w.heap[B]? = some (motO 48 b)) (hne : A ≠ B)
    (hn0 : Bd n0) (hn1 : Bd n1) (hf : Bd f) (hg : Bd g) (hx0 : Bd (rsc n0 f)) (hx1 : Bd (rsc n1 f)) (hy0 : Bd (rsc n0 g)) (hy1 : Bd (rsc n1 g)) (ha0 : Bd a.v0) (ha1 : Bd a.v1) (hb0 : Bd b.v0) (hb1 : Bd b.v1) :
    Calls Try.prog 27 #[.agg #[.int .i64 n0, .int .i64 n1], .int .i64 f, .int .i64 g, .func (.func 29) #[.pointer (some ⟨A, 0, none⟩)] #[], .func (.func 29) #[.pointer (some ⟨B, 0, none⟩)] #[]] w fun e w' =>
      e = .returned (.tuple #[]) ∧ w'.heap[A]? = some (motO 48 { a with v0 := a.v0 - rsc n0 f, v1 := a.v1 - rsc n1 f }) ∧ w'.heap[B]? = some (motO 48 { b with v0 := b.v0 + rsc n0 g, v1 := b.v1 + rsc n1 g }) ∧ Turn (fun i => i = A ∨ i = B) w w' := by
  have k1 := fun w => scale_any n0 n1 f w hn0 hn1 hf
  have k2 := fun w => scale_any n0 n1 g w hn0 hn1 hg
  have f0 : flr (n0 * f) 1024 = rsc n0 f := rfl
  have f1 : flr (n1 * f) 1024 = rsc n1 f := rfl
  have g0 : flr (n0 * g) 1024 = rsc n0 g := rfl
  have g1 : flr (n1 * g) 1024 = rsc n1 g := rfl
  rw [f0, f1] at k1
  rw [g0, g1] at k2
  clear f0 f1 g0 g1
  have hy := Lib.hid (And.intro hy0 hy1)
  generalize rsc n0 g = y0 at *
  generalize rsc n1 g = y1 at *
  generalize rsc n0 f = x0 at *
  generalize rsc n1 f = x1 at *
  have k3 := fun w => neg_any x0 x1 w hx0 hx1
  have k4 := fun w h => accel_any A a (-x0) (-x1) w h ha0 ha1 (by unfold Bd at *; omega) (by unfold Bd at *; omega)
  have k5 := fun w h => accel_any B b y0 y1 w h hb0 hb1 hy.out.1 hy.out.2
  simp only [← Int.sub_eq_add_neg] at k4
  have hk := Lib.hid (And.intro k1 (And.intro k2 (And.intro k3 (And.intro k4 k5))))
  have hAB := Lib.hid (And.intro hA hB)
  have hne' := Lib.hid hne
  clear k1 k2 k3 k4 k5 hA hB hn0 hn1 hf hg hx0 hx1 hy0 hy1 ha0 ha1 hb0 hb1 hne hy
  have hAl := hlt hAB.out.1
  have hb := alloc_below w (vecO 24 n0 n1)
  have hN := new_at w (vecO 24 n0 n1)
  obtain ⟨v0, v1⟩ := vec_cells hN
  obtain ⟨V, hV⟩ : ∃ V, V = w.alloc (vecO 24 n0 n1) := ⟨_, rfl⟩
  rw [← hV] at hb v0 v1 hN
  have hV' := Lib.hid hV
  have hW := Lib.hid hb
  have hN' := Lib.hid hN
  clear hV hb hN
  go_enter Try.func27, Try.ntmps27
  go_upto_region 1 with fail
  rw [show w.alloc (.cells #[.int .i64 n0, .int .i64 n1] 24) = V from hV'.out.symm]
  go_wp2_with fail
  refine (hk.out.1 _).mono ?_
  rintro e w1 ⟨rfl, hb1⟩
  replace hW := Lib.hid (below_step hW.out hb1)
  replace hN' := Lib.hid (hcarry hb1 hN'.out)
  clear hb1 v0 v1
  go_wp2_with fail
  refine (hk.out.2.2.1 _).mono ?_
  rintro e w2 ⟨rfl, hb1⟩
  replace hW := Lib.hid (below_step hW.out hb1)
  replace hN' := Lib.hid (hcarry hb1 hN'.out)
  clear hb1
  go_wp2_with fail
  refine (hk.out.2.2.2.1 _ (hcarry hW.out hAB.out.1)).mono ?_
  rintro e w3 ⟨rfl, hA3, hT⟩
  have hA3' := Lib.hid hA3
  have hB3 := Lib.hid (hT.at (hcarry hW.out hAB.out.2) (fun e => hne'.out e.symm))
  have hN3 := Lib.hid (hT.at hN'.out (by omega))
  have hT3 := Lib.hid ((Turn.of_below (S := fun i => i = A ∨ i = B) hW.out).trans (hT.mono (fun i h => .inl h)))
  clear hA3 hT hN' hAl
  obtain ⟨v0, v1⟩ := vec_cells hN3.out
  go_wp2_with fail
  refine (hk.out.2.1 _).mono ?_
  rintro e w4 ⟨rfl, hb1⟩
  have hA4 := Lib.hid (hcarry hb1 hA3'.out)
  have hB4 := Lib.hid (hcarry hb1 hB3.out)
  have hT4 := Lib.hid (hT3.out.trans (Turn.of_below hb1))
  clear hb1 v0 v1
  go_wp2_with fail
  refine (hk.out.2.2.2.2 _ hB4.out).mono ?_
  rintro e w5 ⟨rfl, hB5, hT⟩
  have hA5 := Lib.hid (hT.at hA4.out hne'.out)
  have hB5' := Lib.hid hB5
  have hT5 := Lib.hid (hT4.out.trans (hT.mono (fun i h => .inr h)))
  clear hB5 hT
  go_wp2
  go_end0
  exact ⟨rfl, hA5.out, hB5'.out, hT5.out⟩

/-- Both bodies are moved: f and g along the normal. -/
theorem pushP_any (A B : Nat) (a b : Mo) (n0 n1 f g : Int) (w : World) (hA : w.heap[A]? = some (motO 48 a)) (hB : w.heap[B]? = some (motO 48 b)) (hne : A ≠ B)
    (hn0 : Bd n0) (hn1 : Bd n1) (hf : Bd f) (hg : Bd g) (hx0 : Bd (rsc n0 f)) (hx1 : Bd (rsc n1 f)) (hy0 : Bd (rsc n0 g)) (hy1 : Bd (rsc n1 g)) (ha0 : Bd a.p0) (ha1 : Bd a.p1) (hb0 : Bd b.p0) (hb1 : Bd b.p1) :
    Calls Try.prog 27 #[.agg #[.int .i64 n0, .int .i64 n1], .int .i64 f, .int .i64 g, .func (.func 30) #[.pointer (some ⟨A, 0, none⟩)] #[], .func (.func 30) #[.pointer (some ⟨B, 0, none⟩)] #[]] w fun e w' =>
      e = .returned (.tuple #[]) ∧ w'.heap[A]? = some (motO 48 { a with p0 := a.p0 - rsc n0 f, p1 := a.p1 - rsc n1 f }) ∧ w'.heap[B]? = some (motO 48 { b with p0 := b.p0 + rsc n0 g, p1 := b.p1 + rsc n1 g }) ∧ Turn (fun i => i = A ∨ i = B) w w' := by
  have k1 := fun w => scale_any n0 n1 f w hn0 hn1 hf
  have k2 := fun w => scale_any n0 n1 g w hn0 hn1 hg
  have f0 : flr (n0 * f) 1024 = rsc n0 f := rfl
  have f1 : flr (n1 * f) 1024 = rsc n1 f := rfl
  have g0 : flr (n0 * g) 1024 = rsc n0 g := rfl
  have g1 : flr (n1 * g) 1024 = rsc n1 g := rfl
  rw [f0, f1] at k1
  rw [g0, g1] at k2
  clear f0 f1 g0 g1
  have hy := Lib.hid (And.intro hy0 hy1)
  generalize rsc n0 g = y0 at *
  generalize rsc n1 g = y1 at *
  generalize rsc n0 f = x0 at *
  generalize rsc n1 f = x1 at *
  have k3 := fun w => neg_any x0 x1 w hx0 hx1
  have k4 := fun w h => shift_any A a (-x0) (-x1) w h ha0 ha1 (by unfold Bd at *; omega) (by unfold Bd at *; omega)
  have k5 := fun w h => shift_any B b y0 y1 w h hb0 hb1 hy.out.1 hy.out.2
  simp only [← Int.sub_eq_add_neg] at k4
  have hk := Lib.hid (And.intro k1 (And.intro k2 (And.intro k3 (And.intro k4 k5))))
  have hAB := Lib.hid (And.intro hA hB)
  have hne' := Lib.hid hne
  clear k1 k2 k3 k4 k5 hA hB hn0 hn1 hf hg hx0 hx1 hy0 hy1 ha0 ha1 hb0 hb1 hne hy
  have hAl := hlt hAB.out.1
  have hb := alloc_below w (vecO 24 n0 n1)
  have hN := new_at w (vecO 24 n0 n1)
  obtain ⟨v0, v1⟩ := vec_cells hN
  obtain ⟨V, hV⟩ : ∃ V, V = w.alloc (vecO 24 n0 n1) := ⟨_, rfl⟩
  rw [← hV] at hb v0 v1 hN
  have hV' := Lib.hid hV
  have hW := Lib.hid hb
  have hN' := Lib.hid hN
  clear hV hb hN
  go_enter Try.func27, Try.ntmps27
  go_upto_region 1 with fail
  rw [show w.alloc (.cells #[.int .i64 n0, .int .i64 n1] 24) = V from hV'.out.symm]
  go_wp2_with fail
  refine (hk.out.1 _).mono ?_
  rintro e w1 ⟨rfl, hb1⟩
  replace hW := Lib.hid (below_step hW.out hb1)
  replace hN' := Lib.hid (hcarry hb1 hN'.out)
  clear hb1 v0 v1
  go_wp2_with fail
  refine (hk.out.2.2.1 _).mono ?_
  rintro e w2 ⟨rfl, hb1⟩
  replace hW := Lib.hid (below_step hW.out hb1)
  replace hN' := Lib.hid (hcarry hb1 hN'.out)
  clear hb1
  go_wp2_with fail
  refine (hk.out.2.2.2.1 _ (hcarry hW.out hAB.out.1)).mono ?_
  rintro e w3 ⟨rfl, hA3, hT⟩
  have hA3' := Lib.hid hA3
  have hB3 := Lib.hid (hT.at (hcarry hW.out hAB.out.2) (fun e => hne'.out e.symm))
  have hN3 := Lib.hid (hT.at hN'.out (by omega))
  have hT3 := Lib.hid ((Turn.of_below (S := fun i => i = A ∨ i = B) hW.out).trans (hT.mono (fun i h => .inl h)))
  clear hA3 hT hN' hAl
  obtain ⟨v0, v1⟩ := vec_cells hN3.out
  go_wp2_with fail
  refine (hk.out.2.1 _).mono ?_
  rintro e w4 ⟨rfl, hb1⟩
  have hA4 := Lib.hid (hcarry hb1 hA3'.out)
  have hB4 := Lib.hid (hcarry hb1 hB3.out)
  have hT4 := Lib.hid (hT3.out.trans (Turn.of_below hb1))
  clear hb1 v0 v1
  go_wp2_with fail
  refine (hk.out.2.2.2.2 _ hB4.out).mono ?_
  rintro e w5 ⟨rfl, hB5, hT⟩
  have hA5 := Lib.hid (hT.at hA4.out hne'.out)
  have hB5' := Lib.hid hB5
  have hT5 := Lib.hid (hT4.out.trans (hT.mono (fun i h => .inr h)))
  clear hB5 hT
  go_wp2
  go_end0
  exact ⟨rfl, hA5.out, hB5'.out, hT5.out⟩
end Go.Proofs.Ytihoanoanoaneaa
