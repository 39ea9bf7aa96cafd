/- Package merkle: a partial tree in memory; what only reads it. -/
import Derived.Test.YtknjdkgemkmoeaaMlC
import Derived.Test.YtknjdkgemkmoeaaMkB
import Derived.Maps.OwnSet
import Derived.Maps.OwnOps
import Derived.DeepKeys4
import Derived.WideKeyArgs
namespace Go.Proofs.Ytknjdkgemkmoeaa
open Go.ChangeShapes Go.WideShapes Go.ChangeAt Go.RowKit Go.Shelf
set_option linter.unusedSimpArgs false
set_option linter.unusedVariables false
attribute [local go_sem] Oper.semAt_some

theorem laidP : laidOutB Try.prog = true := by kernel_rfl
theorem keyI : Maps.Keyed Try.prog 3 := Maps.int_keyed Try.underlying3
set_option maxRecDepth 100000 in
theorem rowP : (99 : TypeId) < Try.prog.types.size := of_decide_eq_true (by kernel_rfl)
theorem wideP : (match Try.prog.underlying 99 with | some (.array _ _) | some (.struct _) => true | _ => false) = true := by rw [Try.underlying99]
set_option maxRecDepth 100000 in
theorem keyP : Maps.Keyed Try.prog 99 := Maps.Keyed.of_law (deep_law_laid laidP (m := 2) (by omega) rowP (by kernel_rfl) wideP)
/-- What a place reads as. -/
def kP (l x : Nat) : Lit := .string (keyBytes [.int .i64 (l : Nat), .int .i64 (x : Nat)])
theorem keyOf_place (l x : Nat) (hl : (Lit.int .i64 (l : Nat)).wf = true) (hx : (Lit.int .i64 (x : Nat)).wf = true) :
    keyOf Try.prog 99 (.agg #[.int .i64 (l : Nat), .int .i64 (x : Nat)]) = some (kP l x) := by
  have h1 : Try.prog.keyType 99 = true := by kernel_rfl
  have h2 : (Value.agg #[.int .i64 (l : Nat), .int .i64 (x : Nat)]).formed Try.prog 99 = true := by
    have : Try.prog.cellsOf 99 = 2 := by kernel_rfl
    simp [Value.formed, Try.underlying99, this]
  have h3 : Try.prog.keyLits (Try.prog.types.size + 1) 99 [.int .i64 (l : Nat), .int .i64 (x : Nat)] = some [.int .i64 (l : Nat), .int .i64 (x : Nat)] := by
    obtain ⟨d, hd⟩ : ∃ d, Try.prog.types.size + 1 = d + 2 := by
      obtain ⟨s, hs⟩ := Nat.exists_eq_succ_of_ne_zero (Nat.ne_of_gt (Nat.lt_of_le_of_lt (Nat.zero_le _) rowP))
      exact ⟨s, by rw [hs]⟩
    have hc : Try.prog.cellsOf 99 = 2 := by kernel_rfl
    have hc1 : Try.prog.cellsOf 3 = 1 := by kernel_rfl
    rw [hd]
    simp [Program.keyLits, Try.underlying99, Try.underlying3, hc, hc1, hl, hx]
  unfold keyOf
  simp only [Try.underlying99, h1, h2, Value.cells, Bool.and_self, if_true, h3, Option.map_some]
  rfl

/-- The partial tree at b, of the maps b1 and b2, of at most n entries each. -/
structure Pa (w : World) (b b1 b2 h : Nat) (D1 D2 : DataW Unit) (n : Nat) : Prop where
  blk : w.heap[b]? = some (.cells #[.int .i64 (h : Nat), .map (some b1), .map (some b2)] 105)
  m1 : w.ownsMap Try.prog 3 (plainElem Try.prog 3) b1 n D1
  m2 : w.ownsMap Try.prog 99 (plainElem Try.prog 36) b2 n D2
  ne : b1 ≠ b2
theorem Pa.c0 {w : World} {b b1 b2 h n : Nat} {D1 D2 : DataW Unit} (p : Pa w b b1 b2 h D1 D2 n) : w.cell? ⟨b, 0, none⟩ = some (.int .i64 (h : Nat)) := by simp [World.cell?, p.blk]
theorem Pa.c1 {w : World} {b b1 b2 h n : Nat} {D1 D2 : DataW Unit} (p : Pa w b b1 b2 h D1 D2 n) : w.cell? ⟨b, 1, none⟩ = some (.map (some b1)) := by simp [World.cell?, p.blk]
theorem Pa.c2 {w : World} {b b1 b2 h n : Nat} {D1 D2 : DataW Unit} (p : Pa w b b1 b2 h D1 D2 n) : w.cell? ⟨b, 2, none⟩ = some (.map (some b2)) := by simp [World.cell?, p.blk]
theorem Pa.lt {w : World} {b b1 b2 h n : Nat} {D1 D2 : DataW Unit} (p : Pa w b b1 b2 h D1 D2 n) : b < w.heap.size ∧ b1 < w.heap.size ∧ b2 < w.heap.size := ⟨(Array.getElem?_eq_some_iff.1 p.blk).1, p.m1.lt, p.m2.lt⟩
theorem ownsMap_block {w w' : World} {P : Program} {k : TypeId} {R : Value → Option (DataW Unit × List MemPlace)} {b n : Nat} {D : DataW Unit} (h : w.ownsMap P k R b n D) (e : w'.heap[b]? = w.heap[b]?) : w'.ownsMap P k R b n D := by
  obtain ⟨es, clock, hb, r⟩ := h
  exact ⟨es, clock, e.trans hb, r⟩
theorem Pa.keep {w w' : World} {b b1 b2 h n : Nat} {D1 D2 : DataW Unit} (p : Pa w b b1 b2 h D1 D2 n) (e : ∀ r, r = b ∨ r = b1 ∨ r = b2 → w'.heap[r]? = w.heap[r]?) : Pa w' b b1 b2 h D1 D2 n :=
  ⟨(e b (.inl rfl)).trans p.blk, ownsMap_block p.m1 (e b1 (.inr (.inl rfl))), ownsMap_block p.m2 (e b2 (.inr (.inr rfl))), p.ne⟩
theorem Pa.carry {w w' : World} {b b1 b2 h n : Nat} {D1 D2 : DataW Unit} (p : Pa w b b1 b2 h D1 D2 n) (hb : Below w.heap.size w w') : Pa w' b b1 b2 h D1 D2 n :=
  p.keep fun r hr => hb.block r (by have := p.lt; rcases hr with rfl | rfl | rfl <;> omega)
theorem Pa.apart {w : World} {b b1 b2 h n : Nat} {D1 D2 : DataW Unit} (p : Pa w b b1 b2 h D1 D2 n) : b ≠ b1 ∧ b ≠ b2 := by
  obtain ⟨es, cl, e1, _⟩ := p.m1
  obtain ⟨es', cl', e2, _⟩ := p.m2
  have e0 := p.blk
  refine ⟨?_, ?_⟩
  · rintro rfl; rw [e0] at e1; cases e1
  · rintro rfl; rw [e0] at e2; cases e2
theorem Pa.put1 {w w' : World} {b b1 b2 h n : Nat} {D1 D2 D : DataW Unit} (p : Pa w b b1 b2 h D1 D2 n) (hg : w.grownBy w' (some b1)) (hm : w'.ownsMap Try.prog 3 (plainElem Try.prog 3) b1 (n + 1) D) : Pa w' b b1 b2 h D D2 (n + 1) :=
  ⟨(hg.block b p.lt.1 (by have := p.apart.1; simpa using this)).trans p.blk, hm, (p.m2.kept hg (by have := p.ne; simpa using fun e : b2 = b1 => this e.symm)).mono (Nat.le_succ _), p.ne⟩
theorem Pa.put2 {w w' : World} {b b1 b2 h n : Nat} {D1 D2 D : DataW Unit} (p : Pa w b b1 b2 h D1 D2 n) (hg : w.grownBy w' (some b2)) (hm : w'.ownsMap Try.prog 99 (plainElem Try.prog 36) b2 (n + 1) D) : Pa w' b b1 b2 h D1 D (n + 1) :=
  ⟨(hg.block b p.lt.1 (by have := p.apart.2; simpa using this)).trans p.blk, (p.m1.kept hg (by have := p.ne; simpa using this)).mono (Nat.le_succ _), hm, p.ne⟩

theorem zero_int (w : World) : (zeroValue 3).run Try.prog w = .ok (.int .i64 0) w := by kernel_rfl
theorem zero_word (w : World) : (zeroValue 36).run Try.prog w = .ok (.int .u64 0) w := by kernel_rfl

theorem Pa.look1 {w : World} {b b1 b2 h n : Nat} {D1 D2 : DataW Unit} (p : Pa w b b1 b2 h D1 D2 n) {i c : Int} (hw : (Lit.int .i64 i).wf = true) (hc : D1.atKey (.int .i64 i) (.lit (.int .i64 0)) = .lit (.int .i64 c)) :
    (Instr.lookup 102 (.map (some b1)) (.int .i64 i) true).run Try.prog w = .ok (.tuple #[.int .i64 c, .bool (Maps.has D1 (.int .i64 i))]) w := by
  obtain ⟨v, ps, hrun, hv⟩ := p.m1.look_ok keyI Try.underlying102 (zero_int w) (plainElem_int Try.underlying3 (by decide)) (Maps.keyOf_int_mk Try.underlying3 hw)
  obtain ⟨c', rfl, hc', hwc⟩ := plainElem_int_inv Try.underlying3 hv
  have e : c' = c := by
    have := (congrArg Prod.fst hc').symm.trans hc
    simpa using this
  rw [← e]
  exact hrun
theorem Pa.look2 {w : World} {b b1 b2 h n : Nat} {D1 D2 : DataW Unit} (p : Pa w b b1 b2 h D1 D2 n) {l x : Nat} {z : Int} (hl : (Lit.int .i64 (l : Nat)).wf = true) (hx : (Lit.int .i64 (x : Nat)).wf = true) (hc : D2.atKey (kP l x) (.lit (.int .u64 0)) = .lit (.int .u64 z)) :
    (Instr.lookup 103 (.map (some b2)) (.agg #[.int .i64 (l : Nat), .int .i64 (x : Nat)]) false).run Try.prog w = .ok (.int .u64 z) w := by
  obtain ⟨c, hrun, hat, _⟩ := p.m2.lookup_int keyP Try.underlying103 Try.underlying36 (zero_word w) (keyOf_place l x hl hx)
  have e : c = z := by
    have := hat.symm.trans hc
    simpa using this
  rw [← e]
  exact hrun

/-! ## Get -/
theorem get_any (b b1 b2 h n : Nat) (D1 D2 : DataW Unit) (i c : Int) (hw : (Lit.int .i64 i).wf = true) (w : World) (p : Pa w b b1 b2 h D1 D2 n) (hc : D1.atKey (.int .i64 i) (.lit (.int .i64 0)) = .lit (.int .i64 c)) :
    Calls Try.prog 22 #[.pointer (some ⟨b, 0, none⟩), .int .i64 i] w fun e w' => e = .returned (.tuple #[.int .i64 c, .bool (Maps.has D1 (.int .i64 i))]) ∧ w' = w := by
  have c1 := p.c1
  have hrun := p.look1 hw hc
  have n0 := p.lt.1
  clear p hc
  generalize Maps.has D1 (.int .i64 i) = bb at *
  go_enter Try.func22, Try.ntmps22
  go_wp2
  refine bodyPost_ret (v := .tuple #[.int .i64 c, .bool bb]) (by simp [results, Try.results22, go_sem]) rfl ⟨rfl, rfl⟩

/-! ## The hashes -/
set_option maxRecDepth 100000 in
theorem partHash_any (b b1 b2 h n : Nat) (D1 D2 : DataW Unit) (l x : Nat) (z : Int) (hl : (Lit.int .i64 (l : Nat)).wf = true) (hx : (Lit.int .i64 (x : Nat)).wf = true) (w : World) (p : Pa w b b1 b2 h D1 D2 n) (hc : D2.atKey (kP l x) (.lit (.int .u64 0)) = .lit (.int .u64 z)) :
    Calls Try.prog 65 #[.pointer (some ⟨b, 0, none⟩), .agg #[.int .i64 (l : Nat), .int .i64 (x : Nat)]] w fun e w' => e = .returned (.int .u64 z) ∧ Below w.heap.size w w' := by
  have hB := Lib.hid (alloc_below w (.cells #[.int .i64 (l : Nat), .int .i64 (x : Nat)] 99))
  have p0 : (w.alloc (.cells #[.int .i64 (l : Nat), .int .i64 (x : Nat)] 99)).cell? ⟨w.heap.size, 0, none⟩ = some (.int .i64 (l : Nat)) := by rw [World.cell?_alloc_new]; rfl
  have p1 : (w.alloc (.cells #[.int .i64 (l : Nat), .int .i64 (x : Nat)] 99)).cell? ⟨w.heap.size, 1, none⟩ = some (.int .i64 (x : Nat)) := by rw [World.cell?_alloc_new]; rfl
  have hP := Lib.hid (p.carry hB.out)
  have hrun := Lib.hid (fun Z (hZ : Below _ _ Z) => (hP.out.carry hZ).look2 hl hx hc)
  have c2 := hP.out.c2
  clear p hP hc hl hx
  go_enter Try.func65, Try.ntmps65
  go_wp2_with fail
  generalize w.alloc (.cells #[.int .i64 (l : Nat), .int .i64 (x : Nat)] 99) = V at *
  have m0 := block_lt_of_cell p0
  have m2 := block_lt_of_cell c2
  simp only at m0 m2
  refine wp_region_made (by kernel_rfl) (by kernel_rfl) ?_
  intro W hK
  have g_c2 := fun x => carry (hK.below x) c2
  have g_p0 := fun x => carry (hK.below x) p0
  have g_p1 := fun x => carry (hK.below x) p1
  have g_run := fun x => hrun.out _ (hK.below x)
  repeat (go_big_quiet_step (fail))
  refine wpQuiet_nil ?_
  intro wq hw'
  have hbq := kept_in hK hw'
  clear g_c2 g_p0 g_p1 g_run hw' hK W
  go_wp2
  go_ret
  exact ⟨rfl, below_step hB.out hbq⟩

theorem top_any (b b1 b2 h n : Nat) (D1 D2 : DataW Unit) (w : World) (p : Pa w b b1 b2 h D1 D2 n) :
    Calls Try.prog 61 #[.pointer (some ⟨b, 0, none⟩)] w fun e w' => e = .returned (.agg #[.int .i64 (h : Nat), .int .i64 0]) ∧ Below w.heap.size w w' := by
  have c0 := p.c0
  have n0 := p.lt.1
  clear p
  go_enter Try.func61, Try.ntmps61
  go_wp2
  refine bodyPost_ret (v := .agg #[.int .i64 (h : Nat), .int .i64 0]) (by simp [results, Try.results61, go_sem]) rfl ⟨rfl, ?_⟩
  repeat (first | exact Below.refl _ _ | (refine Below.setCell ?_ (by first | (simp; done) | (simp; omega) | omega) _) | (refine Below.alloc ?_ (by first | exact Nat.le_refl _ | (simp; done) | (simp; omega) | omega) _) | refine Below.drew ?_ | (refine Below.trans ?_ ((hb _).mono (by first | (simp; done) | (simp; omega) | omega))) | (refine Below.trans ?_ (hb1.mono (by first | (simp; done) | (simp; omega) | omega))))

theorem partRoot_any (b b1 b2 h n : Nat) (D1 D2 : DataW Unit) (z : Int) (hl : (Lit.int .i64 (h : Nat)).wf = true) (w : World) (p : Pa w b b1 b2 h D1 D2 n) (hc : D2.atKey (kP h 0) (.lit (.int .u64 0)) = .lit (.int .u64 z)) :
    Calls Try.prog 21 #[.pointer (some ⟨b, 0, none⟩)] w fun e w' => e = .returned (.int .u64 z) ∧ Below w.heap.size w w' := by
  have k1 := Lib.hid (top_any b b1 b2 h n D1 D2 w p)
  have k2 := Lib.hid (fun Z (hZ : Below w.heap.size w Z) => partHash_any b b1 b2 h n D1 D2 h 0 z hl (by decide) Z (p.carry hZ) hc)
  clear p hc hl
  go_enter Try.func21, Try.ntmps21
  go_wp2_with fail
  refine (k1.out).mono ?_
  rintro e w1 ⟨rfl, h1⟩
  go_wp2_with fail
  refine (k2.out w1 h1).mono ?_
  rintro e w2 ⟨rfl, h2⟩
  go_wp2
  go_ret
  exact ⟨rfl, below_step h1 h2⟩
end Go.Proofs.Ytknjdkgemkmoeaa
