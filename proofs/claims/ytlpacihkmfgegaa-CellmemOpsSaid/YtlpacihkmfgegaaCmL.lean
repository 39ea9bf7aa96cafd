/- Package cellmem: an operation performed; a memory with a history. -/
import Derived.Test.YtlpacihkmfgegaaCmK
namespace Go.Proofs.Ytlpacihkmfgegaa
open Go.ChangeShapes Go.WideShapes Go.ChangeAt Go.RowKit
open Cm
set_option linter.unusedSimpArgs false
set_option linter.unusedVariables false

theorem op1 (S : Me) (n v : Int) : S.app ⟨1, n, v⟩ = S.undo n ∧ S.lst ⟨1, n, v⟩ = [] ∧ S.eno ⟨1, n, v⟩ = S.err n := ⟨by unfold Me.app; rw [if_pos rfl], by unfold Me.lst; rw [if_neg (by simp)], by unfold Me.eno; rw [if_pos (.inl rfl)]⟩
theorem op2 (S : Me) (n v : Int) : S.app ⟨2, n, v⟩ = S.discard n ∧ S.lst ⟨2, n, v⟩ = [] ∧ S.eno ⟨2, n, v⟩ = S.err n := ⟨by unfold Me.app; rw [if_neg (by simp), if_pos rfl], by unfold Me.lst; rw [if_neg (by simp)], by unfold Me.eno; rw [if_pos (.inr (.inl rfl))]⟩
theorem op3 (S : Me) (n v : Int) : S.app ⟨3, n, v⟩ = S ∧ S.lst ⟨3, n, v⟩ = S.changed n ∧ S.eno ⟨3, n, v⟩ = S.err n := ⟨by unfold Me.app; rw [if_neg (by simp), if_neg (by simp), if_pos rfl], by unfold Me.lst; rw [if_pos rfl], by unfold Me.eno; rw [if_pos (.inr (.inr rfl))]⟩
theorem op0 (S : Me) {d : Int} (n v : Int) (h1 : d ≠ 1) (h2 : d ≠ 2) (h3 : d ≠ 3) : S.app ⟨d, n, v⟩ = S.set n v ∧ S.lst ⟨d, n, v⟩ = [] ∧ S.eno ⟨d, n, v⟩ = 0 :=
  ⟨by unfold Me.app; rw [if_neg h1, if_neg h2, if_neg h3], by unfold Me.lst; rw [if_neg h3], by unfold Me.eno; rw [if_neg (by simp only; omega)]⟩

set_option maxHeartbeats 4000000 in
theorem apply_any {w : World} {b : Nat} {O : Nat → Prop} {S : Me} (h : Mo w b O S) (k : Ok S) (o : Op3) :
    Calls Try.prog 20 #[.pointer (some ⟨b, 0, none⟩), .agg #[.int .i64 o.d, .int .i64 o.n, .int .i64 o.v]] w fun e w' =>
      ∃ vl, e = .returned (.tuple #[vl, .int .i64 (S.eno o)]) ∧ (IL w' vl (natI (S.lst o)) ∧ ∀ g, vl.ownBlock = some g → w.heap.size ≤ g) ∧ ∃ O', Mo w' b O' (S.app o) ∧ Moves O w O' w' := by
  obtain ⟨d, n, v⟩ := o
  simp only
  have hbA := alloc_below w (.cells #[.int .i64 d, .int .i64 n, .int .i64 v] 34)
  have hM := Lib.hid (h.carry hbA)
  have k0 := World.cell?_alloc_new (w := w) #[.int .i64 d, .int .i64 n, .int .i64 v] 34 0
  have k1 := World.cell?_alloc_new (w := w) #[.int .i64 d, .int .i64 n, .int .i64 v] 34 1
  have k2 := World.cell?_alloc_new (w := w) #[.int .i64 d, .int .i64 n, .int .i64 v] 34 2
  have hb' := Lib.hid hbA
  have hk := Lib.hid k
  obtain ⟨V, hV⟩ : ∃ V, V = w.alloc (.cells #[.int .i64 d, .int .i64 n, .int .i64 v] 34) := ⟨_, rfl⟩
  rw [← hV] at hM k0 k1 k2 hb'
  have hV' := Lib.hid hV
  clear h k hbA hV
  have nil0 := Lib.hid (fun w' : World => (⟨IL.nil w', fun g hg => by simp [Value.ownBlock] at hg⟩ : IL w' (.slice none 0 0) (natI []) ∧ ∀ g, (Value.slice none 0 0).ownBlock = some g → w.heap.size ≤ g))
  by_cases h1 : d = 1
  · subst h1
    have hop := Lib.hid (op1 S n v)
    go_enter Try.func20, Try.ntmps20
    go_upto_region 1 with fail
    rw [show w.alloc (.cells #[.int .i64 1, .int .i64 n, .int .i64 v] 34) = V from hV'.out.symm]
    go_wp2_with (first | (go_at_call 34; with_reducible refine (hM.out.undo hk.out n).mono ?_; rintro e u1 ⟨rfl, O1, hM1, hm1⟩; have hm1' := Lib.hid (Moves.first hb'.out hm1); have hM1' := Lib.hid hM1; clear hM1 hm1))
    go_ret2
    exact ⟨_, by rw [hop.out.2.2]; rfl, by rw [hop.out.2.1]; exact nil0.out _, O1, by rw [hop.out.1]; exact hM1'.out, hm1'.out⟩
  · by_cases h2 : d = 2
    · subst h2
      clear h1
      have hop := Lib.hid (op2 S n v)
      go_enter Try.func20, Try.ntmps20
      go_upto_region 1 with fail
      rw [show w.alloc (.cells #[.int .i64 2, .int .i64 n, .int .i64 v] 34) = V from hV'.out.symm]
      go_wp2_with (first | (go_at_call 37; with_reducible refine (hM.out.discard hk.out n).mono ?_; rintro e u1 ⟨rfl, O1, hM1, hm1⟩; have hm1' := Lib.hid (Moves.first hb'.out hm1); have hM1' := Lib.hid hM1; clear hM1 hm1))
      go_ret2
      exact ⟨_, by rw [hop.out.2.2]; rfl, by rw [hop.out.2.1]; exact nil0.out _, O1, by rw [hop.out.1]; exact hM1'.out, hm1'.out⟩
    · by_cases h3 : d = 3
      · subst h3
        clear h1 h2
        have hop := Lib.hid (op3 S n v)
        go_enter Try.func20, Try.ntmps20
        go_upto_region 1 with fail
        rw [show w.alloc (.cells #[.int .i64 3, .int .i64 n, .int .i64 v] 34) = V from hV'.out.symm]
        go_wp2_with (first | (go_at_call 35; with_reducible refine (hM.out.changed hk.out n).mono ?_; rintro e u1 ⟨v1, rfl, hr, hb⟩; have hr' := Lib.hid hr; have hM1' := Lib.hid (hM.out.carry hb); have hm1' := Lib.hid (Moves.below O (below_step hb'.out hb)); clear hr hb))
        go_ret2
        exact ⟨_, by rw [hop.out.2.2]; rfl, by rw [hop.out.2.1]; exact ⟨own_il hr'.out, fun g hg => Nat.le_trans hb'.out.size (hr'.out.lt g hg).1⟩, O, by rw [hop.out.1]; exact hM1'.out, hm1'.out⟩
      · have hop := Lib.hid (op0 S n v h1 h2 h3)
        have b1 : (d == 1) = false := by simpa using h1
        have b2 : (d == 2) = false := by simpa using h2
        have b3 : (d == 3) = false := by simpa using h3
        clear h1 h2 h3
        go_enter Try.func20, Try.ntmps20
        go_upto_region 1 with fail
        rw [show w.alloc (.cells #[.int .i64 d, .int .i64 n, .int .i64 v] 34) = V from hV'.out.symm]
        go_wp2_with (first | (go_at_call 31; with_reducible refine (hM.out.set hk.out n v).mono ?_; rintro e u1 ⟨rfl, O1, hM1, hm1⟩; have hm1' := Lib.hid (Moves.first hb'.out hm1); have hM1' := Lib.hid hM1; clear hM1 hm1))
        go_ret2
        exact ⟨_, by rw [hop.out.2.2]; rfl, by rw [hop.out.2.1]; exact nil0.out _, O1, by rw [hop.out.1]; exact hM1'.out, hm1'.out⟩

/-! ## A memory with a history -/
/-- What the operations of a list have left. -/
def hist (Z1 : Nat → Int) (l1 : Nat) (Z2 : Nat → Int) (t : Nat) : Me := (Me.new (six Z1 l1)).apps (opsN Z2 t)
theorem hist_zero (Z1 : Nat → Int) (l1 : Nat) (Z2 : Nat → Int) : hist Z1 l1 Z2 0 = Me.new (six Z1 l1) := rfl
theorem hist_succ (Z1 : Nat → Int) (l1 : Nat) (Z2 : Nat → Int) (t : Nat) : hist Z1 l1 Z2 (t + 1) = (hist Z1 l1 Z2 t).app (Cm.opAt Z2 t) := by unfold hist; rw [opsN_succ, Me.apps_snoc]
theorem hist_ok (Z1 : Nat → Int) (l1 : Nat) (Z2 : Nat → Int) (t : Nat) : (hist Z1 l1 Z2 t).cs.length = 6 ∧ (hist Z1 l1 Z2 t).pos ≤ t := by
  unfold hist
  refine ⟨by rw [Me.apps_len]; exact six_len _ _, ?_⟩
  have := (Me.new (six Z1 l1)).apps_pos (opsN Z2 t)
  rw [opsN_len] at this
  have h0 : (Me.new (six Z1 l1)).pos = 0 := rfl
  omega
set_option maxRecDepth 100000 in
set_option maxHeartbeats 4000000 in
theorem built_any (v1 v2 : Value) (Z1 Z2 : Nat → Int) (l1 l2 : Nat) (w : World) (h1 : IntsAt w v1 1 Z1 l1) (h2 : IntsAt w v2 1 Z2 l2) :
    Calls Try.prog 32 #[v1, v2] w fun e w' => ∃ b O, e = .returned (.pointer (some ⟨b, 0, none⟩)) ∧ Mo w' b O (hist Z1 l1 Z2 (min l2 30)) ∧ Fresh w O w' := by
  have k1 := Lib.hid (six_any v1 Z1 l1 w h1)
  have h2' := Lib.hid h2
  clear h1 h2
  obtain ⟨m, hm⟩ : ∃ m, m = min l2 30 := ⟨_, rfl⟩
  have hm30 : m ≤ 30 := by omega
  have kops := Lib.hid (fun W (hb : Below w.heap.size w W) => ops_any v2 Z2 l2 W (h2'.out.carry hb))
  rw [← hm] at kops ⊢
  clear hm
  go_enter Try.func32, Try.ntmps32
  go_wp2_with (first
    | (go_at_call 13; with_reducible refine k1.out.mono ?_; rintro e u1 ⟨rfl, hr, hb⟩; have hr1 := Lib.hid (own_il hr); have hb1 := Lib.hid hb; clear hr hb)
    | (go_at_call 12; with_reducible refine (cmNew_any _ (six Z1 l1) u1 hr1.out (by rw [six_len]; decide)).mono ?_; rintro e u2 ⟨b, O, rfl, hM, hO, hb⟩; have hM2 := Lib.hid hM; have hF2 := Lib.hid (Fresh.mk (below_step hb1.out hb) (fun i hi => Nat.le_trans hb1.out.size (hO i hi))); clear hM hO hb)
    | (go_at_call 15; with_reducible refine (kops.out _ hF2.out.below).mono ?_; rintro e u3 ⟨vo, rfl, hr, hb⟩; obtain ⟨oa, on, oc, rfl⟩ := own_shape hr; obtain ⟨a9, c9, e9, h91, h92, _⟩ := (SRow.owned hr).shape (by decide); simp only [Value.slice.injEq] at e9; obtain ⟨rfl, rfl, rfl⟩ := e9; have hlo := Lib.hid (fun g hg => Nat.le_trans hF2.out.below.size (hr.lt g hg).1); have hlt := Lib.hid (fun g hg => (hr.lt g hg)); have hol := Lib.hid (OL.owned hr); have hM3 := Lib.hid (hM2.out.carry hb); have hF3 := Lib.hid (hF2.out.step hb); clear hr hb))
  have hne := Lib.hid (fun g (hg : (Value.slice oa on oc).ownBlock = some g) => (fun hO => by have h1 := hM2.out.lt g hO; have h2 := (hlt.out g hg).1; omega : ¬ O g))
  clear hM2 hF2 kops k1 hr1 hb1
  go_loopw [7] (fun i wr => ∃ (t : Nat) (O' : Nat → Prop), t ≤ on ∧ i = .int .i64 (t : Nat) ∧ Mo wr b O' (hist Z1 l1 Z2 t) ∧ Moves O u3 O' wr) (fun i _ => on - (intOf i).toNat)
  case atStart => exact ⟨0, O, Nat.zero_le _, rfl, hM3.out, Moves.refl _ _⟩
  case round =>
    obtain ⟨t, O', ht, rfl, hM, hm⟩ := hrel
    have hM' := Lib.hid hM
    have hm' := Lib.hid hm
    clear hM hm
    by_cases htn : t < on
    · obtain ⟨a8, c8, e8, _, _, h8⟩ := hol.out.moves hm'.out hne.out
      rw [opsN_len] at e8 h8
      simp only [Value.slice.injEq, true_and] at e8
      obtain ⟨rfl, rfl⟩ := e8
      obtain ⟨g, off, rfl, _, hc⟩ := h8 (by omega)
      obtain ⟨d0, d1, d2⟩ := hc t _ (opsN_at Z2 htn)
      have hok := hist_ok Z1 l1 Z2 t
      have ok := Lib.hid (show Ok (hist Z1 l1 Z2 t) from ⟨by omega, by omega⟩)
      have hst := Lib.hid (hist_succ Z1 l1 Z2 t)
      clear hc h8 hok
      generalize Cm.opAt Z2 t = o at *
      go_wp2_with (first | (go_at_call 20; with_reducible refine (apply_any hM'.out ok.out o).mono ?_; rintro e u4 ⟨vl, rfl, _, O4, hM4, hm4⟩; have hM4' := Lib.hid hM4; have hm4' := Lib.hid (hm'.out.trans hm4); clear hM4 hm4))
      refine ⟨⟨t + 1, O4, by omega, by go_num, by rw [hst.out]; exact hM4'.out, hm4'.out⟩, ?_⟩
      simp [intOf]; omega
    · obtain rfl : t = on := by omega
      go_wp2_with fail
      go_ret
      exact ⟨b, O', rfl, hM'.out, hF3.out.moves hm'.out⟩
end Go.Proofs.Ytlpacihkmfgegaa
