/- The reference of merkle: Cells, Wrong; slices of leaves. -/
import Derived.Test.YthpdohfekillkaaMkE
import Derived.Test.YthpdohfekillkaaHaL
import Derived.BigQuiet
namespace Go.Proofs.Ythpdohfekillkaa
open Go.ChangeShapes Go.WideShapes Go.ChangeAt Go.RowKit Go.Shelf
set_option linter.unusedSimpArgs false
set_option linter.unusedVariables false

theorem refCells_any (v : Value) (l : List Int) (w : World) (h : IL w v l) (hnn : ∀ n c, v = .slice none n c → v = .slice none 0 0) :
    Calls Try.prog 11 #[v] w fun e w' => (∃ v, e = .returned v ∧ w'.ownsRow w.heap.size 3 1 v (l.take 20).length (ints (l.take 20))) ∧ Below w.heap.size w w' := by
  have K := Lib.hid (show Calls Try.prog 32 #[v, .int .i64 20] w fun e w' => (∃ v, e = .returned v ∧ w'.ownsRow w.heap.size 3 1 v (l.take 20).length (ints (l.take 20))) ∧ Below w.heap.size w w' from ints_any v l 20 w h hnn (by decide))
  clear h hnn
  generalize l.take 20 = M at *
  go_enter Try.func11, Try.ntmps11
  go_wp2_with fail
  refine (K.out).mono ?_
  rintro e w1 ⟨⟨u, rfl, ho⟩, hb⟩
  go_wp2
  go_ret
  exact ⟨⟨_, rfl, ho⟩, hb⟩

/-! ## Slices of leaves -/
structure Lf where
  i : Int
  v : Int
  pv : Value
  l : List W64
/-- What is asked of a leaf in memory. -/
structure LfAt (w : World) (g o : Nat) (f : Lf) : Prop where
  c0 : w.cell? ⟨g, o, none⟩ = some (.int .i64 f.i)
  c1 : w.cell? ⟨g, o + 1, none⟩ = some (.int .i64 f.v)
  c2 : w.cell? ⟨g, o + 2, none⟩ = some f.pv
  pr : VL w f.pv (u64s f.l)
  few : f.l.length ≤ 1000
theorem LfAt.carry {w w' : World} {g o : Nat} {f : Lf} (h : LfAt w g o f) (hb : Below w.heap.size w w') : LfAt w' g o f :=
  ⟨Proofs.Ythpdohfekillkaa.carry hb h.c0, Proofs.Ythpdohfekillkaa.carry hb h.c1, Proofs.Ythpdohfekillkaa.carry hb h.c2, h.pr.carry hb, h.few⟩
def LL (w : World) (v : Value) (ls : List Lf) : Prop :=
  ∃ a cap, v = .slice a ls.length cap ∧ ls.length ≤ cap ∧ cap ≤ maxLen ∧ (0 < ls.length → ∃ g off, a = some ⟨g, off, none⟩ ∧ g < w.heap.size ∧ ∀ k f, ls[k]? = some f → LfAt w g (off + k * 3) f)
theorem LL.carry {w w' : World} {v : Value} {ls : List Lf} (h : LL w v ls) (hb : Below w.heap.size w w') : LL w' v ls := by
  obtain ⟨a, cap, h1, h2, h3, h4⟩ := h
  exact ⟨a, cap, h1, h2, h3, fun hp => let ⟨g, off, e, hg, hc⟩ := h4 hp; ⟨g, off, e, Nat.lt_of_lt_of_le hg hb.size, fun k f hk => (hc k f hk).carry hb⟩⟩

/-! ## Wrong -/
def clash (h f : Lf) : Bool := (h.i == f.i) && !(h.v == f.v)
def okI (root : W64) (n : Nat) (ls : List Lf) (t : Nat) : Prop := ∀ f, ls[t]? = some f → verW root n f.i f.v f.l = true ∧ ∀ k h, k < t → ls[k]? = some h → clash h f = false
def okL (root : W64) (n : Nat) (ls : List Lf) : Prop := ∀ t, okI root n ls t
open Classical in
noncomputable def wrongV (root : W64) (n : Nat) (ls : List Lf) : Int := if okL root n ls then 0 else 22
theorem wrong_no {root : W64} {n : Nat} {ls : List Lf} {t : Nat} (h : ¬ okI root n ls t) : wrongV root n ls = 22 := by unfold wrongV; rw [if_neg fun k => h (k t)]
theorem wrong_yes {root : W64} {n : Nat} {ls : List Lf} (h : ∀ t, t < ls.length → okI root n ls t) : wrongV root n ls = 0 := by
  unfold wrongV
  rw [if_pos]
  intro t
  rcases Nat.lt_or_ge t ls.length with h1 | h1
  · exact h t h1
  · intro f hf
    rw [List.getElem?_eq_none h1] at hf
    cases hf

set_option maxRecDepth 100000 in
set_option maxHeartbeats 8000000 in
theorem refWrong_any (root : W64) (n : Nat) (v : Value) (ls : List Lf) (w : World) (h : LL w v ls) (hn : n ≤ 65536) (hl : ls.length ≤ 1000) :
    Calls Try.prog 31 #[.int .u64 (root.toNat : Int), .int .i64 (n : Nat), v] w fun e w' => e = .returned (.int .i64 (wrongV root n ls)) ∧ Below w.heap.size w w' := by
  obtain ⟨a, cap, rfl, h1, h2, h3⟩ := h
  unfold maxLen at h2
  obtain ⟨m, hm⟩ : ∃ m, m = ls.length := ⟨_, rfl⟩
  have hm' := Lib.hid hm
  rw [← hm] at h1 h3 hl ⊢
  have hc := Lib.hid h3
  clear hm h3
  go_enter Try.func31, Try.ntmps31
  go_wp2_with fail
  go_loopw [7] (fun i wr => ∃ t : Nat, t ≤ m ∧ i = .int .i64 (t : Nat) ∧ (∀ q, q < t → okI root n ls q) ∧ Below w.heap.size w wr) (fun i _ => m - (intOf i).toNat)
  case atStart => exact ⟨0, Nat.zero_le _, rfl, fun q hq => absurd hq (Nat.not_lt_zero _), Below.refl _ _⟩
  case round =>
    obtain ⟨t, ht, rfl, hok, hb⟩ := hrel
    have hok' := Lib.hid hok
    have hb' := Lib.hid hb
    clear hok hb
    by_cases hlt : t < m
    · obtain ⟨g, off, rfl, hg, hcc⟩ := hc.out (by omega)
      obtain ⟨f, hf⟩ : ∃ f, ls[t]? = some f := ⟨_, List.getElem?_eq_getElem (by rw [← hm'.out]; exact hlt)⟩
      have hF := (hcc t f hf).carry hb'.out
      have c0 := hF.c0
      have c1 := hF.c1
      have c2 := hF.c2
      have kV := Lib.hid (refVerify_any root n f.i f.v f.pv f.l wr hF.pr hn hF.few)
      have hFF := Lib.hid hF
      have hff := Lib.hid hf
      have hcl := Lib.hid hcc
      clear hF hf hcc
      obtain ⟨bb, hbb⟩ : ∃ bb, verW root n f.i f.v f.l = bb := ⟨_, rfl⟩
      rw [hbb] at kV
      have hbv := Lib.hid hbb
      clear hbb
      cases bb with
      | false =>
        have hno := Lib.hid (wrong_no (root := root) (n := n) (ls := ls) (t := t) fun h => by have := (h f hff.out).1; rw [hbv.out] at this; cases this)
        go_wp2_with (go_at_call 24; with_reducible refine kV.out.mono ?_; rintro e w1 ⟨rfl, hb1⟩; have hB1 := Lib.hid (below_step hb'.out hb1); clear hb1)
        go_ret
        exact ⟨by rw [hno.out]; rfl, hB1.out⟩
      | true =>
        go_wp2_with (go_at_call 24; with_reducible refine kV.out.mono ?_; rintro e w1 ⟨rfl, hb1⟩; have hB1 := Lib.hid (below_step hb'.out hb1); have hFw := Lib.hid (hFF.out.carry hb1); clear hb1)
        clear c0 c1 c2
        go_loopw [9] (fun q wx => ∃ k : Nat, k ≤ t ∧ q = .int .i64 (k : Nat) ∧ (∀ j h, j < k → ls[j]? = some h → clash h f = false) ∧ Below w1.heap.size w1 wx) (fun q _ => t - (intOf q).toNat)
        case atStart => exact ⟨0, Nat.zero_le _, rfl, fun j h hj => absurd hj (Nat.not_lt_zero _), Below.refl _ _⟩
        case round =>
          obtain ⟨k, hk, rfl, hall, hbx⟩ := hrel
          have hall' := Lib.hid hall
          have hbx' := Lib.hid hbx
          have hBx := Lib.hid (below_step hB1.out hbx)
          clear hall hbx
          by_cases hkt : k < t
          · obtain ⟨h, hh⟩ : ∃ h, ls[k]? = some h := ⟨_, List.getElem?_eq_getElem (by rw [← hm'.out]; omega)⟩
            have hH := (hcl.out k h hh).carry hBx.out
            have d0 := hH.c0
            have d1 := hH.c1
            have c0 := carry hbx'.out hFw.out.c0
            have c1 := carry hbx'.out hFw.out.c1
            have hh' := Lib.hid hh
            have hcd := Lib.hid (show clash h f = ((h.i == f.i) && !(h.v == f.v)) from rfl)
            clear hH hh
            generalize h.i = hi at *
            generalize h.v = hv at *
            generalize f.i = fi at *
            generalize f.v = fv at *
            by_cases e1 : hi = fi
            · subst e1
              have b1 := bq_self hi
              by_cases e2 : hv = fv
              · subst e2
                have b2 := bq_self hv
                go_wp2_with fail
                go_quiet (fail)
                go_wp2
                go_roundw
                case rel => exact ⟨k + 1, by omega, by go_num, fun j y hj hy => by
                  rcases Nat.lt_or_ge j k with h1 | h1
                  · exact hall'.out j y h1 hy
                  · obtain rfl : j = k := by omega
                    rw [hh'.out] at hy
                    cases hy
                    rw [hcd.out]; simp, below_step hbx'.out (below_drewN _ _)⟩
                case measure => simp [intOf]; omega
              · have b2 : (hv == fv) = false := by simpa using e2
                have hno := Lib.hid (wrong_no (root := root) (n := n) (ls := ls) (t := t) fun h' => by
                  have h2 := (h' f hff.out).2 k h hkt hh'.out
                  rw [hcd.out] at h2
                  simp [e2] at h2)
                go_wp2_with fail
                go_quiet (fail)
                go_wp2
                refine bodyPost_ret (v := .int .i64 22) (by simp [results, Try.results31, go_sem]) rfl ⟨by rw [hno.out], below_step hBx.out (below_drewN _ _)⟩
            · have b1 : (hi == fi) = false := by simpa using e1
              go_wp2_with fail
              go_quiet (fail)
              go_wp2
              go_roundw
              case rel => exact ⟨k + 1, by omega, by go_num, fun j y hj hy => by
                rcases Nat.lt_or_ge j k with h1 | h1
                · exact hall'.out j y h1 hy
                · obtain rfl : j = k := by omega
                  rw [hh'.out] at hy
                  cases hy
                  rw [hcd.out, b1]; rfl, below_step hbx'.out (below_drewN _ _)⟩
              case measure => simp [intOf]; omega
          · obtain rfl : k = t := by omega
            go_wp2
            go_roundw
            case rel => exact ⟨k + 1, hlt, by go_num, fun q hq => by
              rcases Nat.lt_or_ge q k with h1 | h1
              · exact hok'.out q h1
              · obtain rfl : q = k := by omega
                intro f' hf'
                rw [hff.out] at hf'
                cases hf'
                exact ⟨hbv.out, fun j y hj hy => hall'.out j y hj hy⟩, hBx.out⟩
            case measure => simp [intOf]; omega
    · obtain rfl : t = m := by omega
      have hyes := Lib.hid (wrong_yes (root := root) (n := n) (ls := ls) fun q hq => hok'.out q (by rw [hm'.out]; exact hq))
      go_wp2
      go_ret
      exact ⟨by rw [hyes.out]; rfl, hb'.out⟩
end Go.Proofs.Ythpdohfekillkaa
