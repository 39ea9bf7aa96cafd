/- Package layout: the reference's Field; Size, Player, Body; the section's example. -/
import Derived.Test.YtknjdkgemkmoeaaLyF
import Derived.Test.YtknjdkgemkmoeaaLyE
namespace Go.Proofs.Ytknjdkgemkmoeaa
open Go.ChangeShapes Go.WideShapes Go.ChangeAt Go.RowKit
set_option linter.unusedSimpArgs false
set_option linter.unusedVariables false

def nmL : List ByteArray := [{ data := #[120] }, { data := #[121] }, { data := #[118, 120] }, { data := #[118, 121] }, { data := #[97] }, { data := #[98] }, { data := #[104, 105, 116] }, { data := #[115, 116, 105, 108, 108] }]
theorem nm_at {k : Nat} (h : k < 8) : ∃ b, nmL[k]? = some b ∧ fldV b = (k : Nat) := by
  rcases k with _ | _ | _ | _ | _ | _ | _ | _ | k
  · exact ⟨_, rfl, by decide⟩
  · exact ⟨_, rfl, by decide⟩
  · exact ⟨_, rfl, by decide⟩
  · exact ⟨_, rfl, by decide⟩
  · exact ⟨_, rfl, by decide⟩
  · exact ⟨_, rfl, by decide⟩
  · exact ⟨_, rfl, by decide⟩
  · exact ⟨_, rfl, by decide⟩
  · omega
theorem nm_none {s : ByteArray} (h : ∀ (k : Nat) (b : ByteArray), k < 8 → nmL[k]? = some b → b ≠ s) : fldV s = -1 := by
  unfold fldV
  rw [if_neg (h 0 _ (by decide) rfl).symm, if_neg (h 1 _ (by decide) rfl).symm, if_neg (h 2 _ (by decide) rfl).symm, if_neg (h 3 _ (by decide) rfl).symm,
    if_neg (h 4 _ (by decide) rfl).symm, if_neg (h 5 _ (by decide) rfl).symm, if_neg (h 6 _ (by decide) rfl).symm, if_neg (h 7 _ (by decide) rfl).symm]
theorem nm_cells (w : World) (t : TypeId) : ∀ (k : Nat) (b : ByteArray), nmL[k]? = some b → (w.alloc (.cells #[.string { data := #[120] }, .string { data := #[121] }, .string { data := #[118, 120] }, .string { data := #[118, 121] }, .string { data := #[97] }, .string { data := #[98] }, .string { data := #[104, 105, 116] }, .string { data := #[115, 116, 105, 108, 108] }] t)).cell? ⟨w.heap.size, k, none⟩ = some (.string b) := fun k b h => by
  rw [World.cell?_alloc_new]
  rcases k with _ | _ | _ | _ | _ | _ | _ | _ | k
  · cases h; rfl
  · cases h; rfl
  · cases h; rfl
  · cases h; rfl
  · cases h; rfl
  · cases h; rfl
  · cases h; rfl
  · cases h; rfl
  · cases h

theorem str_bne {a b : ByteArray} (h : a ≠ b) : (a.toList == b.toList) = false := by
  rw [ByteArray.toList_eq, ByteArray.toList_eq]
  rw [beq_eq_false_iff_ne]
  intro e1
  have e2 : a.data = b.data := Array.toList_inj.1 e1
  exact h (by cases a; cases b; cases e2; rfl)
set_option maxRecDepth 100000 in
set_option maxHeartbeats 8000000 in
theorem refField_any (s : ByteArray) (w : World) :
    Calls Try.prog 37 #[.string s] w fun e w' => e = .returned (.int .i64 (fldV s)) ∧ Below w.heap.size w w' := by
  have hc := Lib.hid (nm_cells w 9)
  have hb := Lib.hid (alloc_below w (.cells #[.string { data := #[120] }, .string { data := #[121] }, .string { data := #[118, 120] }, .string { data := #[118, 121] }, .string { data := #[97] }, .string { data := #[98] }, .string { data := #[104, 105, 116] }, .string { data := #[115, 116, 105, 108, 108] }] 9))
  go_enter Try.func37, Try.ntmps37
  go_upto_region 3 with fail
  generalize w.alloc (.cells #[.string { data := #[120] }, .string { data := #[121] }, .string { data := #[118, 120] }, .string { data := #[118, 121] }, .string { data := #[97] }, .string { data := #[98] }, .string { data := #[104, 105, 116] }, .string { data := #[115, 116, 105, 108, 108] }] 9) = W at *
  go_loop [4] (fun i => ∃ k : Nat, k ≤ 8 ∧ i = .int .i64 (k : Nat) ∧ ∀ (j : Nat) (b : ByteArray), j < k → nmL[j]? = some b → b ≠ s) (fun i => 8 - (intOf i).toNat)
  case atStart => exact ⟨0, by omega, rfl, fun j b h => absurd h (Nat.not_lt_zero _)⟩
  case round =>
    obtain ⟨k, hk, rfl, hall⟩ := hrel
    have hall' := Lib.hid hall
    clear hall
    by_cases hlt : k < 8
    · obtain ⟨b, hb1, hv⟩ := nm_at hlt
      have c0 := hc.out k b hb1
      have hb1' := Lib.hid hb1
      have hv' := Lib.hid hv
      clear hb1 hv
      by_cases he : b = s
      · subst he
        have e3 : (b.toList == b.toList) = true := by simp
        go_wp2
        go_ret
        exact ⟨by rw [hv'.out]; rfl, hb.out⟩
      · have e3 : (b.toList == s.toList) = false := str_bne he
        have he' := Lib.hid he
        clear he
        go_wp2_with fail
        go_round
        case rel => exact ⟨k + 1, by omega, by go_num, fun j y hj hy => by
          rcases Nat.lt_or_ge j k with h1 | h1
          · exact hall'.out j y h1 hy
          · obtain rfl : j = k := by omega
            rw [hb1'.out] at hy; cases hy; exact he'.out⟩
        case measure => simp [intOf]; omega
    · have hn := Lib.hid (nm_none (s := s) fun j y hj hy => hall'.out j y (by omega) hy)
      go_wp2
      go_ret
      exact ⟨by rw [hn.out]; rfl, hb.out⟩

/-- Few players, few bodies. -/
def Su.few (S : Su) : Prop := (0 ≤ S.pl ∧ S.pl ≤ 1000) ∧ S.bn ≤ 1000
def szV (S : Su) : Int := 48 + 4 * S.pl + 8 * (S.bn : Int)
def plV (S : Su) (p : Int) : Int := if 0 ≤ p ∧ p < S.pl then 48 + 4 * p else -1
def bdV (S : Su) (i : Int) : Int := if 0 ≤ i ∧ i < (S.bn : Int) then 48 + 4 * S.pl + 8 * i else -1
theorem w64_id {x : Int} (h1 : -1000000 ≤ x) (h2 : x ≤ 1000000) : wrap64 x = x := by unfold wrap64; omega
theorem wri_id {x : Int} (h1 : -1000000 ≤ x) (h2 : x ≤ 1000000) : IntKind.i64.wrap x = x := by rw [IntKind.wrap_i64]; omega

theorem sz_wrap {p : Int} {n : Nat} (f1 : 0 ≤ p) (f2 : p ≤ 1000) (f3 : n ≤ 1000) : IntKind.i64.wrap (48 + 4 * p + IntKind.i64.wrap (8 * (n : Int))) = 48 + 4 * p + 8 * (n : Int) := by
  rw [wri_id (x := 8 * (n : Int)) (by omega) (by omega), wri_id (by omega) (by omega)]
theorem bodiesFrom_any (S : Su) (hf : S.few) (w : World) : Calls Try.prog 78 #[(.agg #[.int .i64 S.pl, .slice S.ba S.bn S.bc, .int .i64 S.x0, .int .i64 S.y0, .int .i64 S.x1, .int .i64 S.y1, .slice S.ra S.rn S.rc, .slice S.da S.dn S.dc, .int .i64 S.fog, .int .i64 S.gx, .int .i64 S.gy, .int .i64 S.push, .int .i64 S.drag, .int .i64 S.rest, .int .i64 S.rounds, .int .i64 S.fuel])] w fun e w' => e = .returned (.int .i64 (48 + 4 * S.pl)) ∧ Below w.heap.size w w' := by
  obtain ⟨⟨f1, f2⟩, f3⟩ := hf
  have hb0 := Lib.hid (alloc_below w (.cells #[.int .i64 S.pl, .slice S.ba S.bn S.bc, .int .i64 S.x0, .int .i64 S.y0, .int .i64 S.x1, .int .i64 S.y1, .slice S.ra S.rn S.rc, .slice S.da S.dn S.dc, .int .i64 S.fog, .int .i64 S.gx, .int .i64 S.gy, .int .i64 S.push, .int .i64 S.drag, .int .i64 S.rest, .int .i64 S.rounds, .int .i64 S.fuel] 54))
  have e1 := w64_id (x := 4 * S.pl) (by omega) (by omega)
  have e2 := w64_id (x := 48 + 4 * S.pl) (by omega) (by omega)
  go_enter Try.func78, Try.ntmps78
  go_wp2
  go_ret
  exact ⟨rfl, hb0.out⟩
theorem refSize12_any (S : Su) (hf : S.few) (w : World) : Calls Try.prog 35 #[(.agg #[.int .i64 S.pl, .slice S.ba S.bn S.bc, .int .i64 S.x0, .int .i64 S.y0, .int .i64 S.x1, .int .i64 S.y1, .slice S.ra S.rn S.rc, .slice S.da S.dn S.dc, .int .i64 S.fog, .int .i64 S.gx, .int .i64 S.gy, .int .i64 S.push, .int .i64 S.drag, .int .i64 S.rest, .int .i64 S.rounds, .int .i64 S.fuel])] w fun e w' => e = .returned (.int .i64 (szV S)) ∧ Below w.heap.size w w' := by
  obtain ⟨⟨f1, f2⟩, f3⟩ := hf
  have hb0 := Lib.hid (alloc_below w (.cells #[.int .i64 S.pl, .slice S.ba S.bn S.bc, .int .i64 S.x0, .int .i64 S.y0, .int .i64 S.x1, .int .i64 S.y1, .slice S.ra S.rn S.rc, .slice S.da S.dn S.dc, .int .i64 S.fog, .int .i64 S.gx, .int .i64 S.gy, .int .i64 S.push, .int .i64 S.drag, .int .i64 S.rest, .int .i64 S.rounds, .int .i64 S.fuel] 54))
  have e1 := w64_id (x := 4 * S.pl) (by omega) (by omega)
  have e2 := w64_id (x := 48 + 4 * S.pl) (by omega) (by omega)
  have e3 := w64_id (x := 8 * (S.bn : Int)) (by omega) (by omega)
  have e4 := w64_id (x := 48 + 4 * S.pl + 8 * (S.bn : Int)) (by omega) (by omega)
  unfold szV
  go_enter Try.func35, Try.ntmps35
  go_wp2
  go_ret
  exact ⟨rfl, hb0.out⟩
set_option maxRecDepth 100000 in
set_option maxHeartbeats 16000000 in
theorem lySize_any (S : Su) (hf : S.few) (w : World) : Calls Try.prog 34 #[(.agg #[.int .i64 S.pl, .slice S.ba S.bn S.bc, .int .i64 S.x0, .int .i64 S.y0, .int .i64 S.x1, .int .i64 S.y1, .slice S.ra S.rn S.rc, .slice S.da S.dn S.dc, .int .i64 S.fog, .int .i64 S.gx, .int .i64 S.gy, .int .i64 S.push, .int .i64 S.drag, .int .i64 S.rest, .int .i64 S.rounds, .int .i64 S.fuel])] w fun e w' => e = .returned (.int .i64 (szV S)) ∧ Below w.heap.size w w' := by
  have hb0 := Lib.hid (alloc_below w (.cells #[.int .i64 S.pl, .slice S.ba S.bn S.bc, .int .i64 S.x0, .int .i64 S.y0, .int .i64 S.x1, .int .i64 S.y1, .slice S.ra S.rn S.rc, .slice S.da S.dn S.dc, .int .i64 S.fog, .int .i64 S.gx, .int .i64 S.gy, .int .i64 S.push, .int .i64 S.drag, .int .i64 S.rest, .int .i64 S.rounds, .int .i64 S.fuel] 54))
  have hS := Lib.hid (SuC.new w S)
  have k1 := Lib.hid (bodiesFrom_any S hf)
  obtain ⟨⟨f1, f2⟩, f3⟩ := hf
  have e3 := w64_id (x := 8 * (S.bn : Int)) (by omega) (by omega)
  have e4 := w64_id (x := 48 + 4 * S.pl + 8 * (S.bn : Int)) (by omega) (by omega)
  unfold szV
  have hs0 : w.heap.size < (w.alloc (.cells #[.int .i64 S.pl, .slice S.ba S.bn S.bc, .int .i64 S.x0, .int .i64 S.y0, .int .i64 S.x1, .int .i64 S.y1, .slice S.ra S.rn S.rc, .slice S.da S.dn S.dc, .int .i64 S.fog, .int .i64 S.gx, .int .i64 S.gy, .int .i64 S.push, .int .i64 S.drag, .int .i64 S.rest, .int .i64 S.rounds, .int .i64 S.fuel] 54)).heap.size := by rw [World.size_alloc]; omega
  go_enter Try.func34, Try.ntmps34
  go_upto_region 1 with fail
  generalize w.alloc (.cells #[.int .i64 S.pl, .slice S.ba S.bn S.bc, .int .i64 S.x0, .int .i64 S.y0, .int .i64 S.x1, .int .i64 S.y1, .slice S.ra S.rn S.rc, .slice S.da S.dn S.dc, .int .i64 S.fog, .int .i64 S.gx, .int .i64 S.gy, .int .i64 S.push, .int .i64 S.drag, .int .i64 S.rest, .int .i64 S.rounds, .int .i64 S.fuel] 54) = W at *
  obtain ⟨h0, h1, ⟨h2, h3, h4, h5⟩, h6, h7, h8, h9, h10, h11, h12, h13, h14, h15⟩ := hS.out
  go_cut [2] (fun v Z => v = .int .i64 (48 + 4 * S.pl + 8 * (S.bn : Int)) ∧ Below W.heap.size W Z)
  case first =>
    have bD : Below W.heap.size W W.drew := (Below.refl _ W).drew
    go_region_with (go_at_call 78; with_reducible refine (k1.out _).mono ?_; rintro e y1 ⟨rfl, hb1⟩; have hY := Lib.hid (below_step bD hb1); have l1 := carry hY.out h1; clear hb1)
    all_goals
      go_wp2_with fail
      go_meet
      exact ⟨congrArg (fun z => Value.int .i64 z) (sz_wrap f1 f2 f3), hY.out⟩
  obtain ⟨h2', hbZ⟩ := hcut
  subst h2'
  go_wp2
  go_ret
  exact ⟨rfl, below_step hb0.out hbZ⟩
theorem lyPlayer_any (S : Su) (hf : S.few) (p : Int) (w : World) : Calls Try.prog 30 #[(.agg #[.int .i64 S.pl, .slice S.ba S.bn S.bc, .int .i64 S.x0, .int .i64 S.y0, .int .i64 S.x1, .int .i64 S.y1, .slice S.ra S.rn S.rc, .slice S.da S.dn S.dc, .int .i64 S.fog, .int .i64 S.gx, .int .i64 S.gy, .int .i64 S.push, .int .i64 S.drag, .int .i64 S.rest, .int .i64 S.rounds, .int .i64 S.fuel]), .int .i64 p] w fun e w' => e = .returned (.int .i64 (plV S p)) ∧ Below w.heap.size w w' := by
  obtain ⟨⟨f1, f2⟩, f3⟩ := hf
  have hb0 := Lib.hid (alloc_below w (.cells #[.int .i64 S.pl, .slice S.ba S.bn S.bc, .int .i64 S.x0, .int .i64 S.y0, .int .i64 S.x1, .int .i64 S.y1, .slice S.ra S.rn S.rc, .slice S.da S.dn S.dc, .int .i64 S.fog, .int .i64 S.gx, .int .i64 S.gy, .int .i64 S.push, .int .i64 S.drag, .int .i64 S.rest, .int .i64 S.rounds, .int .i64 S.fuel] 54))
  have k1 := Lib.hid (isIndex_any p S.pl)
  by_cases h : 0 ≤ p ∧ p < S.pl
  · have hv := Lib.hid (show plV S p = 48 + 4 * p from if_pos h)
    rw [decide_eq_true h.1, decide_eq_true h.2] at k1
    have e1 := w64_id (x := 4 * p) (by omega) (by omega)
    have e2 := w64_id (x := 48 + 4 * p) (by omega) (by omega)
    clear h
    go_enter Try.func30, Try.ntmps30
    go_wp2_with fail
    with_reducible refine (k1.out _).mono ?_
    rintro e w1 ⟨rfl, rfl⟩
    go_wp2
    go_ret
    exact ⟨by rw [hv.out]; exact congrArg (fun z => Ending.returned (Value.int .i64 z)) e2, hb0.out⟩
  · have hv := Lib.hid (show plV S p = -1 from if_neg h)
    have hd : (decide (0 ≤ p) && decide (p < S.pl)) = false := by
      rw [Bool.and_eq_false_iff]
      by_cases h1 : 0 ≤ p
      · exact .inr (decide_eq_false fun h2 => h ⟨h1, h2⟩)
      · exact .inl (decide_eq_false h1)
    rw [hd] at k1
    clear h hd
    go_enter Try.func30, Try.ntmps30
    go_wp2_with fail
    with_reducible refine (k1.out _).mono ?_
    rintro e w1 ⟨rfl, rfl⟩
    go_wp2
    go_ret
    exact ⟨by rw [hv.out]; rfl, hb0.out⟩
theorem refPlayer_any (S : Su) (hf : S.few) (p : Int) (w : World) : Calls Try.prog 31 #[(.agg #[.int .i64 S.pl, .slice S.ba S.bn S.bc, .int .i64 S.x0, .int .i64 S.y0, .int .i64 S.x1, .int .i64 S.y1, .slice S.ra S.rn S.rc, .slice S.da S.dn S.dc, .int .i64 S.fog, .int .i64 S.gx, .int .i64 S.gy, .int .i64 S.push, .int .i64 S.drag, .int .i64 S.rest, .int .i64 S.rounds, .int .i64 S.fuel]), .int .i64 p] w fun e w' => e = .returned (.int .i64 (plV S p)) ∧ Below w.heap.size w w' := by
  obtain ⟨⟨f1, f2⟩, f3⟩ := hf
  have hb0 := Lib.hid (alloc_below w (.cells #[.int .i64 S.pl, .slice S.ba S.bn S.bc, .int .i64 S.x0, .int .i64 S.y0, .int .i64 S.x1, .int .i64 S.y1, .slice S.ra S.rn S.rc, .slice S.da S.dn S.dc, .int .i64 S.fog, .int .i64 S.gx, .int .i64 S.gy, .int .i64 S.push, .int .i64 S.drag, .int .i64 S.rest, .int .i64 S.rounds, .int .i64 S.fuel] 54))
  by_cases h0 : p < 0
  · have hv := Lib.hid (show plV S p = -1 from if_neg (by omega))
    go_enter Try.func31, Try.ntmps31
    go_wp2
    go_ret
    exact ⟨by rw [hv.out]; rfl, hb0.out⟩
  · by_cases h1 : p ≥ S.pl
    · have hv := Lib.hid (show plV S p = -1 from if_neg (by omega))
      go_enter Try.func31, Try.ntmps31
      go_wp2
      go_ret
      exact ⟨by rw [hv.out]; rfl, hb0.out⟩
    · have hv := Lib.hid (show plV S p = 48 + 4 * p from if_pos (by omega))
      have e1 := w64_id (x := 4 * p) (by omega) (by omega)
      have e2 := w64_id (x := 48 + 4 * p) (by omega) (by omega)
      go_enter Try.func31, Try.ntmps31
      go_wp2
      go_ret
      exact ⟨by rw [hv.out]; rfl, hb0.out⟩
theorem lyBody_any (S : Su) (hf : S.few) (p : Int) (w : World) : Calls Try.prog 32 #[(.agg #[.int .i64 S.pl, .slice S.ba S.bn S.bc, .int .i64 S.x0, .int .i64 S.y0, .int .i64 S.x1, .int .i64 S.y1, .slice S.ra S.rn S.rc, .slice S.da S.dn S.dc, .int .i64 S.fog, .int .i64 S.gx, .int .i64 S.gy, .int .i64 S.push, .int .i64 S.drag, .int .i64 S.rest, .int .i64 S.rounds, .int .i64 S.fuel]), .int .i64 p] w fun e w' => e = .returned (.int .i64 (bdV S p)) ∧ Below w.heap.size w w' := by
  have hb0 := Lib.hid (alloc_below w (.cells #[.int .i64 S.pl, .slice S.ba S.bn S.bc, .int .i64 S.x0, .int .i64 S.y0, .int .i64 S.x1, .int .i64 S.y1, .slice S.ra S.rn S.rc, .slice S.da S.dn S.dc, .int .i64 S.fog, .int .i64 S.gx, .int .i64 S.gy, .int .i64 S.push, .int .i64 S.drag, .int .i64 S.rest, .int .i64 S.rounds, .int .i64 S.fuel] 54))
  have k1 := Lib.hid (isIndex_any p (S.bn : Int))
  have k2 := Lib.hid (bodiesFrom_any S hf)
  obtain ⟨⟨f1, f2⟩, f3⟩ := hf
  by_cases h : 0 ≤ p ∧ p < (S.bn : Int)
  · have hv := Lib.hid (show bdV S p = 48 + 4 * S.pl + 8 * p from if_pos h)
    rw [decide_eq_true h.1, decide_eq_true h.2] at k1
    have e1 := w64_id (x := 8 * p) (by omega) (by omega)
    have e2 := w64_id (x := 48 + 4 * S.pl + 8 * p) (by omega) (by omega)
    clear h
    go_enter Try.func32, Try.ntmps32
    go_wp2_with fail
    with_reducible refine (k1.out _).mono ?_
    rintro e w1 ⟨rfl, rfl⟩
    go_wp2_with fail
    with_reducible refine (k2.out _).mono ?_
    rintro e w2 ⟨rfl, hb2⟩
    have hB := Lib.hid (below_step hb0.out hb2)
    go_wp2
    go_ret
    exact ⟨by rw [hv.out]; exact congrArg (fun z => Ending.returned (Value.int .i64 z)) e2, hB.out⟩
  · have hv := Lib.hid (show bdV S p = -1 from if_neg h)
    have hd : (decide (0 ≤ p) && decide (p < (S.bn : Int))) = false := by
      rw [Bool.and_eq_false_iff]
      by_cases h1 : 0 ≤ p
      · exact .inr (decide_eq_false fun h2 => h ⟨h1, h2⟩)
      · exact .inl (decide_eq_false h1)
    rw [hd] at k1
    clear h hd
    go_enter Try.func32, Try.ntmps32
    go_wp2_with fail
    with_reducible refine (k1.out _).mono ?_
    rintro e w1 ⟨rfl, rfl⟩
    go_wp2
    go_ret
    exact ⟨by rw [hv.out]; rfl, hb0.out⟩
theorem refBody_any (S : Su) (hf : S.few) (p : Int) (w : World) : Calls Try.prog 33 #[(.agg #[.int .i64 S.pl, .slice S.ba S.bn S.bc, .int .i64 S.x0, .int .i64 S.y0, .int .i64 S.x1, .int .i64 S.y1, .slice S.ra S.rn S.rc, .slice S.da S.dn S.dc, .int .i64 S.fog, .int .i64 S.gx, .int .i64 S.gy, .int .i64 S.push, .int .i64 S.drag, .int .i64 S.rest, .int .i64 S.rounds, .int .i64 S.fuel]), .int .i64 p] w fun e w' => e = .returned (.int .i64 (bdV S p)) ∧ Below w.heap.size w w' := by
  obtain ⟨⟨f1, f2⟩, f3⟩ := hf
  have hb0 := Lib.hid (alloc_below w (.cells #[.int .i64 S.pl, .slice S.ba S.bn S.bc, .int .i64 S.x0, .int .i64 S.y0, .int .i64 S.x1, .int .i64 S.y1, .slice S.ra S.rn S.rc, .slice S.da S.dn S.dc, .int .i64 S.fog, .int .i64 S.gx, .int .i64 S.gy, .int .i64 S.push, .int .i64 S.drag, .int .i64 S.rest, .int .i64 S.rounds, .int .i64 S.fuel] 54))
  by_cases h0 : p < 0
  · have hv := Lib.hid (show bdV S p = -1 from if_neg (by omega))
    go_enter Try.func33, Try.ntmps33
    go_wp2
    go_ret
    exact ⟨by rw [hv.out]; rfl, hb0.out⟩
  · by_cases h1 : p ≥ (S.bn : Int)
    · have hv := Lib.hid (show bdV S p = -1 from if_neg (by omega))
      go_enter Try.func33, Try.ntmps33
      go_wp2
      go_ret
      exact ⟨by rw [hv.out]; rfl, hb0.out⟩
    · have hv := Lib.hid (show bdV S p = 48 + 4 * S.pl + 8 * p from if_pos (by omega))
      have e0 := w64_id (x := 4 * S.pl) (by omega) (by omega)
      have e1 := w64_id (x := 48 + 4 * S.pl) (by omega) (by omega)
      have e2 := w64_id (x := 8 * p) (by omega) (by omega)
      have e3 := w64_id (x := 48 + 4 * S.pl + 8 * p) (by omega) (by omega)
      go_enter Try.func33, Try.ntmps33
      go_wp2
      go_ret
      exact ⟨by rw [hv.out]; rfl, hb0.out⟩
end Go.Proofs.Ytknjdkgemkmoeaa
