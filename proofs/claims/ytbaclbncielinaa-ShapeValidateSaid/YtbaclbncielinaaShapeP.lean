/- ShapeValidate's walk . -/
import Derived.Test.YtbaclbncielinaaShapeO
import Derived.Deep.RegionHeld3
namespace Go.Proofs.Ytbaclbncielinaa
open Go.ChangeShapes Go.WideShapes Go.ChangeAt Go.RowKit
open Fxm
set_option linter.unusedSimpArgs false
set_option linter.unusedVariables false

set_option maxRecDepth 100000 in
set_option maxHeartbeats 8000000 in
theorem sval_any (r n how by' : Int) (a : Option Addr) (l cap : Nat) (vs : List (Int × Int)) (w : World) (hl : l ≤ 8) (hP : Poly w (.slice a l cap) vs) (hn : (Lit.int .i64 n).wf = true) (hh : (Lit.int .i64 how).wf = true) (hb : (Lit.int .i64 by').wf = true) :
    Calls Try.prog 3 #[.agg #[.int .i64 r, .slice a l cap], .int .i64 n, .int .i64 how, .int .i64 by'] w fun e w' => e = .returned (.bool true) ∧ Below w.heap.size w w' := by
  obtain ⟨n1, n2⟩ := bounds_i64 hn
  have hl' : (l : Int) ≤ 8 := by omega
  have hP' := Lib.hid hP
  clear hP
  go_enter Try.func3, Try.ntmps3
  go_wp2_with fail
  refine (shapes_any n _ hn).mono ?_
  rintro e w1 ⟨s, rfl, hS, hb1⟩
  have hS' := Lib.hid hS
  clear hS
  have c0 : w1.cell? ⟨w.heap.size, 0, none⟩ = some (.int .i64 r) := (hb1.cell (by simp)).trans (by simp [go_sem])
  have c1 : w1.cell? ⟨w.heap.size, 1, none⟩ = some (.slice a l cap) := (hb1.cell (by simp)).trans (by simp [go_sem])
  have hB1 : Below w.heap.size w w1 := below_step (alloc_below w _) hb1
  have hz1 : w.heap.size + 1 ≤ w1.heap.size := by have := hb1.size; simp at this; omega
  have hB1' := Lib.hid hB1
  clear hb1 hB1
  go_wp2_with fail
  obtain ⟨U, hU⟩ : ∃ U, U = w1.alloc (.cells #[.int .i64 s.r, .slice s.a s.n s.cap] 24) := ⟨_, rfl⟩
  rw [← hU]
  have hUb : Below w1.heap.size w1 U := by rw [hU]; exact alloc_below _ _
  have q1 : w1.heap.size < U.heap.size := by rw [hU]; simp
  have q0 : w.heap.size < U.heap.size := by omega
  have u0 : U.cell? ⟨w.heap.size, 0, none⟩ = some (.int .i64 r) := carry hUb c0
  have u1 : U.cell? ⟨w.heap.size, 1, none⟩ = some (.slice a l cap) := carry hUb c1
  have u2 : U.cell? ⟨w1.heap.size, 0, none⟩ = some (.int .i64 s.r) := by rw [hU]; simp [go_sem]
  have u3 : U.cell? ⟨w1.heap.size, 1, none⟩ = some (.slice s.a s.n s.cap) := by rw [hU]; simp [go_sem]
  have hSU := Lib.hid (hS'.out.carry hUb)
  have hBU := Lib.hid (below_step hB1'.out hUb)
  clear hU hUb hB1' c0 c1 hS'
  have mk := Lib.hid (fun w' (hh2 : Below U.heap.size U w') => (⟨(hh2.cell q0).trans u0, (hh2.cell q0).trans u1, (hh2.cell q1).trans u2, (hh2.cell q1).trans u3, hh2⟩ : w'.cell? ⟨w.heap.size, 0, none⟩ = some (.int .i64 r) ∧ w'.cell? ⟨w.heap.size, 1, none⟩ = some (.slice a l cap) ∧ w'.cell? ⟨w1.heap.size, 0, none⟩ = some (.int .i64 s.r) ∧ w'.cell? ⟨w1.heap.size, 1, none⟩ = some (.slice s.a s.n s.cap) ∧ Below U.heap.size U w'))
  go_region_held3 (fun w' => w'.cell? ⟨w.heap.size, 0, none⟩ = some (.int .i64 r) ∧ w'.cell? ⟨w.heap.size, 1, none⟩ = some (.slice a l cap) ∧ w'.cell? ⟨w1.heap.size, 0, none⟩ = some (.int .i64 s.r) ∧ w'.cell? ⟨w1.heap.size, 1, none⟩ = some (.slice s.a s.n s.cap) ∧ Below U.heap.size U w')
    (first | (exact mk.out _ (Below.refl _ _).drew) | (exact mk.out _ (below_step (Below.refl U.heap.size U).drew (by assumption))) | (exact mk.out _ (below_step (below_step (Below.refl U.heap.size U).drew (by assumption)) (alloc_below _ _))))
    (first | (go_at_call 5; refine (Sh.bent (hSU.out.carry ((Below.refl _ _).drew)) _ _ hh hb).mono ?_; rintro e w2 ⟨⟨r2, a2, l2, k2, vs2, rfl, hP2⟩, hb2⟩))
  clear mk
  have hBV : Below U.heap.size U w2 := below_step (Below.refl U.heap.size U).drew hb2
  obtain ⟨V, hV⟩ : ∃ V, V = w2.alloc (.cells #[.int .i64 r, .slice a l cap, .int .i64 r2, .slice a2 l2 k2] 24) := ⟨_, rfl⟩
  have hVb : Below w2.heap.size w2 V := by rw [hV]; exact alloc_below _ _
  have hVU := below_step hBV hVb
  have v0 : V.cell? ⟨w2.heap.size, 0, none⟩ = some (.int .i64 r) := by rw [hV]; simp [go_sem]
  have v1 : V.cell? ⟨w2.heap.size, 1, none⟩ = some (.slice a l cap) := by rw [hV]; simp [go_sem]
  have v2 : V.cell? ⟨w2.heap.size, 2, none⟩ = some (.int .i64 r2) := by rw [hV]; simp [go_sem]
  have v3 : V.cell? ⟨w2.heap.size, 3, none⟩ = some (.slice a2 l2 k2) := by rw [hV]; simp [go_sem]
  have t2 : V.cell? ⟨w1.heap.size, 0, none⟩ = some (.int .i64 s.r) := (hVU.cell q1).trans u2
  have t3 : V.cell? ⟨w1.heap.size, 1, none⟩ = some (.slice s.a s.n s.cap) := (hVU.cell q1).trans u3
  have q2 : w2.heap.size < V.heap.size := by rw [hV]; simp
  have hSV := Lib.hid (hSU.out.carry hVU)
  have hWV := Lib.hid (below_step hBU.out hVU)
  have hPV := Lib.hid (hP'.out.carry hWV.out)
  have hPV2 := Lib.hid (hP2.carry hVb)
  clear hP2 hP' hSU hBU u0 u1 u2 u3
  rw [← hV]
  go_wp2_with fail
  go_loopw [11] (fun i wr => ∃ c : Nat, c ≤ 2 ∧ i = .int .i64 c ∧ Below V.heap.size V wr) (fun i _ => 2 - (intOf i).toNat)
  case atStart => exact ⟨0, by omega, rfl, Below.refl _ _⟩
  case round =>
    obtain ⟨c, hc, rfl, hbl⟩ := hrel
    replace v0 := carry hbl v0
    replace v1 := carry hbl v1
    replace v2 := carry hbl v2
    replace v3 := carry hbl v3
    replace t2 := carry hbl t2
    replace t3 := carry hbl t3
    have hcc : c = 0 ∨ c = 1 ∨ c = 2 := by omega
    rcases hcc with rfl | rfl | rfl
    · skip
      go_wp2_with fail
      refine (refValid_any r _ vs _ (hPV.out.carry hbl)).mono ?_
      rintro e x1 ⟨rfl, hx1⟩
      replace v0 := carry hx1 v0
      replace v1 := carry hx1 v1
      replace v2 := carry hx1 v2
      replace v3 := carry hx1 v3
      obtain ⟨b, hb0⟩ : ∃ b, b = pB (Valid r vs) := ⟨_, rfl⟩
      have hb' := Lib.hid hb0
      rw [← hb0]
      clear hb0
      go_wp2_with fail
      refine (validate_any r _ vs _ (hPV.out.carry (below_step hbl hx1))).mono ?_
      rintro e x2 ⟨rfl, hx2⟩
      rw [← hb'.out]
      cases b <;> (
        go_wp2_with fail
        go_roundw
        case rel => exact ⟨1, by omega, by go_num, below_step (below_step hbl hx1) hx2⟩
        case measure => simp [intOf])
    · skip
      go_wp2_with fail
      refine (refValid_any r2 _ vs2 _ (hPV2.out.carry hbl)).mono ?_
      rintro e x1 ⟨rfl, hx1⟩
      replace v0 := carry hx1 v0
      replace v1 := carry hx1 v1
      replace v2 := carry hx1 v2
      replace v3 := carry hx1 v3
      obtain ⟨b, hb0⟩ : ∃ b, b = pB (Valid r2 vs2) := ⟨_, rfl⟩
      have hb' := Lib.hid hb0
      rw [← hb0]
      clear hb0
      go_wp2_with fail
      refine (validate_any r2 _ vs2 _ (hPV2.out.carry (below_step hbl hx1))).mono ?_
      rintro e x2 ⟨rfl, hx2⟩
      rw [← hb'.out]
      cases b <;> (
        go_wp2_with fail
        go_roundw
        case rel => exact ⟨2, by omega, by go_num, below_step (below_step hbl hx1) hx2⟩
        case measure => simp [intOf])
    · go_wp2_with fail
      refine (Sh.validate (hSV.out.carry hbl)).mono ?_
      rintro e x8 ⟨rfl, hb8⟩
      go_wp2_with fail
      refine (lives3_any _).mono ?_
      rintro e x9 ⟨rfl, hb9⟩
      go_wp2
      go_ret
      exact ⟨rfl, below_step (below_step (below_step hWV.out hbl) hb8) hb9⟩

theorem RowO.take8 {w : World} {g off cap : Nat} {vs : List (Int × Int)} (h : RowO w g off cap vs) (hl : 8 < vs.length) : Poly w (.slice (some ⟨g, off, none⟩) 8 cap) (vs.take 8) := by
  have hlen : (vs.take 8).length = 8 := by rw [List.length_take]; omega
  refine Or.inr ⟨g, off, cap, by rw [hlen], ⟨by rw [hlen]; have := h.le; omega, h.max, fun i u hu => h.cells i u ?_⟩⟩
  have e : flatV vs = flatV (vs.take 8) ++ flatV (vs.drop 8) := by rw [← flatV_append, List.take_append_drop]
  rw [e, List.getElem?_append_left (List.getElem?_eq_some_iff.1 hu).1]
  exact hu

set_option maxRecDepth 100000 in
set_option maxHeartbeats 8000000 in
theorem sval8_any (r n how by' : Int) (g off cap : Nat) (vso : List (Int × Int)) (w : World) (hl : 8 < vso.length) (hR : RowO w g off cap vso) (hn : (Lit.int .i64 n).wf = true) (hh : (Lit.int .i64 how).wf = true) (hb : (Lit.int .i64 by').wf = true) :
    Calls Try.prog 3 #[.agg #[.int .i64 r, .slice (some ⟨g, off, none⟩) vso.length cap], .int .i64 n, .int .i64 how, .int .i64 by'] w fun e w' => e = .returned (.bool true) ∧ Below w.heap.size w w' := by
  obtain ⟨n1, n2⟩ := bounds_i64 hn
  have hle := hR.le
  have hmx := hR.max
  unfold maxLen at hmx
  have hlA : (8 : Int) < (vso.length : Int) := by omega
  have hlB : (8 : Int) ≤ (cap : Int) := by omega
  have hlC : 8 ≤ cap := by omega
  obtain ⟨vs, hvs⟩ : ∃ vs, vs = vso.take 8 := ⟨_, rfl⟩
  have hP' := Lib.hid (hvs ▸ hR.take8 hl : Poly w (.slice (some ⟨g, off, none⟩) 8 cap) vs)
  clear hR hvs hle
  go_enter Try.func3, Try.ntmps3
  go_wp2_with fail
  refine (shapes_any n _ hn).mono ?_
  rintro e w1 ⟨s, rfl, hS, hb1⟩
  have hS' := Lib.hid hS
  clear hS
  have c0 : w1.cell? ⟨w.heap.size, 0, none⟩ = some (.int .i64 r) := (hb1.cell (by simp [World.setCell])).trans (by simp [go_sem])
  have c1 : w1.cell? ⟨w.heap.size, 1, none⟩ = some (.slice (some ⟨g, off, none⟩) 8 cap) := (hb1.cell (by simp [World.setCell])).trans (by simp [go_sem])
  have hB1 : Below w.heap.size w w1 := below_step (alloc_below w _) hb1
  have hz1 : w.heap.size + 1 ≤ w1.heap.size := by have := hb1.size; simp [World.setCell] at this; omega
  have hB1' := Lib.hid hB1
  clear hb1 hB1
  go_wp2_with fail
  obtain ⟨U, hU⟩ : ∃ U, U = w1.alloc (.cells #[.int .i64 s.r, .slice s.a s.n s.cap] 24) := ⟨_, rfl⟩
  rw [← hU]
  have hUb : Below w1.heap.size w1 U := by rw [hU]; exact alloc_below _ _
  have q1 : w1.heap.size < U.heap.size := by rw [hU]; simp
  have q0 : w.heap.size < U.heap.size := by omega
  have u0 : U.cell? ⟨w.heap.size, 0, none⟩ = some (.int .i64 r) := carry hUb c0
  have u1 : U.cell? ⟨w.heap.size, 1, none⟩ = some (.slice (some ⟨g, off, none⟩) 8 cap) := carry hUb c1
  have u2 : U.cell? ⟨w1.heap.size, 0, none⟩ = some (.int .i64 s.r) := by rw [hU]; simp [go_sem]
  have u3 : U.cell? ⟨w1.heap.size, 1, none⟩ = some (.slice s.a s.n s.cap) := by rw [hU]; simp [go_sem]
  have hSU := Lib.hid (hS'.out.carry hUb)
  have hBU := Lib.hid (below_step hB1'.out hUb)
  clear hU hUb hB1' c0 c1 hS'
  have mk := Lib.hid (fun w' (hh2 : Below U.heap.size U w') => (⟨(hh2.cell q0).trans u0, (hh2.cell q0).trans u1, (hh2.cell q1).trans u2, (hh2.cell q1).trans u3, hh2⟩ : w'.cell? ⟨w.heap.size, 0, none⟩ = some (.int .i64 r) ∧ w'.cell? ⟨w.heap.size, 1, none⟩ = some (.slice (some ⟨g, off, none⟩) 8 cap) ∧ w'.cell? ⟨w1.heap.size, 0, none⟩ = some (.int .i64 s.r) ∧ w'.cell? ⟨w1.heap.size, 1, none⟩ = some (.slice s.a s.n s.cap) ∧ Below U.heap.size U w'))
  go_region_held3 (fun w' => w'.cell? ⟨w.heap.size, 0, none⟩ = some (.int .i64 r) ∧ w'.cell? ⟨w.heap.size, 1, none⟩ = some (.slice (some ⟨g, off, none⟩) 8 cap) ∧ w'.cell? ⟨w1.heap.size, 0, none⟩ = some (.int .i64 s.r) ∧ w'.cell? ⟨w1.heap.size, 1, none⟩ = some (.slice s.a s.n s.cap) ∧ Below U.heap.size U w')
    (first | (exact mk.out _ (Below.refl _ _).drew) | (exact mk.out _ (below_step (Below.refl U.heap.size U).drew (by assumption))) | (exact mk.out _ (below_step (below_step (Below.refl U.heap.size U).drew (by assumption)) (alloc_below _ _))))
    (first | (go_at_call 5; refine (Sh.bent (hSU.out.carry ((Below.refl _ _).drew)) _ _ hh hb).mono ?_; rintro e w2 ⟨⟨r2, a2, l2, k2, vs2, rfl, hP2⟩, hb2⟩))
  clear mk
  have hBV : Below U.heap.size U w2 := below_step (Below.refl U.heap.size U).drew hb2
  obtain ⟨V, hV⟩ : ∃ V, V = w2.alloc (.cells #[.int .i64 r, .slice (some ⟨g, off, none⟩) 8 cap, .int .i64 r2, .slice a2 l2 k2] 24) := ⟨_, rfl⟩
  have hVb : Below w2.heap.size w2 V := by rw [hV]; exact alloc_below _ _
  have hVU := below_step hBV hVb
  have v0 : V.cell? ⟨w2.heap.size, 0, none⟩ = some (.int .i64 r) := by rw [hV]; simp [go_sem]
  have v1 : V.cell? ⟨w2.heap.size, 1, none⟩ = some (.slice (some ⟨g, off, none⟩) 8 cap) := by rw [hV]; simp [go_sem]
  have v2 : V.cell? ⟨w2.heap.size, 2, none⟩ = some (.int .i64 r2) := by rw [hV]; simp [go_sem]
  have v3 : V.cell? ⟨w2.heap.size, 3, none⟩ = some (.slice a2 l2 k2) := by rw [hV]; simp [go_sem]
  have t2 : V.cell? ⟨w1.heap.size, 0, none⟩ = some (.int .i64 s.r) := (hVU.cell q1).trans u2
  have t3 : V.cell? ⟨w1.heap.size, 1, none⟩ = some (.slice s.a s.n s.cap) := (hVU.cell q1).trans u3
  have q2 : w2.heap.size < V.heap.size := by rw [hV]; simp
  have hSV := Lib.hid (hSU.out.carry hVU)
  have hWV := Lib.hid (below_step hBU.out hVU)
  have hPV := Lib.hid (hP'.out.carry hWV.out)
  have hPV2 := Lib.hid (hP2.carry hVb)
  clear hP2 hP' hSU hBU u0 u1 u2 u3
  rw [← hV]
  go_wp2_with fail
  go_loopw [11] (fun i wr => ∃ c : Nat, c ≤ 2 ∧ i = .int .i64 c ∧ Below V.heap.size V wr) (fun i _ => 2 - (intOf i).toNat)
  case atStart => exact ⟨0, by omega, rfl, Below.refl _ _⟩
  case round =>
    obtain ⟨c, hc, rfl, hbl⟩ := hrel
    replace v0 := carry hbl v0
    replace v1 := carry hbl v1
    replace v2 := carry hbl v2
    replace v3 := carry hbl v3
    replace t2 := carry hbl t2
    replace t3 := carry hbl t3
    have hcc : c = 0 ∨ c = 1 ∨ c = 2 := by omega
    rcases hcc with rfl | rfl | rfl
    · skip
      go_wp2_with fail
      refine (refValid_any r _ vs _ (hPV.out.carry hbl)).mono ?_
      rintro e x1 ⟨rfl, hx1⟩
      replace v0 := carry hx1 v0
      replace v1 := carry hx1 v1
      replace v2 := carry hx1 v2
      replace v3 := carry hx1 v3
      obtain ⟨b, hb0⟩ : ∃ b, b = pB (Valid r vs) := ⟨_, rfl⟩
      have hb' := Lib.hid hb0
      rw [← hb0]
      clear hb0
      go_wp2_with fail
      refine (validate_any r _ vs _ (hPV.out.carry (below_step hbl hx1))).mono ?_
      rintro e x2 ⟨rfl, hx2⟩
      rw [← hb'.out]
      cases b <;> (
        go_wp2_with fail
        go_roundw
        case rel => exact ⟨1, by omega, by go_num, below_step (below_step hbl hx1) hx2⟩
        case measure => simp [intOf])
    · skip
      go_wp2_with fail
      refine (refValid_any r2 _ vs2 _ (hPV2.out.carry hbl)).mono ?_
      rintro e x1 ⟨rfl, hx1⟩
      replace v0 := carry hx1 v0
      replace v1 := carry hx1 v1
      replace v2 := carry hx1 v2
      replace v3 := carry hx1 v3
      obtain ⟨b, hb0⟩ : ∃ b, b = pB (Valid r2 vs2) := ⟨_, rfl⟩
      have hb' := Lib.hid hb0
      rw [← hb0]
      clear hb0
      go_wp2_with fail
      refine (validate_any r2 _ vs2 _ (hPV2.out.carry (below_step hbl hx1))).mono ?_
      rintro e x2 ⟨rfl, hx2⟩
      rw [← hb'.out]
      cases b <;> (
        go_wp2_with fail
        go_roundw
        case rel => exact ⟨2, by omega, by go_num, below_step (below_step hbl hx1) hx2⟩
        case measure => simp [intOf])
    · go_wp2_with fail
      refine (Sh.validate (hSV.out.carry hbl)).mono ?_
      rintro e x8 ⟨rfl, hb8⟩
      go_wp2_with fail
      refine (lives3_any _).mono ?_
      rintro e x9 ⟨rfl, hb9⟩
      go_wp2
      go_ret
      exact ⟨rfl, below_step (below_step (below_step hWV.out hbl) hb8) hb9⟩

end Go.Proofs.Ytbaclbncielinaa
