/-
  package unionfind, P8.1, P8.4: for a number of elements from 0 to 14 and up to 30 merges, made of any numbers, Same is reflexive, symmetric and transitive and contains all merged pairs in range, and the section's example holds; whatever the arguments are.
-/
import Derived.Test.YtalglkeabppabaaRows
import Derived.WalkKit
import Derived.ProofKit
import Derived.OpenShut
import Derived.Test.YtalglkeabppabaaOpen
import Derived.Test.YtalglkeabppabaaUfX
namespace Go.Proofs.Ytalglkeabppabaa.unionfindEquivalence
open Go.ChangeShapes Go.WideShapes Go.ChangeAt Go.RowKit
set_option linter.unusedVariables false
set_option linter.unusedSimpArgs false

open Uf
theorem own : ownKnob Try.prog.godebug = none := by kernel_rfl
theorem laid : laidOutB Try.prog = true := by kernel_rfl

set_option maxRecDepth 100000 in
set_option maxHeartbeats 8000000 in
theorem walk (w : World) (a0 : Int) (w0 : (Lit.int .i64 a0).wf = true) (s1 : Value) (Z1 : Nat → Int) (l1 : Nat) (H1 : IntsAt w s1 1 Z1 l1) :
    Calls Try.prog 5 #[.int .i64 a0, s1] w fun e w' => e = .returned (.bool true) ∧ Below w.heap.size w w' := by
  have H1' := Lib.hid H1
  clear H1
  have hk := sz_le a0
  obtain ⟨k, hkk⟩ : ∃ k, k = sz a0 := ⟨_, rfl⟩
  have kz := Lib.hid (fun W => size8_any a0 W w0)
  rw [← hkk] at hk kz
  clear hkk
  obtain ⟨E, hEE⟩ : ∃ E, E = edgesL Z1 l1 := ⟨_, rfl⟩
  have hE0 : E.length ≤ 30 := by rw [hEE, edgesL_len]; omega
  have ke := Lib.hid (fun W (h : IntsAt W s1 1 Z1 l1) => edges_any s1 Z1 l1 W h)
  rw [← hEE] at ke
  clear hEE
  obtain ⟨m, hm⟩ : ∃ m, m = E.length := ⟨_, rfl⟩
  rw [← hm] at hE0
  have hm' := Lib.hid hm
  have hl1 := Lib.hid (show E.length ≤ 10000 from by rw [← hm]; omega)
  clear hm
  obtain ⟨F, hF⟩ : ∃ F, F = playF k idL E := ⟨_, rfl⟩
  have hF' := Lib.hid hF
  clear hF
  go_enter Try.func5, Try.ntmps5
  go_wp2_with (first
    | (go_at_call 11; with_reducible refine (kz.out _).mono ?_; rintro e u1 ⟨rfl, rfl⟩)
    | (go_at_call 14; with_reducible refine (ke.out _ H1'.out).mono ?_; rintro e u1 ⟨v1, rfl, hP, _, hb1⟩; obtain ⟨ea, ecap, rfl, e1, e2, e3⟩ := hP.shape; rw [← hm'.out] at e1 e3 hP ⊢; have hP' := Lib.hid hP; have hb1' := Lib.hid hb1; have e3' := Lib.hid e3; clear hP hb1 e3)
    | (go_at_call 25; with_reducible refine (merged_any k _ E u1 hP'.out (by omega) hl1.out).mono ?_; rintro e u2 ⟨b, g, rfl, hS, hbb, hgg, hb2⟩; rw [← hF'.out] at hS; have hS' := Lib.hid hS; have hb2' := Lib.hid hb2; clear hS hb2))
  have hk' : k ≤ 10000 := by omega
  go_loopw [8, 9, 10, 11] (fun i _ _ _ wr => ∃ t : Nat, t ≤ m ∧ i = .int .i64 (t : Nat) ∧ St wr b g k F ∧ Below u1.heap.size u1 wr) (fun i _ _ _ _ => m - (intOf i).toNat)
  case atStart => exact ⟨0, Nat.zero_le _, rfl, hS'.out, hb2'.out⟩
  case round =>
    obtain ⟨t, ht, rfl, hS, hB⟩ := hrel
    obtain ⟨W0, hW0⟩ : ∃ V, V = wr := ⟨wr, rfl⟩
    subst hW0
    have hS0 := Lib.hid hS
    have hB0 := Lib.hid hB
    clear hS hB
    have hbs := hB0.out.size
    by_cases hlt : t < m
    · obtain ⟨g2, off, rfl, hg2, hcc⟩ := e3'.out (by omega)
      obtain ⟨p, hp⟩ : ∃ p, E[t]? = some p := ⟨_, List.getElem?_eq_getElem (by rw [← hm'.out]; exact hlt)⟩
      obtain ⟨c0, c1⟩ := hcc t p hp
      replace c0 := carry hB0.out c0
      replace c1 := carry hB0.out c1
      obtain ⟨x, y⟩ := p
      simp only at c0 c1
      have hmem := List.mem_of_getElem? hp
      have hends := Lib.hid (show inB k x = true → inB k y = true → F x.toNat = F y.toNat from fun h1 h2 => by rw [hF'.out]; exact playF_ends E hmem h1 h2)
      have hu := Lib.hid (canU_after hends.out)
      have hsm := Lib.hid (sameF_after hends.out)
      clear hp hcc hmem
      have hcs : (0 ≤ x ∧ x < k ∧ 0 ≤ y ∧ y < k) ∨ (¬ 0 ≤ x) ∨ (0 ≤ x ∧ ¬ x < k) ∨ (0 ≤ x ∧ x < k ∧ ¬ 0 ≤ y) ∨ (0 ≤ x ∧ x < k ∧ 0 ≤ y ∧ ¬ y < k) := by omega
      have hI := Lib.hid (show ∃ B, (inB k x && inB k y) = B from ⟨_, rfl⟩)
      rcases hcs with ⟨a0, a1, a2, a3⟩ | a0 | ⟨a0, a1⟩ | ⟨a0, a1, a2⟩ | ⟨a0, a1, a2, a3⟩
      · have hv := Lib.hid (show sameF k F x y = true from by rw [hsm.out]; simp [inB, a0, a1, a2, a3])
        have d0 : decide (0 ≤ x) = true := by simpa using a0
        have d2 : decide (0 ≤ y) = true := by simpa using a2
        go_wp2_with (first
          | (go_at_call 17; with_reducible refine (same_any b g k F x y _ hS0.out hk').mono ?_; rintro e y1 ⟨rfl, hS1, hg1⟩; rw [hv.out]; have hS1' := Lib.hid hS1; have hB1' := Lib.hid (hB0.out.grown hg1 hbs (fun j hj => by cases hj; exact hgg)); clear hS1 hg1)
          | (go_at_call 16; with_reducible refine (union_any b g k F x y _ hS1'.out hk').mono ?_; rintro e y2 ⟨rfl, hS2, hg2'⟩; rw [uniF_none hu.out] at hS2; rw [hu.out]; have hS2' := Lib.hid hS2; have hB2' := Lib.hid (hB1'.out.grown hg2' hB1'.out.size (fun j hj => by cases hj; exact hgg)); clear hS2 hg2'))
        go_roundw
        case rel => exact ⟨t + 1, by omega, by go_num, hS2'.out, hB2'.out⟩
        case measure => simp [intOf]; omega
      · have hv := Lib.hid (show sameF k F x y = false from by rw [hsm.out]; simp [inB, a0])
        have d0 : decide (0 ≤ x) = false := by simpa using a0
        go_wp2_with (first
          | (go_at_call 17; with_reducible refine (same_any b g k F x y _ hS0.out hk').mono ?_; rintro e y1 ⟨rfl, hS1, hg1⟩; rw [hv.out]; have hS1' := Lib.hid hS1; have hB1' := Lib.hid (hB0.out.grown hg1 hbs (fun j hj => by cases hj; exact hgg)); clear hS1 hg1)
          | (go_at_call 16; with_reducible refine (union_any b g k F x y _ hS1'.out hk').mono ?_; rintro e y2 ⟨rfl, hS2, hg2'⟩; rw [uniF_none hu.out] at hS2; rw [hu.out]; have hS2' := Lib.hid hS2; have hB2' := Lib.hid (hB1'.out.grown hg2' hB1'.out.size (fun j hj => by cases hj; exact hgg)); clear hS2 hg2'))
        go_roundw
        case rel => exact ⟨t + 1, by omega, by go_num, hS2'.out, hB2'.out⟩
        case measure => simp [intOf]; omega
      · have hv := Lib.hid (show sameF k F x y = false from by rw [hsm.out]; simp [inB, a1])
        have d0 : decide (0 ≤ x) = true := by simpa using a0
        go_wp2_with (first
          | (go_at_call 17; with_reducible refine (same_any b g k F x y _ hS0.out hk').mono ?_; rintro e y1 ⟨rfl, hS1, hg1⟩; rw [hv.out]; have hS1' := Lib.hid hS1; have hB1' := Lib.hid (hB0.out.grown hg1 hbs (fun j hj => by cases hj; exact hgg)); clear hS1 hg1)
          | (go_at_call 16; with_reducible refine (union_any b g k F x y _ hS1'.out hk').mono ?_; rintro e y2 ⟨rfl, hS2, hg2'⟩; rw [uniF_none hu.out] at hS2; rw [hu.out]; have hS2' := Lib.hid hS2; have hB2' := Lib.hid (hB1'.out.grown hg2' hB1'.out.size (fun j hj => by cases hj; exact hgg)); clear hS2 hg2'))
        go_roundw
        case rel => exact ⟨t + 1, by omega, by go_num, hS2'.out, hB2'.out⟩
        case measure => simp [intOf]; omega
      · have hv := Lib.hid (show sameF k F x y = false from by rw [hsm.out]; simp [inB, a2])
        have d0 : decide (0 ≤ x) = true := by simpa using a0
        have d2 : decide (0 ≤ y) = false := by simpa using a2
        go_wp2_with (first
          | (go_at_call 17; with_reducible refine (same_any b g k F x y _ hS0.out hk').mono ?_; rintro e y1 ⟨rfl, hS1, hg1⟩; rw [hv.out]; have hS1' := Lib.hid hS1; have hB1' := Lib.hid (hB0.out.grown hg1 hbs (fun j hj => by cases hj; exact hgg)); clear hS1 hg1)
          | (go_at_call 16; with_reducible refine (union_any b g k F x y _ hS1'.out hk').mono ?_; rintro e y2 ⟨rfl, hS2, hg2'⟩; rw [uniF_none hu.out] at hS2; rw [hu.out]; have hS2' := Lib.hid hS2; have hB2' := Lib.hid (hB1'.out.grown hg2' hB1'.out.size (fun j hj => by cases hj; exact hgg)); clear hS2 hg2'))
        go_roundw
        case rel => exact ⟨t + 1, by omega, by go_num, hS2'.out, hB2'.out⟩
        case measure => simp [intOf]; omega
      · have hv := Lib.hid (show sameF k F x y = false from by rw [hsm.out]; simp [inB, a3])
        have d0 : decide (0 ≤ x) = true := by simpa using a0
        have d2 : decide (0 ≤ y) = true := by simpa using a2
        go_wp2_with (first
          | (go_at_call 17; with_reducible refine (same_any b g k F x y _ hS0.out hk').mono ?_; rintro e y1 ⟨rfl, hS1, hg1⟩; rw [hv.out]; have hS1' := Lib.hid hS1; have hB1' := Lib.hid (hB0.out.grown hg1 hbs (fun j hj => by cases hj; exact hgg)); clear hS1 hg1)
          | (go_at_call 16; with_reducible refine (union_any b g k F x y _ hS1'.out hk').mono ?_; rintro e y2 ⟨rfl, hS2, hg2'⟩; rw [uniF_none hu.out] at hS2; rw [hu.out]; have hS2' := Lib.hid hS2; have hB2' := Lib.hid (hB1'.out.grown hg2' hB1'.out.size (fun j hj => by cases hj; exact hgg)); clear hS2 hg2'))
        go_roundw
        case rel => exact ⟨t + 1, by omega, by go_num, hS2'.out, hB2'.out⟩
        case measure => simp [intOf]; omega
    · obtain rfl : t = m := by omega
      clear hS' hb2'
      go_wp2_with fail
      go_loopw [12, 13, 14] (fun i _ _ wr => ∃ n : Nat, n ≤ k ∧ i = .int .i64 (n : Nat) ∧ St wr b g k F ∧ Below u1.heap.size u1 wr) (fun i _ _ _ => k - (intOf i).toNat)
      case atStart => exact ⟨0, Nat.zero_le _, rfl, hS0.out, hB0.out⟩
      case round =>
        obtain ⟨n, hn, rfl, hS, hB⟩ := hrel
        obtain ⟨W1, hW1⟩ : ∃ V, V = wr := ⟨wr, rfl⟩
        subst hW1
        have hS1 := Lib.hid hS
        have hB1 := Lib.hid hB
        clear hS hB hS0 hB0
        by_cases hlt1 : n < k
        · have q1 := Lib.hid (show sameF k F n n = true from sameF_iff.2 ⟨inB_iff.2 ⟨by omega, by omega⟩, inB_iff.2 ⟨by omega, by omega⟩, rfl⟩)
          have q2 := Lib.hid (show sameF k F n k = false from by
            have : inB k (k : Int) = false := by rw [Bool.eq_false_iff]; intro h; have := (inB_iff.1 h).2; omega
            unfold sameF; rw [this]; simp)
          have q3 := Lib.hid (show sameF k F (-1) n = false from by
            have : inB k (-1) = false := by rw [Bool.eq_false_iff]; intro h; have := (inB_iff.1 h).1; omega
            unfold sameF; rw [this]; simp)
          go_wp2_with (first
            | (go_at_call 17; with_reducible refine (same_any b g k F n n W1 hS1.out hk').mono ?_; rintro e y1 ⟨rfl, hS2, hg2⟩; rw [q1.out]; have hS2' := Lib.hid hS2; have hB2' := Lib.hid (hB1.out.grown hg2 hB1.out.size (fun j hj => by cases hj; exact hgg)); clear hS2 hg2)
            | (go_at_call 17; with_reducible refine (same_any b g k F n k y1 hS2'.out hk').mono ?_; rintro e y2 ⟨rfl, hS2, hg2⟩; rw [q2.out]; have hS3' := Lib.hid hS2; have hB3' := Lib.hid (hB2'.out.grown hg2 hB2'.out.size (fun j hj => by cases hj; exact hgg)); clear hS2 hg2)
            | (go_at_call 17; with_reducible refine (same_any b g k F (-1) n y2 hS3'.out hk').mono ?_; rintro e y3 ⟨rfl, hS2, hg2⟩; rw [q3.out]; have hS4' := Lib.hid hS2; have hB4' := Lib.hid (hB3'.out.grown hg2 hB3'.out.size (fun j hj => by cases hj; exact hgg)); clear hS2 hg2))
          go_loopw [13, 14] (fun i _ wr => ∃ n2 : Nat, n2 ≤ k ∧ i = .int .i64 (n2 : Nat) ∧ St wr b g k F ∧ Below u1.heap.size u1 wr) (fun i _ _ => k - (intOf i).toNat)
          case atStart => exact ⟨0, Nat.zero_le _, rfl, hS4'.out, hB4'.out⟩
          case round =>
            obtain ⟨n2, hn2, rfl, hS, hB⟩ := hrel
            obtain ⟨W2, hW2⟩ : ∃ V, V = wr := ⟨wr, rfl⟩
            subst hW2
            have hS5 := Lib.hid hS
            have hB5 := Lib.hid hB
            clear hS hB hS1 hB1 hS2' hB2' hS3' hB3' hS4' hB4'
            by_cases hlt2 : n2 < k
            · obtain ⟨AB, hAB⟩ : ∃ AB, sameF k F n n2 = AB := ⟨_, rfl⟩
              have q4 := Lib.hid hAB
              have q5 := Lib.hid ((sameF_symm k F n2 n).trans hAB)
              clear hAB
              cases AB with
              | false =>
                go_wp2_with (first
                  | (go_at_call 17; with_reducible refine (same_any b g k F n n2 W2 hS5.out hk').mono ?_; rintro e y1 ⟨rfl, hS, hg⟩; rw [q4.out]; have hS6 := Lib.hid hS; have hB6 := Lib.hid (hB5.out.grown hg hB5.out.size (fun j hj => by cases hj; exact hgg)); clear hS hg)
                  | (go_at_call 17; with_reducible refine (same_any b g k F n2 n y1 hS6.out hk').mono ?_; rintro e y2 ⟨rfl, hS, hg⟩; rw [q5.out]; have hS7 := Lib.hid hS; have hB7 := Lib.hid (hB6.out.grown hg hB6.out.size (fun j hj => by cases hj; exact hgg)); clear hS hg))
                go_loopw [14] (fun i wr => ∃ n3 : Nat, n3 ≤ k ∧ i = .int .i64 (n3 : Nat) ∧ St wr b g k F ∧ Below u1.heap.size u1 wr) (fun i _ => k - (intOf i).toNat)
                case atStart => exact ⟨0, Nat.zero_le _, rfl, hS7.out, hB7.out⟩
                case round =>
                  obtain ⟨n3, hn3, rfl, hS, hB⟩ := hrel
                  obtain ⟨W3, hW3⟩ : ∃ V, V = wr := ⟨wr, rfl⟩
                  subst hW3
                  have hS8 := Lib.hid hS
                  have hB8 := Lib.hid hB
                  clear hS hB hS6 hB6 hS7 hB7
                  by_cases hlt3 : n3 < k
                  · go_wp2_with (first
                      | (go_at_call 17; with_reducible refine (same_any b g k F n n2 W3 hS8.out hk').mono ?_; rintro e y3 ⟨rfl, hS, hg⟩; rw [q4.out]; have hS9 := Lib.hid hS; have hB9 := Lib.hid (hB8.out.grown hg hB8.out.size (fun j hj => by cases hj; exact hgg)); clear hS hg))
                    go_roundw
                    case rel => exact ⟨n3 + 1, by omega, by go_num, hS9.out, hB9.out⟩
                    case measure => simp [intOf]; omega
                  · obtain rfl : n3 = k := by omega
                    go_wp2_with fail
                    go_roundw
                    case rel => exact ⟨n2 + 1, by omega, by go_num, hS8.out, hB8.out⟩
                    case measure => simp [intOf]; omega
              | true =>
                go_wp2_with (first
                  | (go_at_call 17; with_reducible refine (same_any b g k F n n2 W2 hS5.out hk').mono ?_; rintro e y1 ⟨rfl, hS, hg⟩; rw [q4.out]; have hS6 := Lib.hid hS; have hB6 := Lib.hid (hB5.out.grown hg hB5.out.size (fun j hj => by cases hj; exact hgg)); clear hS hg)
                  | (go_at_call 17; with_reducible refine (same_any b g k F n2 n y1 hS6.out hk').mono ?_; rintro e y2 ⟨rfl, hS, hg⟩; rw [q5.out]; have hS7 := Lib.hid hS; have hB7 := Lib.hid (hB6.out.grown hg hB6.out.size (fun j hj => by cases hj; exact hgg)); clear hS hg))
                go_loopw [14] (fun i wr => ∃ n3 : Nat, n3 ≤ k ∧ i = .int .i64 (n3 : Nat) ∧ St wr b g k F ∧ Below u1.heap.size u1 wr) (fun i _ => k - (intOf i).toNat)
                case atStart => exact ⟨0, Nat.zero_le _, rfl, hS7.out, hB7.out⟩
                case round =>
                  obtain ⟨n3, hn3, rfl, hS, hB⟩ := hrel
                  obtain ⟨W3, hW3⟩ : ∃ V, V = wr := ⟨wr, rfl⟩
                  subst hW3
                  have hS8 := Lib.hid hS
                  have hB8 := Lib.hid hB
                  clear hS hB hS6 hB6 hS7 hB7
                  by_cases hlt3 : n3 < k
                  · cases hBC : sameF k F n2 n3 with
                    | false =>
                      have q6 := Lib.hid hBC
                      clear hBC
                      go_wp2_with (first
                        | (go_at_call 17; with_reducible refine (same_any b g k F n n2 W3 hS8.out hk').mono ?_; rintro e y3 ⟨rfl, hS, hg⟩; rw [q4.out]; have hS9 := Lib.hid hS; have hB9 := Lib.hid (hB8.out.grown hg hB8.out.size (fun j hj => by cases hj; exact hgg)); clear hS hg)
                        | (go_at_call 17; with_reducible refine (same_any b g k F n2 n3 y3 hS9.out hk').mono ?_; rintro e y4 ⟨rfl, hS, hg⟩; rw [q6.out]; have hS10 := Lib.hid hS; have hB10 := Lib.hid (hB9.out.grown hg hB9.out.size (fun j hj => by cases hj; exact hgg)); clear hS hg))
                      go_roundw
                      case rel => exact ⟨n3 + 1, by omega, by go_num, hS10.out, hB10.out⟩
                      case measure => simp [intOf]; omega
                    | true =>
                      have q6 := Lib.hid hBC
                      have q7 := Lib.hid (sameF_trans q4.out hBC)
                      clear hBC
                      go_wp2_with (first
                        | (go_at_call 17; with_reducible refine (same_any b g k F n n2 W3 hS8.out hk').mono ?_; rintro e y3 ⟨rfl, hS, hg⟩; rw [q4.out]; have hS9 := Lib.hid hS; have hB9 := Lib.hid (hB8.out.grown hg hB8.out.size (fun j hj => by cases hj; exact hgg)); clear hS hg)
                        | (go_at_call 17; with_reducible refine (same_any b g k F n2 n3 y3 hS9.out hk').mono ?_; rintro e y4 ⟨rfl, hS, hg⟩; rw [q6.out]; have hS10 := Lib.hid hS; have hB10 := Lib.hid (hB9.out.grown hg hB9.out.size (fun j hj => by cases hj; exact hgg)); clear hS hg)
                        | (go_at_call 17; with_reducible refine (same_any b g k F n n3 y4 hS10.out hk').mono ?_; rintro e y5 ⟨rfl, hS, hg⟩; rw [q7.out]; have hS11 := Lib.hid hS; have hB11 := Lib.hid (hB10.out.grown hg hB10.out.size (fun j hj => by cases hj; exact hgg)); clear hS hg))
                      go_roundw
                      case rel => exact ⟨n3 + 1, by omega, by go_num, hS11.out, hB11.out⟩
                      case measure => simp [intOf]; omega
                  · obtain rfl : n3 = k := by omega
                    go_wp2_with fail
                    go_roundw
                    case rel => exact ⟨n2 + 1, by omega, by go_num, hS8.out, hB8.out⟩
                    case measure => simp [intOf]; omega
            · obtain rfl : n2 = k := by omega
              go_wp2_with fail
              go_roundw
              case rel => exact ⟨n + 1, by omega, by go_num, hS5.out, hB5.out⟩
              case measure => simp [intOf]; omega
        · obtain rfl : n = k := by omega
          go_wp2_with (first
            | (go_at_call 22; with_reducible refine (lives8_any W1).mono ?_; rintro e y5 ⟨rfl, hb9⟩; have hw9 := Lib.hid (below_step (below_step hb1'.out hB1.out) hb9); clear hb9))
          go_ret
          exact ⟨rfl, hw9.out⟩

set_option maxRecDepth 100000 in
theorem lifted (os : Os) (started : os.Started) (H : Type) (enc : TypeId × Value → H) :
    ReturnsInHanded {} Try.checked os 5 .any (Rows.unionfindEquivalenceSpec.pre6 enc Try.prog Try.f5 Rows.unionfindEquivalenceRow.domain false) (Rows.unionfindEquivalenceSpec.post enc Try.prog Try.f5 false true false false) := by
  refine returnsInHanded_of_change (C := Try.checked) own started (by kernel_rfl) Try.func5
    (ChangeSpec.witness6 (enc := enc) (C := Try.checked) false ⟨#[], #[.int .i64 0, .slice none 0 0], []⟩ 8 (by kernel_rfl) (by kernel_rfl) (by kernel_rfl) (by kernel_rfl)) ?_
  intro W base args ds gs before hval0 hW hcnd _
  have hval : ∀ (j : Nat) t v, Try.f5.params[j]? = some t → args[j]? = some v → Value.okWide Try.prog W .any base t v := hval0
  have hW' := hW
  obtain ⟨p, q, hA0, hV, rfl, hfz, hnd⟩ := hW
  have hA : DataW.TrodAll enc Try.prog W 0 (fun _ => true) true Try.f5.params.toList args.toList ds p := hA0
  rw [Try.params5] at hA hval
  have hAk := hA
  obtain ⟨v0, vs0, d0, ds0, p0, q0, hargs, rfl, hp0, h0, r0⟩ := trodAll_cons hA
  obtain ⟨v1, vs1, d1, ds1, p1, q1, rfl, rfl, hp1, h1, r1⟩ := trodAll_cons r0
  obtain ⟨rfl, rfl, -⟩ := trodAll_nil r1
  obtain rfl : args = #[v0, v1] := by cases args; simp_all
  obtain ⟨rfl, rfl⟩ := trodVars_none hV
  obtain ⟨a0, rfl, -, -, w0⟩ := open_int Try.underlying3 (hval 0 3 v0 rfl rfl) h0
  obtain ⟨x1, q1, c1, rfl⟩ := okWide_slice Try.underlying22 (hval 1 22 v1 rfl rfl)
  obtain ⟨fu1, fh1⟩ := h1
  obtain ⟨s1, Z1, l1, e1, H1⟩ := open_int_cells Try.underlying22 Try.underlying3 (by kernel_rfl) fh1
  simp only [Value.cells, List.cons.injEq, and_true] at e1
  obtain rfl := e1.symm
  clear hA0 hval0
  simp only [List.append_nil] at hW'
  refine (walk W a0 w0 _ Z1 l1 H1).mono fun e W' ⟨he, hb⟩ => ?_
  subst he
  exact ⟨_, rfl, kept_post (pa := p) hW' (fun _ _ _ => (trodAll_cons_mk (shut_bool Try.underlying4 _) trodAll_mk0)) (fun sp hsp => trodAll_stays laid hb (by rw [Try.params5]; decide +kernel) hAk (fun x hx => hW'.lt x hx) hsp) (fun _ => rfl) hb (ok_one (by kernel_rfl) rfl (okWide_bool_mk Try.underlying4 _))⟩

theorem over : Rows.unionfindEquivalenceRow.holds Try.pinned (OpenSpec.ofChange Rows.unionfindEquivalenceSpec) :=
  OpenClaim.holds_of_wide 5 Try.f5 rfl rfl rfl rfl rfl rfl rfl ⟨rfl, rfl, rfl, rfl, rfl⟩ rfl rfl rfl rfl rfl (by kernel_rfl) Try.func5 (by kernel_rfl)
    (of_decide_eq_true (by kernel_rfl)) (by unfold Func.isWrapper; first | (rw [if_pos (by decide +kernel)]; kernel_rfl) | (rw [if_neg (by decide +kernel)]; exact ⟨rfl, rfl⟩))
    (fun os started H enc _ => lifted os started H enc)

theorem proved : Rows.UnionfindEquivalenceSaid :=
  over
#print axioms proved
end Go.Proofs.Ytalglkeabppabaa.unionfindEquivalence
