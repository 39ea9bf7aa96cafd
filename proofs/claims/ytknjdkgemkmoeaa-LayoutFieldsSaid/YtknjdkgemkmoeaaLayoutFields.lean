/-
  package layout, P12.2: for every string, Field answers the offset of the body's cell of that name, or -1, and each of the eight names has its offset; whatever the string is.
-/
import Derived.Test.YtknjdkgemkmoeaaRows
import Derived.WalkKit
import Derived.ProofKit
import Derived.OpenShut
import Derived.Test.YtknjdkgemkmoeaaOpen
import Derived.ChangeMaps5
import Derived.Test.YtknjdkgemkmoeaaLyH
namespace Go.Proofs.Ytknjdkgemkmoeaa.layoutFields
open Go.ChangeShapes Go.WideShapes Go.ChangeAt Go.RowKit
set_option linter.unusedVariables false
set_option linter.unusedSimpArgs false

theorem offs (w : World) : ∀ (k : Nat), k < 8 → (w.alloc (.cells #[.int .i64 0, .int .i64 1, .int .i64 2, .int .i64 3, .int .i64 4, .int .i64 5, .int .i64 6, .int .i64 7] 3)).cell? ⟨w.heap.size, k, none⟩ = some (.int .i64 (k : Nat)) := fun k h => by
  rw [World.cell?_alloc_new]
  rcases k with _ | _ | _ | _ | _ | _ | _ | _ | k
  · rfl
  · rfl
  · rfl
  · rfl
  · rfl
  · rfl
  · rfl
  · rfl
  · omega
theorem nm_small {k : Nat} {b : ByteArray} (h : nmL[k]? = some b) : b.size ≤ maxLen := by
  rcases k with _ | _ | _ | _ | _ | _ | _ | _ | k
  · cases h; decide
  · cases h; decide
  · cases h; decide
  · cases h; decide
  · cases h; decide
  · cases h; decide
  · cases h; decide
  · cases h; decide
  · cases h
theorem own : ownKnob Try.prog.godebug = none := by kernel_rfl
theorem laid : laidOutB Try.prog = true := by kernel_rfl

set_option maxRecDepth 100000 in
set_option maxHeartbeats 8000000 in
theorem walk (w : World) (str0 : ByteArray) (m0 : str0.size ≤ maxLen) :
    Calls Try.prog 6 #[.string str0] w fun e w' => e = .returned (.bool true) ∧ Below w.heap.size w w' := by
  obtain ⟨U, hU⟩ : ∃ U, U = w.alloc (.cells #[.string { data := #[120] }, .string { data := #[121] }, .string { data := #[118, 120] }, .string { data := #[118, 121] }, .string { data := #[97] }, .string { data := #[98] }, .string { data := #[104, 105, 116] }, .string { data := #[115, 116, 105, 108, 108] }] 9) := ⟨_, rfl⟩
  obtain ⟨V, hV⟩ : ∃ V, V = U.alloc (.cells #[.int .i64 0, .int .i64 1, .int .i64 2, .int .i64 3, .int .i64 4, .int .i64 5, .int .i64 6, .int .i64 7] 3) := ⟨_, rfl⟩
  have hzU : U.heap.size = w.heap.size + 1 := by rw [hU]; simp
  have hUV : Below U.heap.size U V := by rw [hV]; exact alloc_below _ _
  have hwU : Below w.heap.size w U := by rw [hU]; exact alloc_below _ _
  have hwV := Lib.hid (below_step hwU hUV)
  have hc := Lib.hid (show ∀ (k : Nat) (b : ByteArray), nmL[k]? = some b → V.cell? ⟨w.heap.size, k, none⟩ = some (.string b) from fun k b hk => carry hUV (by rw [hU]; exact nm_cells w _ k b hk))
  have ho := Lib.hid (show ∀ (k : Nat), k < 8 → V.cell? ⟨w.heap.size + 1, k, none⟩ = some (.int .i64 (k : Nat)) from fun k hk => by rw [← hzU, hV]; exact offs U k hk)
  have hsz : w.heap.size + 1 < V.heap.size := by rw [hV, World.size_alloc, hzU]; omega
  go_enter Try.func6, Try.ntmps6
  go_upto_region 4 with fail
  rw [← hU, ← hzU, ← hV]
  have hkF := Lib.hid (fun (k : Nat) (b : ByteArray) (Z : World) (h : nmL[k]? = some b) => field_any b (nm_small h) Z)
  clear hU hV hUV hwU
  rw [hzU]
  generalize w.heap.size + 1 = g at *
  go_loopw [5] (fun i wr => ∃ k : Nat, k ≤ 8 ∧ i = .int .i64 (k : Nat) ∧ Below V.heap.size V wr) (fun i _ => 8 - (intOf i).toNat)
  case atStart => exact ⟨0, by omega, rfl, Below.refl _ _⟩
  case round =>
    obtain ⟨k, hk, rfl, hB⟩ := hrel
    have hB' := Lib.hid hB
    by_cases hlt : k < 8
    · obtain ⟨b, hb, hv⟩ := nm_at hlt
      have c0 := carry hB (hc.out k b hb)
      have c1 := carry hB (ho.out k hlt)
      have kF := Lib.hid (fun Z => hkF.out k b Z hb)
      have hs1 := Nat.lt_of_lt_of_le hsz hB.size
      have e1 : ((k : Int) == (k : Int)) = true := by simp
      rw [hv] at kF
      have hcz := Lib.hid (fun Z (hZ : Below wr.heap.size wr Z) => carry hZ c1)
      clear hb hv hB
      go_upto_region 6 with fail
      go_cut [29] (fun v W => v = .bool false ∧ Below wr.heap.size wr W)
      case first =>
        have bD : Below wr.heap.size wr wr.drew := (Below.refl _ wr).drew
        go_region_with (go_at_call 36; with_reducible refine (kF.out _).mono ?_; rintro e y1 ⟨rfl, hb1⟩; have hY := Lib.hid (below_step bD hb1); have d1 := carry hY.out c1; have hs2 := Nat.lt_of_lt_of_le hs1 hY.out.size; clear hb1)
        all_goals
          go_wp2_with fail
          go_meet
          exact ⟨rfl, hY.out⟩
      obtain ⟨h29, hbZ⟩ := hcut
      subst h29
      have hbZ' := Lib.hid (below_step hB'.out hbZ)
      clear hbZ c0 c1
      go_wp2_with fail
      go_roundw
      case rel => exact ⟨k + 1, by omega, by go_num, hbZ'.out⟩
      case measure => simp [intOf]; omega
    · have kF := Lib.hid (fun Z => field_any str0 m0 Z)
      have kR := Lib.hid (fun Z => refField_any str0 Z)
      generalize fldV str0 = z at *
      have hz : (z == z) = true := by simp
      have hBz := Lib.hid (below_step hwV.out hB'.out)
      clear hB hsz
      go_wp2_with fail
      with_reducible refine (kF.out _).mono ?_
      rintro e Y1 ⟨rfl, hb1⟩
      have hb1' := Lib.hid (below_step hBz.out hb1)
      clear hb1
      go_wp2_with fail
      with_reducible refine (kR.out _).mono ?_
      rintro e Y2 ⟨rfl, hb2⟩
      have hb2' := Lib.hid (below_step hb1'.out hb2)
      clear hb2
      go_wp2_with fail
      with_reducible refine (lives12_any _).mono ?_
      rintro e Y3 ⟨rfl, hb3⟩
      go_wp2
      go_ret
      exact ⟨rfl, below_step hb2'.out hb3⟩

set_option maxRecDepth 100000 in
theorem lifted (os : Os) (started : os.Started) (H : Type) (enc : TypeId × Value → H) :
    ReturnsInHanded {} Try.checked os 6 .any (Rows.layoutFieldsSpec.pre6 enc Try.prog Try.f6 Rows.layoutFieldsRow.domain false) (Rows.layoutFieldsSpec.post enc Try.prog Try.f6 false true false false) := by
  refine returnsInHanded_of_change (C := Try.checked) own started (by kernel_rfl) Try.func6
    (ChangeSpec.witness6 (enc := enc) (C := Try.checked) false ⟨#[], #[.string ⟨#[]⟩], []⟩ 8 (by kernel_rfl) (by kernel_rfl) (by kernel_rfl) (by kernel_rfl)) ?_
  intro W base args ds gs before hval0 hW hcnd _
  have hval : ∀ (j : Nat) t v, Try.f6.params[j]? = some t → args[j]? = some v → Value.okWide Try.prog W .any base t v := hval0
  have hW' := hW
  obtain ⟨p, q, hA0, hV, rfl, hfz, hnd⟩ := hW
  have hA : DataW.TrodAll enc Try.prog W 0 (fun _ => true) true Try.f6.params.toList args.toList ds p := hA0
  rw [Try.params6] at hA hval
  have hAk := hA
  obtain ⟨v0, vs0, d0, ds0, p0, q0, hargs, rfl, hp0, h0, r0⟩ := trodAll_cons hA
  obtain ⟨rfl, rfl, -⟩ := trodAll_nil r0
  obtain rfl : args = #[v0] := by cases args; simp_all
  obtain ⟨rfl, rfl⟩ := trodVars_none hV
  obtain ⟨str0, rfl, -, -, m0⟩ := Go.ChangeMaps.open_string Try.underlying9 (hval 0 9 v0 rfl rfl) h0
  clear hA0 hval0
  simp only [List.append_nil] at hW'
  refine (walk W str0 m0).mono fun e W' ⟨he, hb⟩ => ?_
  subst he
  exact ⟨_, rfl, kept_post (pa := p) hW' (fun _ _ _ => (trodAll_cons_mk (shut_bool Try.underlying4 _) trodAll_mk0)) (fun sp hsp => trodAll_stays laid hb (by rw [Try.params6]; decide +kernel) hAk (fun x hx => hW'.lt x hx) hsp) (fun _ => rfl) hb (ok_one (by kernel_rfl) rfl (okWide_bool_mk Try.underlying4 _))⟩

theorem over : Rows.layoutFieldsRow.holds Try.pinned (OpenSpec.ofChange Rows.layoutFieldsSpec) :=
  OpenClaim.holds_of_wide 6 Try.f6 rfl rfl rfl rfl rfl rfl rfl ⟨rfl, rfl, rfl, rfl, rfl⟩ rfl rfl rfl rfl rfl (by kernel_rfl) Try.func6 (by kernel_rfl)
    (of_decide_eq_true (by kernel_rfl)) (by unfold Func.isWrapper; first | (rw [if_pos (by decide +kernel)]; kernel_rfl) | (rw [if_neg (by decide +kernel)]; exact ⟨rfl, rfl⟩))
    (fun os started H enc _ => lifted os started H enc)

theorem proved : Rows.LayoutFieldsSaid :=
  over
#print axioms proved
end Go.Proofs.Ytknjdkgemkmoeaa.layoutFields
