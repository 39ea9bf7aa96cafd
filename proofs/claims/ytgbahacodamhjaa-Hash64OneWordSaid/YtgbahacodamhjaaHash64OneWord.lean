/-
  package hash64, P10.3: for every label (its first 20 bytes) and every list of integers (its first 9, and a 7), Sum changes where exactly one element becomes another value, and stays where the element becomes itself, and the section's example holds; whatever the arguments are.
-/
import Derived.Test.YtgbahacodamhjaaRows
import Derived.WalkKit
import Derived.ProofKit
import Derived.OpenShut
import Derived.Test.YtgbahacodamhjaaOpen
import Derived.ChangeMaps5
import Derived.Test.YtgbahacodamhjaaHaM
import Derived.Test.YtgbahacodamhjaaOpenB
namespace Go.Proofs.Ytgbahacodamhjaa.hash64OneWord
open Go.ChangeShapes Go.WideShapes Go.ChangeAt Go.RowKit
set_option linter.unusedVariables false
set_option linter.unusedSimpArgs false

theorem set_self {A : List Int} {k : Nat} {x : Int} (hx : A[k]? = some x) : A.set k x = A := by
  refine List.ext_getElem? fun i => ?_
  rw [List.getElem?_set]
  split
  · rename_i e
    subst e
    rw [hx, if_pos (List.getElem?_eq_some_iff.1 hx).1]
  · rfl
theorem set_sum (lab : List Nat) (A : List Int) (k : Nat) (x v : Int) (hx : A[k]? = some x) (bx : -9223372036854775808 ≤ x ∧ x ≤ 9223372036854775807) (bv : -9223372036854775808 ≤ v ∧ v ≤ 9223372036854775807) :
    (((sumW lab (A.map (BitVec.ofInt 64))).toNat : Int) == ((sumW lab ((A.set k v).map (BitVec.ofInt 64))).toNat : Int)) = (x == v) := by
  have hk := (List.getElem?_eq_some_iff.1 hx).1
  have h := sumW_set lab (A.map (BitVec.ofInt 64)) (i := k) (by rw [List.length_map]; exact hk) (BitVec.ofInt 64 x) (BitVec.ofInt 64 v)
  rw [← List.map_set, ← List.map_set, set_self hx] at h
  rw [beq_toNat, decide_eq_decide.2 (h.trans (ofInt_inj bx bv))]
  by_cases e : x = v
  · subst e; simp
  · rw [decide_eq_false e]; simpa using e
theorem own : ownKnob Try.prog.godebug = none := by kernel_rfl
theorem laid : laidOutB Try.prog = true := by kernel_rfl

set_option maxRecDepth 100000 in
set_option maxHeartbeats 8000000 in
theorem walk (w : World) (str0 : ByteArray) (m0 : str0.size ≤ maxLen) (s1 : Value) (Z1 : Nat → Int) (l1 : Nat) (H1 : IntsAt w s1 1 Z1 l1) (N1 : ∀ n c, s1 = .slice none n c → s1 = .slice none 0 0) (a2 : Int) (w2 : (Lit.int .i64 a2).wf = true) (a3 : Int) (w3 : (Lit.int .i64 a3).wf = true) :
    Calls Try.prog 5 #[.string str0, s1, .int .i64 a2, .int .i64 a3] w fun e w' => e = .returned (.bool true) ∧ Below w.heap.size w w' := by
  obtain ⟨i0, hi0, hz0, hz1, hz2⟩ := info_parts info_int
  have b2 := lit_i64 w2
  have b3 := lit_i64 w3
  have ki := Lib.hid (ints9 s1 _ w H1.il N1)
  have hM9 : (((List.range l1).map Z1).take 9).length ≤ 9 := by rw [List.length_take]; omega
  have hbd : ∀ z, z ∈ ((List.range l1).map Z1).take 9 → -9223372036854775808 ≤ z ∧ z ≤ 9223372036854775807 := by
    intro z hz
    obtain ⟨i, _, rfl⟩ := List.mem_map.1 (List.mem_of_mem_take hz)
    obtain ⟨_, _, _, _, _, h, _⟩ := H1
    exact lit_i64 (h i)
  generalize ((List.range l1).map Z1).take 9 = M at *
  obtain ⟨A, hA⟩ : ∃ A, A = M ++ [7] := ⟨_, rfl⟩
  obtain ⟨n0, hn0⟩ : ∃ n0, n0 = M.length := ⟨_, rfl⟩
  have hAl : A.length = n0 + 1 := by rw [hA, hn0, List.length_append]; rfl
  have hA10 : A.take 10 = A := List.take_of_length_le (by omega)
  have hAb : ∀ z, z ∈ A → -9223372036854775808 ≤ z ∧ z ≤ 9223372036854775807 := by
    intro z hz
    rw [hA] at hz
    rcases List.mem_append.1 hz with h | h
    · exact hbd z h
    · obtain rfl : z = 7 := by simpa using h
      omega
  rw [← hn0] at ki hM9
  have hF := Lib.hid (And.intro hA (And.intro hAl (And.intro hA10 hAb)))
  have hlt := Lib.hid (show A.length ≤ 1000 from by omega)
  have hls := Lib.hid (fun k v => (show (A.set k v).length ≤ 1000 from by rw [List.length_set]; omega))
  clear H1 N1 hbd hA hn0 hAl hA10 hAb
  go_enter Try.func5, Try.ntmps5
  go_wp2_with (first
    | (go_at_call 11; with_reducible refine (short20 str0 w m0).mono ?_; rintro e u1 ⟨⟨r, rfl, hr⟩, rfl⟩; have hs := Lib.hid (size_small hr (by decide)); clear hr)
    | (go_at_call 12; with_reducible refine ki.out.mono ?_; rintro e u1 ⟨⟨v, rfl, ho⟩, hb⟩; have ho1 := Lib.hid ho; have hB1 := Lib.hid hb; clear ho hb)
    | (at_builtin; refine wpList_append_own _ rfl _ _ 22 rfl w.heap.size 3 i0 _ 1 8 Try.underlying22 hi0 hz0 hz1 hz2 rfl (by decide) v n0 _ rfl (ho1.out.alloc _) ⟨u1.heap.size, 0, none⟩ 1 1 (ints [7]) rfl rfl (fun j u hu => by rw [add_plain, Nat.zero_add, World.cell?_alloc_new]; simpa [ints] using hu) (ints_one' _) (by unfold maxLen; omega) (by omega) (by have := hB1.out.size; simp; omega) ?_; intro v' u2 hown hgrow _; rw [← ints_append, ← hF.out.1] at hown; obtain ⟨ga, ca, rfl, hga, hga2, hca, hca2, hcA, -⟩ := own_form hown (Nat.succ_pos _); have hA2 := Lib.hid hcA; have hB2 := Lib.hid ((hB1.out.alloc hB1.out.size (.cells #[.int .i64 7] 3)).grown hgrow (by have := hB1.out.size; simp; omega) fun r e => (ho1.out.lt r e).1); clear hown hgrow hcA)
    | (go_at_call 12; with_reducible refine (ints10 _ A u2 (CellsAt.il hA2.out hga2 hF.out.2.1 hca hca2) (fun n c e => by cases e)).mono ?_; rintro e u3 ⟨⟨vb, rfl, ho⟩, hb⟩; rw [hF.out.2.2.1, hF.out.2.1] at ho; obtain ⟨gb, cb, rfl, hgb, hgb2, hcb, hcb2, hcB, hfB⟩ := own_form ho (Nat.succ_pos _); have hA3 := Lib.hid (hA2.out.carry hb); have hB3 := Lib.hid (below_step hB2.out hb); have hb3 := Lib.hid hcB; have hf3 := Lib.hid hfB; have hsz := hb.size; clear ho hb hcB hfB)
    | (go_at_call 21; with_reducible refine (aroundx_any a2 _ u3 b2.1 b2.2 (by omega)).mono ?_; rintro e u4 ⟨⟨x, hx0, hx1, rfl⟩, rfl⟩; obtain ⟨k, rfl⟩ : ∃ k : Nat, x = (k : Int) := ⟨x.toNat, by omega⟩; obtain ⟨x, hx⟩ : ∃ x, A[k]? = some x := ⟨_, List.getElem?_eq_getElem (by rw [hF.out.2.1]; omega)⟩; have hx' := Lib.hid hx; have c1 := hb3.out.at (ints_at hx); have f1 := hf3.out k; clear hx))
  obtain ⟨V, hV⟩ : ∃ V, V = u3.setCell ⟨gb, k, none⟩ (.int .i64 a3) := ⟨_, rfl⟩
  have hzV : V.heap.size = u3.heap.size := by rw [hV]; simp
  have hBV := Lib.hid (show Below w.heap.size w V from by rw [hV]; exact hB3.out.setCell (by have := hB2.out.size; simp only; omega) _)
  have hAV : CellsAt V ga (ints A) := by rw [hV]; exact hA3.out.other (by omega) _
  have hbV : CellsAt V gb (ints (A.set k a3)) := by rw [hV, ← ints_set]; exact hb3.out.set (ints_at hx'.out) _
  rw [← hV]
  clear hV
  have c0 := hAV.at (ints_at hx'.out)
  have hga3 : ga < V.heap.size := by omega
  have hgb3 : gb < V.heap.size := by omega
  have hIa := Lib.hid (CellsAt.il hAV hga3 hF.out.2.1 hca hca2)
  have hIb := Lib.hid (CellsAt.il (l := A.set k a3) hbV hgb3 (by rw [List.length_set]; exact hF.out.2.1) hcb hcb2)
  have K1 := fun W (hW : Below V.heap.size V W) => sum_any r _ A W (hIa.out.carry hW) hs.out hlt.out
  have K2 := fun W (hW : Below V.heap.size V W) => sum_any r _ (A.set k a3) W (hIb.out.carry hW) hs.out (hls.out k a3)
  have K3 := fun W => lives10_any W
  have e1 := set_sum (labL r) A k x a3 hx'.out (hF.out.2.2.2 x (List.mem_of_getElem? hx'.out)) b3
  generalize ((sumW (labL r) (A.map (BitVec.ofInt 64))).toNat : Int) = z1 at *
  generalize ((sumW (labL r) ((A.set k a3).map (BitVec.ofInt 64))).toNat : Int) = z2 at *
  have hQ := Lib.hid (And.intro K1 (And.intro K2 K3))
  obtain ⟨bb, hbb⟩ : ∃ bb, (x == a3) = bb := ⟨_, rfl⟩
  rw [hbb] at e1
  have hll : ((k : Int) < (n0 : Int) + 1) := by omega
  clear hAV hbV K1 K2 K3 hIa hIb hA2 hA3 hb3 hf3 hB3 c1 f1
  cases bb
  all_goals
    refine wp_region_made (by kernel_rfl) (by kernel_rfl) ?_
    intro W hK
    have g_c0 := fun x => carry ((hK.below x)) c0
    repeat (go_big_quiet_step ((first | (go_at_call 13; with_reducible exact met_made (hQ.out.1 _ (hK.below _))) | (go_at_call 13; with_reducible exact met_made (hQ.out.2.1 _ (hK.below _))) | (go_at_call 15; with_reducible exact met_made (hQ.out.2.2 _)))))
    refine wpQuiet_nil ?_
    intro wq hw'
    have hbq := kept_in hK hw'
    clear g_c0
    clear hw' hK W
    replace c0 := carry (hbq) c0
    go_wp2
    go_ret
    exact ⟨rfl, below_step hBV.out hbq⟩

set_option maxRecDepth 100000 in
theorem lifted (os : Os) (started : os.Started) (H : Type) (enc : TypeId × Value → H) :
    ReturnsInHanded {} Try.checked os 5 .any (Rows.hash64OneWordSpec.pre6 enc Try.prog Try.f5 Rows.hash64OneWordRow.domain false) (Rows.hash64OneWordSpec.post enc Try.prog Try.f5 false true false false) := by
  refine returnsInHanded_of_change (C := Try.checked) own started (by kernel_rfl) Try.func5
    (ChangeSpec.witness6 (enc := enc) (C := Try.checked) false ⟨#[], #[.string ⟨#[]⟩, .slice none 0 0, .int .i64 0, .int .i64 0], []⟩ 8 (by kernel_rfl) (by kernel_rfl) (by kernel_rfl) (by kernel_rfl)) ?_
  intro W base args ds gs before hval0 hW hcnd _
  have hval : ∀ (j : Nat) t v, Try.f5.params[j]? = some t → args[j]? = some v → Value.okWide Try.prog W .any base t v := hval0
  have hW' := hW
  obtain ⟨p, q, hA0, hV, rfl, hfz, hnd⟩ := hW
  have hA : DataW.TrodAll enc Try.prog W 0 (fun _ => true) true Try.f5.params.toList args.toList ds p := hA0
  rw [Try.params5] at hA hval
  have hAk := hA
  obtain ⟨v0, vs0, d0, ds0, p0, q0, hargs, rfl, hp0, h0, r0⟩ := trodAll_cons hA
  obtain ⟨v1, vs1, d1, ds1, p1, q1, rfl, rfl, hp1, h1, r1⟩ := trodAll_cons r0
  obtain ⟨v2, vs2, d2, ds2, p2, q2, rfl, rfl, hp2, h2, r2⟩ := trodAll_cons r1
  obtain ⟨v3, vs3, d3, ds3, p3, q3, rfl, rfl, hp3, h3, r3⟩ := trodAll_cons r2
  obtain ⟨rfl, rfl, -⟩ := trodAll_nil r3
  obtain rfl : args = #[v0, v1, v2, v3] := by cases args; simp_all
  obtain ⟨rfl, rfl⟩ := trodVars_none hV
  obtain ⟨str0, rfl, -, -, m0⟩ := Go.ChangeMaps.open_string Try.underlying9 (hval 0 9 v0 rfl rfl) h0
  obtain ⟨x1, q1, c1, rfl⟩ := okWide_slice Try.underlying22 (hval 1 22 v1 rfl rfl)
  obtain ⟨fu1, fh1⟩ := h1
  obtain ⟨s1, Z1, l1, e1, H1, N1⟩ := open_int_cells2 Try.underlying22 Try.underlying3 (by kernel_rfl) fh1
  simp only [Value.cells, List.cons.injEq, and_true] at e1
  obtain rfl := e1.symm
  obtain ⟨a2, rfl, -, -, w2⟩ := open_int Try.underlying3 (hval 2 3 v2 rfl rfl) h2
  obtain ⟨a3, rfl, -, -, w3⟩ := open_int Try.underlying3 (hval 3 3 v3 rfl rfl) h3
  clear hA0 hval0
  simp only [List.append_nil] at hW'
  refine (walk W str0 m0 _ Z1 l1 H1 N1 a2 w2 a3 w3).mono fun e W' ⟨he, hb⟩ => ?_
  subst he
  exact ⟨_, rfl, kept_post (pa := p) hW' (fun _ _ _ => (trodAll_cons_mk (shut_bool Try.underlying4 _) trodAll_mk0)) (fun sp hsp => trodAll_stays laid hb (by rw [Try.params5]; decide +kernel) hAk (fun x hx => hW'.lt x hx) hsp) (fun _ => rfl) hb (ok_one (by kernel_rfl) rfl (okWide_bool_mk Try.underlying4 _))⟩

theorem over : Rows.hash64OneWordRow.holds Try.pinned (OpenSpec.ofChange Rows.hash64OneWordSpec) :=
  OpenClaim.holds_of_wide 5 Try.f5 rfl rfl rfl rfl rfl rfl rfl ⟨rfl, rfl, rfl, rfl, rfl⟩ rfl rfl rfl rfl rfl (by kernel_rfl) Try.func5 (by kernel_rfl)
    (of_decide_eq_true (by kernel_rfl)) (by unfold Func.isWrapper; first | (rw [if_pos (by decide +kernel)]; kernel_rfl) | (rw [if_neg (by decide +kernel)]; exact ⟨rfl, rfl⟩))
    (fun os started H enc _ => lifted os started H enc)

theorem proved : Rows.Hash64OneWordSaid :=
  over
#print axioms proved
end Go.Proofs.Ytgbahacodamhjaa.hash64OneWord
