/-
  package hash64, P10.3: for every list of integers (its first 6) and every label (its first 29 bytes, and an x), Sum changes exactly where one byte of the label becomes another one, and the section's example holds; whatever the arguments are.
-/
import Derived.Test.YtgbahacodamhjaaRows
import Derived.WalkKit
import Derived.ProofKit
import Derived.OpenShut
import Derived.Test.YtgbahacodamhjaaOpen
import Derived.ChangeMaps5
import Derived.Test.YtgbahacodamhjaaHaM
import Derived.Test.YtgbahacodamhjaaOpenB
namespace Go.Proofs.Ytgbahacodamhjaa.hash64OneLabel
open Go.ChangeShapes Go.WideShapes Go.ChangeAt Go.RowKit
set_option linter.unusedVariables false
set_option linter.unusedSimpArgs false

theorem bits_xor_u8 {b o : Nat} (hb : b < 256) (ho : o < 256) : bits .xor .u8 (b : Int) (o : Int) = ((b ^^^ o : Nat) : Int) := by
  show IntKind.u8.wrap (((BitVec.ofInt 8 (b : Int)) ^^^ (BitVec.ofInt 8 (o : Int))).toNat : Int) = _
  rw [BitVec.toNat_xor, BitVec.ofInt_natCast, BitVec.ofInt_natCast, BitVec.toNat_ofNat, BitVec.toNat_ofNat, Nat.mod_eq_of_lt (show b < 2 ^ 8 from hb), Nat.mod_eq_of_lt (show o < 2 ^ 8 from ho)]
  have h : b ^^^ o < 2 ^ 8 := Nat.xor_lt_two_pow hb ho
  generalize b ^^^ o = m at *
  simp only [IntKind.wrap, IntKind.bits, IntKind.signed, Bool.false_and, Bool.false_eq_true, if_false]
  omega
theorem Byt.set {L : List Nat} (h : Byt L) {k b : Nat} (hb : b < 256) : Byt (L.set k b) := fun x hx => by
  rcases List.mem_or_eq_of_mem_set hx with h1 | rfl
  · exact h x h1
  · exact hb
/-- A string out of bytes. -/
def bstr (L : List Nat) : ByteArray := ⟨(L.map UInt8.ofNat).toArray⟩
theorem bstr_lab {L : List Nat} (h : Byt L) : labL (bstr L) = L := by
  unfold labL bstr
  rw [List.map_map]
  have e : ∀ b, b ∈ L → (UInt8.toNat ∘ UInt8.ofNat) b = b := fun b hb => by
    show (UInt8.ofNat b).toNat = b
    rw [UInt8.toNat_ofNat']
    exact Nat.mod_eq_of_lt (h b hb)
  rw [List.map_congr_left e, List.map_id']
theorem bstr_size (L : List Nat) : (bstr L).size = L.length := by
  unfold bstr ByteArray.size
  simp
theorem str_back {w : World} {S : Nat → Prop} {a : Option Addr} {n cap : Nat} {L : List Nat} (hR : ByRow w S a n cap L) (hn : 0 < n) :
    (convert 30 9 (.slice a n cap)).run Try.prog w = .ok (.string (bstr L)) w := by
  obtain ⟨g, off, rfl, _, _, hc⟩ := hR.row hn
  have h := run_convert_bytes_back (P := Try.prog) w 30 9 5 ⟨g, off, none⟩ cap (L.map UInt8.ofNat) Try.underlying30 Try.underlying5 Try.underlying9 (fun j hj => by
    rw [List.length_map] at hj
    rw [add_plain, hc j _ (List.getElem?_eq_getElem hj), List.getElem_map, UInt8.toNat_ofNat', Nat.mod_eq_of_lt (hR.byt _ (List.getElem_mem hj))])
  rw [List.length_map, hR.len] at h
  exact h
theorem size_x (r : ByteArray) : (r ++ { data := #[120] }).size = r.size + 1 := by rw [ByteArray.size_append]; rfl
theorem xor_self_iff {x o : Nat} : x ^^^ o = x ↔ o = 0 := by
  constructor
  · intro h
    have h2 := congrArg (x ^^^ ·) h
    simpa [← Nat.xor_assoc, Nat.xor_self] using h2
  · rintro rfl
    exact Nat.xor_zero x
theorem label_one {X : List Nat} (hX : Byt X) {k x o : Nat} (hx : X[k]? = some x) (ho : o < 256) (M : List W64) :
    (((sumW X M).toNat : Int) == ((sumW (X.set k (x ^^^ o)) M).toNat : Int)) = ((o : Int) == 0) := by
  have hk := (List.getElem?_eq_some_iff.1 hx).1
  have hxb := hX x (List.mem_of_getElem? hx)
  have h := sumW_label hX (Byt.set (k := k) hX (show x ^^^ o < 2 ^ 8 from Nat.xor_lt_two_pow hxb ho)) (by rw [List.length_set]) (k := k / 8) (by omega) (fun i hi => by rw [List.getElem?_set, if_neg (fun e => hi (by rw [e]))]) M
  have h2 : X = X.set k (x ^^^ o) ↔ o = 0 := by
    rw [← xor_self_iff (x := x)]
    constructor
    · intro e
      have h3 := congrArg (·[k]?) e
      simp only [List.getElem?_set, if_true, hk, hx] at h3
      exact (Option.some.inj h3).symm
    · intro e
      rw [e]
      refine List.ext_getElem? fun i => ?_
      rw [List.getElem?_set]
      split
      · rename_i e
        subst e
        simp [hk]
        exact (List.getElem?_eq_some_iff.1 hx).2.symm ▸ rfl
      · rfl
  rw [beq_toNat, decide_eq_decide.2 (h.trans h2)]
  by_cases e : o = 0
  · subst e; rfl
  · rw [decide_eq_false e]
    symm
    simp only [beq_eq_false_iff_ne, ne_eq]
    omega
theorem own : ownKnob Try.prog.godebug = none := by kernel_rfl
theorem laid : laidOutB Try.prog = true := by kernel_rfl

set_option maxRecDepth 100000 in
set_option maxHeartbeats 8000000 in
theorem walk (w : World) (str0 : ByteArray) (m0 : str0.size ≤ maxLen) (s1 : Value) (Z1 : Nat → Int) (l1 : Nat) (H1 : IntsAt w s1 1 Z1 l1) (N1 : ∀ n c, s1 = .slice none n c → s1 = .slice none 0 0) (a2 : Int) (w2 : (Lit.int .i64 a2).wf = true) (a3 : Int) (w3 : (Lit.int .u8 a3).wf = true) :
    Calls Try.prog 7 #[.string str0, s1, .int .i64 a2, .int .u8 a3] w fun e w' => e = .returned (.bool true) ∧ Below w.heap.size w w' := by
  have kc := fun (w : World) (s : ByteArray) => Lib.run_convert_string_bytes (P := Try.prog) w 9 30 5 s Try.underlying9 Try.underlying30 Try.underlying5
  have b2 := lit_i64 w2
  obtain ⟨o, rfl, ho⟩ := lit_u8 w3
  have ki := Lib.hid (ints6 s1 _ w H1.il N1)
  have hlt := Lib.hid (show (((List.range l1).map Z1).take 6).length ≤ 1000 from by rw [List.length_take]; omega)
  generalize ((List.range l1).map Z1).take 6 = M at *
  clear H1 N1 w2 w3
  go_enter Try.func7, Try.ntmps7
  go_upto_region 3 with (first
    | (go_at_call 12; with_reducible refine ki.out.mono ?_; rintro e u1 ⟨⟨v, rfl, ho⟩, hb⟩; have hI1 := Lib.hid (IL.owned ho); have hB1 := Lib.hid hb; clear ho hb)
    | (go_at_call 11; with_reducible refine (short29 str0 u1 m0).mono ?_; rintro e u2 ⟨⟨r, rfl, hr⟩, rfl⟩; obtain ⟨s, hs⟩ : ∃ s, r ++ { data := #[120] } = s := ⟨_, rfl⟩; have hsz := size_x r; rw [hs] at hsz))
  obtain ⟨V, hV⟩ : ∃ V, V = Lib.bytesWorld u1 5 s := ⟨_, rfl⟩
  have hbV : Below u1.heap.size u1 V := by rw [hV]; exact bytesWorld_below _ _ _
  have hzV : V.heap.size = u1.heap.size + 1 := by rw [hV]; exact Lib.bytesWorld_size _ _ _
  have hRV := bytesWorld_row u1 5 s (by omega) (fun k => k < V.heap.size) (by omega)
  rw [← hV] at hRV ⊢
  rw [hsz] at hRV
  generalize grownCap u1 (r.size + 1) 0 5 = ca at *
  have hXl : (labL s).length = r.size + 1 := hRV.len
  have hXB : Byt (labL s) := labL_byt s
  generalize labL s = X at *
  generalize r.size = q at *
  have hca := hRV.le
  have hca2 := hRV.max
  have hga : u1.heap.size < V.heap.size := by omega
  have hX30 : X.take 30 = X := List.take_of_length_le (by omega)
  have hF := Lib.hid (And.intro hXl (And.intro hX30 hXB))
  have hRA := Lib.hid hRV
  have hB2 := Lib.hid (below_step hB1.out hbV)
  have hI2 := Lib.hid (hI1.out.carry hbV)
  generalize u1.heap.size = ga at *
  clear hV hRV hXl hXB hX30 kc hs hsz hbV hzV ki
  go_upto_region 6 with (first
    | (go_at_call 16; with_reducible refine (few30 _ _ _ X V hRA.out (fun e => by cases e)).mono ?_; rintro e u3 ⟨⟨vb, rfl, ho⟩, hb⟩; rw [hF.out.2.1, hF.out.1] at ho; obtain ⟨gb, cb, rfl, hgb, hgb2, hcb, hcb2, hcB, hfB⟩ := own_form ho (Nat.succ_pos _); have hVb := Lib.hid hb; have hB3 := Lib.hid (below_step hB2.out hb); have hb3 := Lib.hid hcB; have hf3 := Lib.hid hfB; have hsz := hb.size; clear ho hb hcB hfB)
    | (go_at_call 21; with_reducible refine (aroundx_any a2 _ u3 b2.1 b2.2 (by omega)).mono ?_; rintro e u4 ⟨⟨x, hx0, hx1, rfl⟩, rfl⟩; obtain ⟨k, rfl⟩ : ∃ k : Nat, x = (k : Int) := ⟨x.toNat, by omega⟩; obtain ⟨x, hx⟩ : ∃ x, X[k]? = some x := ⟨_, List.getElem?_eq_getElem (by rw [hF.out.1]; omega)⟩; have hx' := Lib.hid hx; have c1 := hb3.out.at (byts_at hx); have f1 := hf3.out k; clear hx))
  have hxb : x < 256 := hF.out.2.2 x (List.mem_of_getElem? hx'.out)
  rw [bits_xor_u8 hxb ho]
  obtain ⟨U, hU⟩ : ∃ U, U = u3.setCell ⟨gb, k, none⟩ (.int .u8 ((x ^^^ o : Nat) : Int)) := ⟨_, rfl⟩
  have hzU : U.heap.size = u3.heap.size := by rw [hU]; simp
  have hVU : Below V.heap.size V U := by rw [hU]; exact hVb.out.setCell hgb _
  have hBU := Lib.hid (below_step hB2.out hVU)
  have hIU := Lib.hid (hI2.out.carry hVU)
  have hRU := Lib.hid (hRA.out.up hVU)
  have hYB : Byt (X.set k (x ^^^ o)) := Byt.set hF.out.2.2 (show x ^^^ o < 2 ^ 8 from Nat.xor_lt_two_pow hxb ho)
  have hYl : (X.set k (x ^^^ o)).length = q + 1 := by rw [List.length_set]; exact hF.out.1
  have hbU : CellsAt U gb (byts (X.set k (x ^^^ o))) := by rw [hU, ← byts_set]; exact hb3.out.set (byts_at hx'.out) _
  have e1 := label_one hF.out.2.2 hx'.out ho (M.map (BitVec.ofInt 64))
  rw [← hU]
  clear hU
  generalize X.set k (x ^^^ o) = Y at *
  have hYU := Lib.hid (CellsAt.row hbU (show gb < U.heap.size by omega) hYl hcb hcb2 hYB)
  have hpos : 0 < q + 1 := Nat.succ_pos _
  have K1 := fun W (hW : Below U.heap.size U W) => sum_any (bstr X) v M W (hIU.out.carry hW) (by rw [bstr_size, hF.out.1]; omega) hlt.out
  have K2 := fun W (hW : Below U.heap.size U W) => sum_any (bstr Y) v M W (hIU.out.carry hW) (by rw [bstr_size, hYl]; omega) hlt.out
  have K3 := fun W => lives10_any W
  rw [bstr_lab hF.out.2.2] at K1
  rw [bstr_lab hYB] at K2
  generalize ((sumW X (M.map (BitVec.ofInt 64))).toNat : Int) = z1 at *
  generalize ((sumW Y (M.map (BitVec.ofInt 64))).toNat : Int) = z2 at *
  have hQ := Lib.hid (And.intro K1 (And.intro K2 K3))
  have hG := Lib.hid (And.intro (fun W (hW : Below U.heap.size U W) => str_back (hRU.out.carry hW) hpos) (fun W (hW : Below U.heap.size U W) => str_back (hYU.out.carry hW) hpos))
  generalize bstr X = sx at *
  generalize bstr Y = sy at *
  obtain ⟨bb, hbb⟩ : ∃ bb, ((o : Int) == 0) = bb := ⟨_, rfl⟩
  rw [hbb] at e1
  clear K1 K2 K3 hbU hYB hYl c1 f1 hb3 hf3 hVb hVU hxb hIU hRU hYU
  cases bb
  all_goals
    refine wp_region_made (by kernel_rfl) (by kernel_rfl) ?_
    intro W hK
    have g1 := fun x => hG.out.1 _ (hK.below x)
    have g2 := fun x => hG.out.2 _ (hK.below x)
    repeat (go_big_quiet_step (first | (go_at_call 13; with_reducible exact met_made (hQ.out.1 _ (hK.below _))) | (go_at_call 13; with_reducible exact met_made (hQ.out.2.1 _ (hK.below _))) | (go_at_call 15; with_reducible exact met_made (hQ.out.2.2 _))))
    refine wpQuiet_nil ?_
    intro wq hw'
    have hbq := kept_in hK hw'
    clear hw' hK g1 g2
    go_wp2
    go_ret
    exact ⟨rfl, below_step hBU.out hbq⟩

set_option maxRecDepth 100000 in
theorem lifted (os : Os) (started : os.Started) (H : Type) (enc : TypeId × Value → H) :
    ReturnsInHanded {} Try.checked os 7 .any (Rows.hash64OneLabelSpec.pre6 enc Try.prog Try.f7 Rows.hash64OneLabelRow.domain false) (Rows.hash64OneLabelSpec.post enc Try.prog Try.f7 false true false false) := by
  refine returnsInHanded_of_change (C := Try.checked) own started (by kernel_rfl) Try.func7
    (ChangeSpec.witness6 (enc := enc) (C := Try.checked) false ⟨#[], #[.string ⟨#[]⟩, .slice none 0 0, .int .i64 0, .int .u8 0], []⟩ 8 (by kernel_rfl) (by kernel_rfl) (by kernel_rfl) (by kernel_rfl)) ?_
  intro W base args ds gs before hval0 hW hcnd _
  have hval : ∀ (j : Nat) t v, Try.f7.params[j]? = some t → args[j]? = some v → Value.okWide Try.prog W .any base t v := hval0
  have hW' := hW
  obtain ⟨p, q, hA0, hV, rfl, hfz, hnd⟩ := hW
  have hA : DataW.TrodAll enc Try.prog W 0 (fun _ => true) true Try.f7.params.toList args.toList ds p := hA0
  rw [Try.params7] at hA hval
  have hAk := hA
  obtain ⟨v0, vs0, d0, ds0, p0, q0, hargs, rfl, hp0, h0, r0⟩ := trodAll_cons hA
  obtain ⟨v1, vs1, d1, ds1, p1, q1, rfl, rfl, hp1, h1, r1⟩ := trodAll_cons r0
  obtain ⟨v2, vs2, d2, ds2, p2, q2, rfl, rfl, hp2, h2, r2⟩ := trodAll_cons r1
  obtain ⟨v3, vs3, d3, ds3, p3, q3, rfl, rfl, hp3, h3, r3⟩ := trodAll_cons r2
  obtain ⟨rfl, rfl, -⟩ := trodAll_nil r3
  obtain rfl : args = #[v0, v1, v2, v3] := by cases args; simp_all
  obtain ⟨rfl, rfl⟩ := trodVars_none hV
  obtain ⟨str0, rfl, -, -, m0⟩ := Go.ChangeMaps.open_string Try.underlying9 (hval 0 9 v0 rfl rfl) h0
  obtain ⟨x1, q1, c1, rfl⟩ := okWide_slice Try.underlying22 (hval 1 22 v1 rfl rfl)
  obtain ⟨fu1, fh1⟩ := h1
  obtain ⟨s1, Z1, l1, e1, H1, N1⟩ := open_int_cells2 Try.underlying22 Try.underlying3 (by kernel_rfl) fh1
  simp only [Value.cells, List.cons.injEq, and_true] at e1
  obtain rfl := e1.symm
  obtain ⟨a2, rfl, -, -, w2⟩ := open_int Try.underlying3 (hval 2 3 v2 rfl rfl) h2
  obtain ⟨a3, rfl, -, -, w3⟩ := open_int Try.underlying5 (hval 3 5 v3 rfl rfl) h3
  clear hA0 hval0
  simp only [List.append_nil] at hW'
  refine (walk W str0 m0 _ Z1 l1 H1 N1 a2 w2 a3 w3).mono fun e W' ⟨he, hb⟩ => ?_
  subst he
  exact ⟨_, rfl, kept_post (pa := p) hW' (fun _ _ _ => (trodAll_cons_mk (shut_bool Try.underlying4 _) trodAll_mk0)) (fun sp hsp => trodAll_stays laid hb (by rw [Try.params7]; decide +kernel) hAk (fun x hx => hW'.lt x hx) hsp) (fun _ => rfl) hb (ok_one (by kernel_rfl) rfl (okWide_bool_mk Try.underlying4 _))⟩

theorem over : Rows.hash64OneLabelRow.holds Try.pinned (OpenSpec.ofChange Rows.hash64OneLabelSpec) :=
  OpenClaim.holds_of_wide 7 Try.f7 rfl rfl rfl rfl rfl rfl rfl ⟨rfl, rfl, rfl, rfl, rfl⟩ rfl rfl rfl rfl rfl (by kernel_rfl) Try.func7 (by kernel_rfl)
    (of_decide_eq_true (by kernel_rfl)) (by unfold Func.isWrapper; first | (rw [if_pos (by decide +kernel)]; kernel_rfl) | (rw [if_neg (by decide +kernel)]; exact ⟨rfl, rfl⟩))
    (fun os started H enc _ => lifted os started H enc)

theorem proved : Rows.Hash64OneLabelSaid :=
  over
#print axioms proved
end Go.Proofs.Ytgbahacodamhjaa.hash64OneLabel
