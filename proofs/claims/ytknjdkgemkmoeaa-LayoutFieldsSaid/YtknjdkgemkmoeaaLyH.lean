/- Package layout: the section's example. -/
import Derived.Test.YtknjdkgemkmoeaaLyG
import Derived.Deep.MidRow
namespace Go.Proofs.Ytknjdkgemkmoeaa
open Go.ChangeShapes Go.WideShapes Go.ChangeAt Go.RowKit
set_option linter.unusedSimpArgs false
set_option linter.unusedVariables false

def exS (g : Nat) : Su := { pl := 1, ba := some ⟨g, 0, none⟩, bn := 1, bc := 1, x0 := 0, y0 := 0, x1 := 0, y1 := 0, ra := none, rn := 0, rc := 0, da := none, dn := 0, dc := 0, fog := 0, gx := 0, gy := 0, push := 0, drag := 0, rest := 0, rounds := 1, fuel := 0 }
def exB : Bod := { r := 5, pa := none, pn := 0, pc := 0, x := 0, y := 0, vx := 0, vy := 0, im := 0, a := 0, b := 0 }
theorem ex_valid (g : Nat) : valE (exS g) [exB] (fun _ => []) [] [] = 0 := by
  unfold valE
  rw [if_pos (pB_true (show shpP [exB] (fun _ => []) from fun k b hk => by
    rcases k with _ | k
    · cases hk; exact Or.inl ⟨rfl, by decide, by decide⟩
    · cases hk))]
  rfl

theorem SuC.range {w : World} {g : Nat} {S : Su} (h : SuC w g S) : w.rangeAt g 0 [.int .i64 S.pl, .slice S.ba S.bn S.bc, .int .i64 S.x0, .int .i64 S.y0, .int .i64 S.x1, .int .i64 S.y1, .slice S.ra S.rn S.rc, .slice S.da S.dn S.dc, .int .i64 S.fog, .int .i64 S.gx, .int .i64 S.gy, .int .i64 S.push, .int .i64 S.drag, .int .i64 S.rest, .int .i64 S.rounds, .int .i64 S.fuel] := by
  obtain ⟨h0, h1, ⟨h2, h3, h4, h5⟩, h6, h7, h8, h9, h10, h11, h12, h13, h14, h15⟩ := h
  intro j v hj
  rw [Nat.zero_add]
  rcases j with _ | _ | _ | _ | _ | _ | _ | _ | _ | _ | _ | _ | _ | _ | _ | _ | j
  · cases hj; exact h0
  · cases hj; exact h1
  · cases hj; exact h2
  · cases hj; exact h3
  · cases hj; exact h4
  · cases hj; exact h5
  · cases hj; exact h6
  · cases hj; exact h7
  · cases hj; exact h8
  · cases hj; exact h9
  · cases hj; exact h10
  · cases hj; exact h11
  · cases hj; exact h12
  · cases hj; exact h13
  · cases hj; exact h14
  · cases hj; exact h15
  · cases hj
theorem wpList_load_want {P : Program} {ops : Array Oper} {rest : List Oper} {op : Oper} {a : Act} {w : World} {Q : Exit → Act → World → Prop} (hw : Region.wanted op (yielded ops a.tmps) = true) (ty : TypeId) (x : Operand) (ho : op.op = .load ty x)
    (b o : Nat) (hx : a.eval x = .pointer (some ⟨b, o, none⟩)) (cs : List Value) (d : TypeDesc) (hc : w.rangeAt b o cs)
    (hu : P.underlying ty = some d) (hd : d.isRow = true) (hi : (P.info? ty).map (·.size) = some cs.length)
    (h : wpList P ops Q rest (a.put op.dst (.agg cs.toArray)) w) : wpList P ops Q (op :: rest) a w :=
  wpList_step fun K hK => by simp only [hw, if_true]; exact wp_load_mid ty x ho b o hx cs d hc hu hd hi (hK _ _ h)
theorem bld_shape (w : World) (r : Int) : (Instr.build 72 #[(0, .int .i64 r)]).run Try.prog w = .ok (.agg #[.int .i64 r, .slice none 0 0]) w := by kernel_rfl
theorem bld_body (w : World) (r : Int) : (Instr.build 74 #[(0, .agg #[.int .i64 r, .slice none 0 0])]).run Try.prog w = .ok (.agg #[.int .i64 r, .slice none 0 0, .int .i64 0, .int .i64 0, .int .i64 0, .int .i64 0, .int .i64 0, .int .i64 0, .int .i64 0]) w := by kernel_rfl
theorem bld_setup (w : World) (v : Value) (a : Option Addr) (h : v = .slice a 1 1) : (Instr.build 54 #[(0, .int .i64 1), (1, v), (10, .int .i64 1)]).run Try.prog w = .ok (.agg #[.int .i64 1, v, .int .i64 0, .int .i64 0, .int .i64 0, .int .i64 0, .slice none 0 0, .slice none 0 0, .int .i64 0, .int .i64 0, .int .i64 0, .int .i64 0, .int .i64 0, .int .i64 0, .int .i64 1, .int .i64 0]) w := by subst h; kernel_rfl
set_option maxRecDepth 100000 in
set_option maxHeartbeats 8000000 in
theorem lives12_any (w : World) : Calls Try.prog 29 #[] w fun e w' => e = .returned (.bool true) ∧ Below w.heap.size w w' := by
  obtain ⟨V, hV⟩ : ∃ V, V = w.alloc (.cells #[.int .i64 5, .slice none 0 0, .int .i64 0, .int .i64 0, .int .i64 0, .int .i64 0, .int .i64 0, .int .i64 0, .int .i64 0] 74) := ⟨_, rfl⟩
  have hbV : Below w.heap.size w V := by rw [hV]; exact alloc_below _ _
  have hR : SR Bod.enc 9 V (some ⟨w.heap.size, 0, none⟩) 1 1 [exB] := by
    refine ⟨rfl, Nat.le_refl _, by decide, fun _ => ⟨w.heap.size, rfl, by rw [hV, World.size_alloc]; omega, fun k b hk j u hu => ?_⟩⟩
    rcases k with _ | k
    · cases hk
      rw [hV, Nat.zero_mul, Nat.zero_add, World.cell?_alloc_new]
      rcases j with _ | _ | _ | _ | _ | _ | _ | _ | _ | j
      · cases hu; rfl
      · cases hu; rfl
      · cases hu; rfl
      · cases hu; rfl
      · cases hu; rfl
      · cases hu; rfl
      · cases hu; rfl
      · cases hu; rfl
      · cases hu; rfl
      · cases hu
    · cases hk
  have hf : (exS w.heap.size).few := ⟨⟨show (0 : Int) ≤ 1 by decide, show (1 : Int) ≤ 1000 by decide⟩, show 1 ≤ 1000 by decide⟩
  have hb2 := alloc_below V (.cells #[.int .i64 (exS w.heap.size).pl, .slice (exS w.heap.size).ba (exS w.heap.size).bn (exS w.heap.size).bc, .int .i64 (exS w.heap.size).x0, .int .i64 (exS w.heap.size).y0, .int .i64 (exS w.heap.size).x1, .int .i64 (exS w.heap.size).y1, .slice (exS w.heap.size).ra (exS w.heap.size).rn (exS w.heap.size).rc, .slice (exS w.heap.size).da (exS w.heap.size).dn (exS w.heap.size).dc, .int .i64 (exS w.heap.size).fog, .int .i64 (exS w.heap.size).gx, .int .i64 (exS w.heap.size).gy, .int .i64 (exS w.heap.size).push, .int .i64 (exS w.heap.size).drag, .int .i64 (exS w.heap.size).rest, .int .i64 (exS w.heap.size).rounds, .int .i64 (exS w.heap.size).fuel] 54)
  have hS := SuC.new V (exS w.heap.size)
  have kV := fun Z (hZ : Below V.heap.size V Z) => lyValidate_any (exS w.heap.size) [exB] (fun _ => []) [] [] Z (hR.carry hZ) (fun k b hk => by
    rcases k with _ | k
    · cases hk; exact Or.inl ⟨rfl, none, 0, rfl⟩
    · cases hk) (SR.nil _ _ _ (show 0 ≤ maxLen by decide)) (SR.nil _ _ _ (show 0 ≤ maxLen by decide))
  have kS := lySize_any (exS w.heap.size) hf
  have kP := lyPlayer_any (exS w.heap.size) hf 0
  have kB := lyBody_any (exS w.heap.size) hf 0
  rw [ex_valid] at kV
  rw [show szV (exS w.heap.size) = 60 from rfl] at kS
  rw [show plV (exS w.heap.size) 0 = 48 from rfl] at kP
  rw [show bdV (exS w.heap.size) 0 = 52 from rfl] at kB
  have kF := Lib.hid (field_any { data := #[118, 120] } (by decide))
  rw [show fldV { data := #[118, 120] } = 2 from by decide] at kF
  simp only [exS] at kV kS kP kB hb2
  have kV' := Lib.hid kV
  have kS' := Lib.hid kS
  have kP' := Lib.hid kP
  have kB' := Lib.hid kB
  have hS' := Lib.hid hS
  have hb2' := Lib.hid hb2
  clear kV kS kP kB hS hf hR hb2
  go_enter Try.func29, Try.ntmps29
  have hz : V.heap.size = w.heap.size + 1 := by rw [hV]; simp
  obtain ⟨U, hU⟩ : ∃ U, U = V.alloc (.cells #[.int .i64 1, .slice (some ⟨w.heap.size, 0, none⟩) 1 1, .int .i64 0, .int .i64 0, .int .i64 0, .int .i64 0, .slice none 0 0, .slice none 0 0, .int .i64 0, .int .i64 0, .int .i64 0, .int .i64 0, .int .i64 0, .int .i64 0, .int .i64 1, .int .i64 0] 54) := ⟨_, rfl⟩
  have hzU : w.heap.size + 1 < U.heap.size := by rw [hU, World.size_alloc]; omega
  rw [← hU] at hb2'
  have hSU0 : SuC U V.heap.size (exS w.heap.size) := by rw [hU]; exact hS'.out
  rw [hz] at hSU0
  have hSU := Lib.hid (fun Z (hZ : Below U.heap.size U Z) => show Z.rangeAt (w.heap.size + 1) 0 [.int .i64 1, .slice (some ⟨w.heap.size, 0, none⟩) 1 1, .int .i64 0, .int .i64 0, .int .i64 0, .int .i64 0, .slice none 0 0, .slice none 0 0, .int .i64 0, .int .i64 0, .int .i64 0, .int .i64 0, .int .i64 0, .int .i64 0, .int .i64 1, .int .i64 0] from (hSU0.carry hZ).range)
  clear hSU0 hS' hzU
  have hU' := Lib.hid hU
  have hV' := Lib.hid hV
  clear hz hU hV
  have q1 := bld_shape
  have q2 := bld_body
  have q3 := fun W a => bld_setup W (.slice a 1 1) a rfl
  go_upto_region 1 with fail
  go_cut [1] (fun v W => v = .pointer (some ⟨w.heap.size + 1, 0, none⟩) ∧ W = U)
  case first =>
    go_wp2_with fail
    go_meet
    exact ⟨rfl, by rw [hU'.out, hV'.out]⟩
  obtain ⟨hv1, hw1⟩ := hcut
  subst hv1
  subst hw1
  clear hU' hV' q1 q2 q3
  generalize w.heap.size + 1 = g at *
  have ld0 := hSU.out _ (Below.refl _ _)
  have hii : (Try.prog.info? 54).map (·.size) = some 16 := by kernel_rfl
  go_wp2_with (first | (refine wpList_load_mid rfl 54 _ rfl g 0 rfl _ _ ld0 Try.underlying54 rfl hii ?_))
  with_reducible refine (kV'.out _ hb2'.out).mono ?_
  rintro e Y1 ⟨rfl, hb1⟩
  have hB1 := Lib.hid hb1
  have hBV1 := Lib.hid (below_step hb2'.out hb1)
  have ld1 := hSU.out _ hB1.out
  clear ld0 hb1
  go_wp2_with (first | (refine wpList_load_want (by rfl) 54 _ rfl g 0 rfl _ _ ld1 Try.underlying54 rfl hii ?_) | (refine wpList_load_mid rfl 54 _ rfl g 0 rfl _ _ ld1 Try.underlying54 rfl hii ?_))
  with_reducible refine (kS'.out _).mono ?_
  rintro e Y2 ⟨rfl, hb2⟩
  have hB2 := Lib.hid (below_step hB1.out hb2)
  have hBV2 := Lib.hid (below_step hBV1.out hb2)
  have ld2 := hSU.out _ hB2.out
  clear ld1 hb2
  go_wp2_with (first | (refine wpList_load_want (by rfl) 54 _ rfl g 0 rfl _ _ ld2 Try.underlying54 rfl hii ?_) | (refine wpList_load_mid rfl 54 _ rfl g 0 rfl _ _ ld2 Try.underlying54 rfl hii ?_))
  with_reducible refine (kP'.out _).mono ?_
  rintro e Y3 ⟨rfl, hb3⟩
  have hB3 := Lib.hid (below_step hB2.out hb3)
  have hBV3 := Lib.hid (below_step hBV2.out hb3)
  have ld3 := hSU.out _ hB3.out
  clear ld2 hb3
  go_wp2_with (first | (refine wpList_load_want (by rfl) 54 _ rfl g 0 rfl _ _ ld3 Try.underlying54 rfl hii ?_) | (refine wpList_load_mid rfl 54 _ rfl g 0 rfl _ _ ld3 Try.underlying54 rfl hii ?_))
  with_reducible refine (kB'.out _).mono ?_
  rintro e Y4 ⟨rfl, hb4⟩
  have hBV4 := Lib.hid (below_step hBV3.out hb4)
  clear ld3 hb4
  go_wp2_with fail
  with_reducible refine (kF.out _).mono ?_
  rintro e Y5 ⟨rfl, hb5⟩
  go_wp2
  go_ret
  exact ⟨rfl, below_step hbV (below_step hBV4.out hb5)⟩
end Go.Proofs.Ytknjdkgemkmoeaa
