/- The reference of merkle: Prove. -/
import Derived.Test.YthpdohfekillkaaMkC
import Derived.Laws.AppendOwnNone
import Derived.Deep.AppendLies
import Derived.Deep.RegionHeld3
import Derived.Deep.RegionLaw
namespace Go.Proofs.Ythpdohfekillkaa
open Go.ChangeShapes Go.WideShapes Go.ChangeAt Go.RowKit Go.Shelf
set_option linter.unusedSimpArgs false
set_option linter.unusedVariables false

/-- A call of a Go function, as one step of a region that draws. -/
theorem step_met {P : Program} {ops : Array Oper} {o : Oper} {a : Act} {w : World} {K : Act → World → Prop} {Q : Exit → Act → World → Prop} {E : Prop} (hgd : o.guard = none) {f : Nat} (args : List Operand) {ts : Array TypeId}
    (ho : o.op = .call { callee := .value (.func f), args := args.toArray, argTypes := ts }) (eg : ∀ args w, (callFunc f args).run P w = .ok (.enter f args) w) {vs : List Value} (hv : args.map a.eval = vs) {v : Value} {R : World → Prop}
    (h : Calls P f vs.toArray w fun e w' => e = .returned v ∧ R w') (hK : ∀ w', R w' → K (a.put o.dst v) w') : if Region.wanted o (yielded ops a.tmps) = true then Oper.wp P o a w K Q else E := by
  have hw : Region.wanted o (yielded ops a.tmps) = true := by simp [Region.wanted, hgd]
  rw [if_pos hw]
  have hrun : (execOp a.eval o).run P w = .ok (.enter f vs.toArray) w := by
    subst hv
    simp [execOp, ho, resolve, invoke, eg, Act.eval, Deferred.ofValue]
  unfold Oper.wp
  rw [hrun]
  show Calls P f vs.toArray w _
  refine h.mono ?_
  rintro e w' ⟨rfl, hr⟩
  exact hK w' hr

theorem word_news (Y : World) (z : W64) : ∀ j u, (u64s [z])[j]? = some u → (Y.alloc (.cells #[.int .u64 (z.toNat : Int)] 27)).cell? ((⟨Y.heap.size, 0, none⟩ : Addr).add j) = some u := fun j u hu => by
  rw [add_plain, Nat.zero_add, World.cell?_alloc_new]; simpa [u64s] using hu
theorem size_more (Y : World) (o : Obj) {n : Nat} (h : n ≤ Y.heap.size) : n ≤ (Y.alloc o).heap.size := by rw [World.size_alloc]; omega
/-- A word more behind a row of the call's own, as one step of a region that draws. -/
theorem step_word {ops : Array Oper} {o : Oper} {a : Act} {Y : World} {K : Act → World → Prop} {Q : Exit → Act → World → Prop} {E : Prop} (hgd : o.guard = none) (A B : Operand)
    (ho : o.op = .call { callee := .builtin .append, args := #[A, B], argTypes := #[31, 31] }) (base : Nat) (pv : Value) (t : Nat) (L : List W64) (z : W64) (hs : a.eval A = pv) (hx : a.eval B = .slice (some ⟨Y.heap.size, 0, none⟩) 1 1)
    (hown : Y.ownsRow base 27 1 pv t (u64s L)) (hbase : base ≤ Y.heap.size) (ht : t ≤ 1000)
    (hK : ∀ g cap w', w'.ownsRow base 27 1 (.slice (some ⟨g, 0, none⟩) (t + 1) cap) (t + 1) (u64s (L ++ [z])) → (Y.alloc (.cells #[.int .u64 (z.toNat : Int)] 27)).grownBy w' pv.ownBlock → g < w'.heap.size → K (a.put o.dst (.slice (some ⟨g, 0, none⟩) (t + 1) cap)) w') :
    if Region.wanted o (yielded ops a.tmps) = true then Oper.wp Try.prog o a (Y.alloc (.cells #[.int .u64 (z.toNat : Int)] 27)) K Q else E := by
  obtain ⟨i0, hi0, hz0, hz1, hz2⟩ := info_parts info_word
  refine step_append_lies _ hgd A B _ ho base 27 i0 _ 1 8 Try.underlying31 hi0 hz0 hz1 hz2 rfl (by decide) pv t (u64s L) hs (hown.alloc _) ⟨Y.heap.size, 0, none⟩ 1 1 (u64s [z]) hx rfl (word_news Y z) (u64s_one _) Nat.one_pos (by unfold maxLen; omega) (by omega) (size_more Y _ hbase) _ rfl ?_
  intro g cap w' h1 h2 _ h3
  rw [← u64s_append] at h1
  exact hK g cap w' h1 h2 h3

/-- Block b holds a leaf. -/
def LfB (w : World) (b : Nat) (i v : Int) (pv : Value) : Prop := w.heap[b]? = some (.cells #[.int .i64 i, .int .i64 v, pv] 33)
theorem LfB.lt {w : World} {b : Nat} {i v : Int} {pv : Value} (h : LfB w b i v pv) : b < w.heap.size := (Array.getElem?_eq_some_iff.1 h).1
theorem LfB.c0 {w : World} {b : Nat} {i v : Int} {pv : Value} (h : LfB w b i v pv) : w.cell? ⟨b, 0, none⟩ = some (.int .i64 i) := by simp [World.cell?, show w.heap[b]? = _ from h]
theorem LfB.c1 {w : World} {b : Nat} {i v : Int} {pv : Value} (h : LfB w b i v pv) : w.cell? ⟨b, 1, none⟩ = some (.int .i64 v) := by simp [World.cell?, show w.heap[b]? = _ from h]
theorem LfB.c2 {w : World} {b : Nat} {i v : Int} {pv : Value} (h : LfB w b i v pv) : w.cell? ⟨b, 2, none⟩ = some pv := by simp [World.cell?, show w.heap[b]? = _ from h]
theorem LfB.fz {w : World} {b : Nat} {i v : Int} {pv : Value} (h : LfB w b i v pv) (k : Nat) : w.frozen? ⟨b, k, none⟩ = false := by simp [World.frozen?, show w.heap[b]? = _ from h]
theorem LfB.new (w : World) (i v : Int) (pv : Value) : LfB (w.alloc (.cells #[.int .i64 i, .int .i64 v, pv] 33)) w.heap.size i v pv := World.alloc_heap_new w _
theorem LfB.below {w w' : World} {b : Nat} {i v : Int} {pv : Value} (h : LfB w b i v pv) (hb : Below w.heap.size w w') : LfB w' b i v pv := (hb.block b h.lt).trans h
theorem LfB.grown {w w' : World} {b : Nat} {i v : Int} {pv : Value} {row : Option Nat} (h : LfB w b i v pv) (hg : w.grownBy w' row) (hne : some b ≠ row) : LfB w' b i v pv := (hg.block b h.lt hne).trans h
theorem LfB.other {w : World} {b : Nat} {i v : Int} {pv : Value} (h : LfB w b i v pv) {p : Addr} (hp : b ≠ p.block) (x : Value) : LfB (w.setCell p x) b i v pv := (Below.heap_setCell _ _ _ _ hp).trans h
theorem LfB.set2 {w : World} {b : Nat} {i v : Int} {pv : Value} (h : LfB w b i v pv) (x : Value) : LfB (w.setCell ⟨b, 2, none⟩ x) b i v x := by
  obtain ⟨hlt, hk⟩ := Array.getElem?_eq_some_iff.1 h
  show (w.heap.modify b _)[b]? = _
  rw [Array.getElem?_eq_getElem (by rw [Array.size_modify]; exact hlt), Array.getElem_modify_self, hk]
  rfl
/-- A row of words is no leaf's block. -/
theorem LfB.not_row {w : World} {b : Nat} {i v : Int} {pv : Value} (h : LfB w b i v pv) {base k : Nat} {u : Value} {xs : List Value} (hr : w.ownsRow base 27 1 u k xs) : some b ≠ u.ownBlock := by
  rcases hr.2 with ⟨rfl, _⟩ | ⟨g, cap, cur, rfl, _, hgb, _⟩
  · simp [Value.ownBlock]
  · intro e
    obtain rfl : b = g := by simpa [Value.ownBlock] using e
    have := (show w.heap[b]? = _ from h).symm.trans hgb
    simp at this

theorem LfB.step {Y w' : World} {b : Nat} {i v : Int} {pv u : Value} {base t : Nat} {xs : List Value} {o : Obj} (h : LfB Y b i v pv) (ho : Y.ownsRow base 27 1 u t xs) (hg : (Y.alloc o).grownBy w' u.ownBlock) : LfB w' b i v pv :=
  (h.below (alloc_below Y o)).grown hg ((h.below (alloc_below Y o)).not_row (ho.alloc o))
theorem grownBy_set (W : World) (p : Addr) (v : Value) : W.grownBy (W.setCell p v) (some p.block) :=
  ⟨rfl, rfl, rfl, (KeepsWalks.setCell W p v).size, fun k _ hk => Below.heap_setCell _ _ _ k (fun e => hk (by rw [e]))⟩
/-- What a round of Prove leaves. -/
theorem leaf_round {w V wr y1 w2 : World} {b0 : Nat} {j x : Int} {pv : Value} {t gb cb : Nat} {L : List W64} {z : W64} {o : Obj} (hw : Below w.heap.size w wr) (hb0 : w.heap.size = b0) (hzV : V.heap.size = b0 + 2) (hzw : V.heap.size ≤ wr.heap.size)
    (hA : LfB wr b0 0 0 (.slice none 0 0)) (hB : LfB wr (b0 + 1) j x pv) (ho : wr.ownsRow V.heap.size 27 1 pv t (u64s L)) (hY : Below wr.heap.size wr y1)
    (ho2 : w2.ownsRow V.heap.size 27 1 (.slice (some ⟨gb, 0, none⟩) (t + 1) cb) (t + 1) (u64s (L ++ [z]))) (hg : (y1.alloc o).grownBy w2 pv.ownBlock) :
    LfB (w2.setCell ⟨b0 + 1, 2, none⟩ (.slice (some ⟨gb, 0, none⟩) (t + 1) cb)) b0 0 0 (.slice none 0 0) ∧ LfB (w2.setCell ⟨b0 + 1, 2, none⟩ (.slice (some ⟨gb, 0, none⟩) (t + 1) cb)) (b0 + 1) j x (.slice (some ⟨gb, 0, none⟩) (t + 1) cb) ∧
    (w2.setCell ⟨b0 + 1, 2, none⟩ (.slice (some ⟨gb, 0, none⟩) (t + 1) cb)).ownsRow V.heap.size 27 1 (.slice (some ⟨gb, 0, none⟩) (t + 1) cb) (t + 1) (u64s (L ++ [z])) ∧
    Below w.heap.size w (w2.setCell ⟨b0 + 1, 2, none⟩ (.slice (some ⟨gb, 0, none⟩) (t + 1) cb)) ∧ V.heap.size ≤ (w2.setCell ⟨b0 + 1, 2, none⟩ (.slice (some ⟨gb, 0, none⟩) (t + 1) cb)).heap.size := by
  have ho1 : y1.ownsRow V.heap.size 27 1 pv t (u64s L) := own_other ho (grown_of_below hY) fun r e => by cases e
  have hA1 := LfB.step (hA.below hY) ho1 hg
  have hB1 := LfB.step (hB.below hY) ho1 hg
  have hby := below_step hw hY
  have hb2 : Below w.heap.size w w2 := (hby.alloc hby.size o).grown hg (by rw [World.size_alloc]; have := hby.size; omega) fun r e => by have := (ho1.lt r e).1; omega
  have h2 := hg.size
  rw [World.size_alloc] at h2
  have hys := hY.size
  refine ⟨hA1.other (by simp) _, hB1.set2 _, own_other ho2 (grownBy_set w2 _ _) (fun r e => by cases e; simp only; omega), hb2.setCell (by simp only; omega) _, ?_⟩
  rw [World.size_setCell]; omega
/-- What Prove gives. -/
def prI (C : List Int) (i : Int) : Int := if 0 ≤ i ∧ i < C.length then i else 0
def prV (C : List Int) (i : Int) : Int := if 0 ≤ i ∧ i < C.length then C.getD i.toNat 0 else 0
def prL (C : List Int) (i : Int) : List W64 := if 0 ≤ i ∧ i < C.length then proofW C i.toNat (ht C.length) else []
theorem pr_out {C : List Int} {i : Int} (h : ¬ (0 ≤ i ∧ i < C.length)) : prI C i = 0 ∧ prV C i = 0 ∧ prL C i = [] := by unfold prI prV prL; rw [if_neg h, if_neg h, if_neg h]; exact ⟨rfl, rfl, rfl⟩
theorem pr_in {C : List Int} {j : Nat} {x : Int} (h : C[j]? = some x) : prI C j = j ∧ prV C j = x ∧ prL C j = proofW C j (ht C.length) := by
  have hj := (List.getElem?_eq_some_iff.1 h).1
  have hc : 0 ≤ (j : Int) ∧ (j : Int) < (C.length : Int) := by omega
  unfold prI prV prL
  rw [if_pos hc, if_pos hc, if_pos hc, Int.toNat_natCast]
  exact ⟨rfl, by simp [List.getD, h], rfl⟩

set_option maxRecDepth 100000 in
set_option maxHeartbeats 8000000 in
theorem refProve_any (v : Value) (C : List Int) (i : Int) (w : World) (hI : IL w v C) (hl : C.length ≤ 1000) (hi : I64 i) :
    Calls Try.prog 19 #[v, .int .i64 i] w fun e w' => ∃ pv, e = .returned (.agg #[.int .i64 (prI C i), .int .i64 (prV C i), pv]) ∧ w'.ownsRow w.heap.size 27 1 pv (prL C i).length (u64s (prL C i)) ∧ Below w.heap.size w w' := by
  obtain ⟨a, cap, rfl, h1, h2, h3⟩ := hI.shape
  unfold maxLen at h2
  have hI' := Lib.hid hI
  have hB0 := Lib.hid (alloc_below w (.cells #[.int .i64 0, .int .i64 0, .slice none 0 0] 33))
  have hL0 := Lib.hid (LfB.new w 0 0 (.slice none 0 0))
  by_cases hin : 0 ≤ i ∧ i < C.length
  · obtain ⟨j, rfl⟩ : ∃ j : Nat, i = (j : Int) := ⟨i.toNat, by omega⟩
    have hj : j < C.length := by omega
    obtain ⟨g, off, rfl, hg, hc⟩ := h3 (by omega)
    obtain ⟨x, hx⟩ : ∃ x, C[j]? = some x := ⟨_, List.getElem?_eq_getElem hj⟩
    have c0 := hc j x hx
    obtain ⟨q1, q2, q3⟩ := pr_in hx
    rw [q1, q2, q3]
    clear q1 q2 q3 hc h3 hI hx hin
    obtain ⟨n, hn⟩ : ∃ n, n = C.length := ⟨_, rfl⟩
    rw [← hn] at h1 hl hj hI' ⊢
    have hn' := Lib.hid hn
    clear hn
    have k0 : decide ((j : Int) < 0) = false := decide_eq_false (by omega)
    have k1 : ¬ (n : Int) ≤ (j : Int) := by omega
    go_enter Try.func19, Try.ntmps19
    go_wp2_with fail
    have hL1 := LfB.new (w.alloc (.cells #[.int .i64 0, .int .i64 0, .slice none 0 0] 33)) (j : Int) x (.slice none 0 0)
    have hL0' := hL0.out.below (alloc_below _ (.cells #[.int .i64 (j : Int), .int .i64 x, .slice none 0 0] 33))
    have hBV := below_step hB0.out (alloc_below _ (.cells #[.int .i64 (j : Int), .int .i64 x, .slice none 0 0] 33))
    rw [World.size_alloc] at hL1
    obtain ⟨V, hV⟩ : ∃ V, V = (w.alloc (.cells #[.int .i64 0, .int .i64 0, .slice none 0 0] 33)).alloc (.cells #[.int .i64 (j : Int), .int .i64 x, .slice none 0 0] 33) := ⟨_, rfl⟩
    rw [← hV] at hL1 hL0' hBV ⊢
    have hzV : V.heap.size = w.heap.size + 2 := by rw [hV]; simp
    clear hV hB0 hL0
    obtain ⟨i0, hi0, hz0, hz1, hz2⟩ := info_parts info_word
    have hi0' := Lib.hid hi0
    have hz0' := Lib.hid hz0
    have hz1' := Lib.hid hz1
    have hz2' := Lib.hid hz2
    clear hi0 hz0 hz1 hz2
    obtain ⟨H, hH⟩ : ∃ H, H = ht n := ⟨_, rfl⟩
    have h16 : H ≤ 10 := by rw [hH]; exact ht_le.2 (by omega)
    obtain ⟨S, hS⟩ : ∃ S, S = sz n := ⟨_, rfl⟩
    have kS := fun W => refSize_any n W (by omega)
    rw [← hS] at kS
    have hSH : S = 2 ^ H := by rw [hS, hH, sz_eq]
    have hS1 : S ≤ 1024 := by rw [hSH]; exact Nat.pow_le_pow_right (n := 2) (by decide) h16
    have hSH' := Lib.hid hSH
    have kS' := Lib.hid kS
    have hHd := Lib.hid hH
    clear hS hSH kS hH
    go_loopw [6] (fun s wr => ∃ (t p : Nat) (pv : Value), t ≤ H ∧ p = 2 ^ t ∧ s = .int .i64 (p : Nat) ∧ p ≤ 1024 ∧ LfB wr w.heap.size 0 0 (.slice none 0 0) ∧ LfB wr (w.heap.size + 1) (j : Int) x pv ∧ wr.ownsRow V.heap.size 27 1 pv t (u64s (proofW C j t)) ∧ Below w.heap.size w wr ∧ V.heap.size ≤ wr.heap.size) (fun s _ => (2048 - intOf s).toNat)
    case atStart => exact ⟨0, 1, _, Nat.zero_le _, rfl, rfl, by omega, hL0', hL1, World.ownsRow_nil _ _ _ _, hBV, Nat.le_refl _⟩
    case round =>
      obtain ⟨t, p, pv, htt, hp, rfl, hp4, hA, hB, ho, hbw, hzw⟩ := hrel
      have hp' := Lib.hid hp
      have hp1 : 1 ≤ p := by rw [hp]; exact Nat.one_le_two_pow
      have hor := Lib.hid ho
      have hAr := Lib.hid hA
      have hBr := Lib.hid hB
      have hWr := Lib.hid hbw
      clear hp hL0' hL1 hBV
      by_cases hlt : t < H
      · have hpS : p < S := by
          have h1 := Nat.pow_lt_pow_right (a := 2) (by decide) hlt
          rw [hp'.out, hSH'.out]; exact h1
        obtain ⟨q, hq⟩ : ∃ q, q = j / p := ⟨_, rfl⟩
        have hq0 : q * p ≤ j := by rw [hq]; exact Nat.div_mul_le_self _ _
        have hqi : (j : Int) / (p : Int) = (q : Int) := by rw [hq]; push_cast; rfl
        obtain ⟨f, hf⟩ : ∃ f, f = q * p := ⟨_, rfl⟩
        have hqp : (j : Int) / (p : Int) * (p : Int) = (f : Int) := by rw [hqi, hf]; push_cast; rfl
        rw [← hf] at hq0
        have hql : q ≤ 1000 := by
          have h2 : q ≤ j := by rw [hq]; exact Nat.div_le_self _ _
          omega
        have hd0 : 0 ≤ (j : Int) / (p : Int) := by rw [hqi]; omega
        have hd1 : (j : Int) / (p : Int) ≤ 1000 := by rw [hqi]; omega
        have hb1 : 0 ≤ (j : Int) / (p : Int) * (p : Int) := by rw [hqp]; omega
        have hb2 : (j : Int) / (p : Int) * (p : Int) ≤ 1000 := by rw [hqp]; omega
        have hsib := Lib.hid (proofW_succ C j t)
        have hqd := Lib.hid (show j / 2 ^ t = q from by rw [hq, hp'.out])
        have hF := Lib.hid (And.intro hqi (And.intro hqp hf))
        clear hq hqi hqp hf
        by_cases hev : q % 2 = 0
        · have hpe : (j : Int) / (p : Int) % 2 = 0 := by rw [hF.out.1]; omega
          go_wp2_with (go_at_call 42; with_reducible refine (kS'.out _).mono ?_; rintro e w1 ⟨rfl, rfl⟩)
          have hIr := Lib.hid (hI'.out.carry hWr.out)
          have hC := Lib.hid (show C.length ≤ 65536 from by rw [← hn'.out]; omega)
          have K := fun W (hW : Below wr.heap.size wr W) => refNode_any C hC.out t (q + 1) (f + p) (f + 2 * p) _ W (hIr.out.carry hW) (by rw [hF.out.2.2, hp'.out, Nat.add_mul, Nat.one_mul]) (by rw [hF.out.2.2, hp'.out, Nat.add_mul (q + 1), Nat.add_mul q]; omega) (by omega)
          have hf1 : f ≤ 1000 := by omega
          rw [show ((f + p : Nat) : Int) = IntKind.i64.wrap ((j : Int) / (p : Int) * (p : Int) + (p : Int)) from by rw [hF.out.2.1, IntWalk.i64_left, IntWalk.wrap64_in _ (by omega)]; push_cast; rfl,
            show ((f + 2 * p : Nat) : Int) = IntKind.i64.wrap ((j : Int) / (p : Int) * (p : Int) + IntKind.i64.wrap (2 * (p : Int))) from by rw [hF.out.2.1, IntWalk.i64_left (2 * (p : Int)), IntWalk.wrap64_in (2 * (p : Int)) (by omega), IntWalk.i64_left, IntWalk.wrap64_in _ (by omega)]; push_cast; rfl] at K
          have hnx := Lib.hid (show proofW C j (t + 1) = proofW C j t ++ [nodeW C t (q + 1)] from by rw [hsib.out, hqd.out, sib_even hev])
          generalize nodeW C t (q + 1) = z at *
          have hK := Lib.hid K
          have bD : Below wr.heap.size wr wr.drew := (Below.refl _ wr).drew
          have c2 := hB.c2
          have hl1 := Lib.hid (show t ≤ 1000 from by omega)
          have hEn : ∀ args w, (callFunc 41 args).run Try.prog w = .ok (.enter 41 args) w := enters_of Try.func41 (by kernel_rfl) rfl
          have hu1 := Lib.hid (hB.lt)
          clear K hA hB ho hbw
          go_region_law (first
            | (refine step_met (f := 41) (by rfl) [.tmp 42, .tmp 45, .tmp 49] (by rfl) hEn (by simp [Act.eval, Act.put]) (hK.out _ bD) ?_; intro y1 hb; have hY := Lib.hid (below_step bD hb); have hB1 := Lib.hid (hBr.out.below hY.out); have ho1 := Lib.hid (own_other hor.out (grown_of_below hY.out) fun r e => by cases e); have hzy := Lib.hid (Nat.le_trans hzw hY.out.size); have d2 := hB1.out.c2; have d3 := carry (alloc_below y1 (.cells #[.int .u64 (z.toNat : Int)] 27)) d2; clear hb)
            | (refine step_word (by rfl) (.tmp 41) (.tmp 51) (by rfl) V.heap.size pv t _ z (by simp [Act.eval, Act.put]) (by simp [Act.eval, Act.put]) ho1.out hzy.out hl1.out ?_; intro gb cb w2 hown2 hgrow2 hlt2; have ho2 := Lib.hid hown2; have hY2 := Lib.hid hgrow2; have hB2 := Lib.hid (LfB.step hB1.out ho1.out hgrow2); have d2' := hB2.out.c2; have df := hB2.out.fz 2; clear hown2 hgrow2))
          all_goals
            have hpp := Lib.hid (show 2 * p = 2 ^ (t + 1) ∧ 2 * p ≤ 1024 from by
              have h1 : 2 * p = 2 ^ (t + 1) := by rw [hp'.out, Nat.pow_succ, Nat.mul_comm]
              exact ⟨h1, by rw [h1]; exact Nat.pow_le_pow_right (n := 2) (by decide) (show t + 1 ≤ 10 from by omega)⟩)
            obtain ⟨r1, r2, r3, r4, r5⟩ := leaf_round hWr.out rfl hzV hzw hAr.out hBr.out hor.out hY.out ho2.out hY2.out
            have hR := Lib.hid (And.intro r1 (And.intro r2 (And.intro r3 (And.intro r4 r5))))
            clear r1 r2 r3 r4 r5 d2' df d2 d3 c2
            generalize w2.setCell ⟨w.heap.size + 1, 2, none⟩ (.slice (some ⟨gb, 0, none⟩) (t + 1) cb) = U at *
            go_wp2
            go_roundw
            case rel => exact ⟨t + 1, 2 * p, _, hlt, hpp.out.1, by go_num, hpp.out.2, hR.out.1, hR.out.2.1, by rw [hnx.out]; exact hR.out.2.2.1, hR.out.2.2.2.1, hR.out.2.2.2.2⟩
            case measure => have := hpp.out.2; simp [intOf]; omega
        · have hq1 : 1 ≤ q := by omega
          have hfp : p ≤ f := by rw [hF.out.2.2]; exact Nat.le_mul_of_pos_left p hq1
          have hpe : ¬ (j : Int) / (p : Int) % 2 = 0 := by rw [hF.out.1]; omega
          go_wp2_with (go_at_call 42; with_reducible refine (kS'.out _).mono ?_; rintro e w1 ⟨rfl, rfl⟩)
          have hIr := Lib.hid (hI'.out.carry hWr.out)
          have hC := Lib.hid (show C.length ≤ 65536 from by rw [← hn'.out]; omega)
          have hq2 : q - 1 + 1 = q := by omega
          have hfe : (q - 1) * p + p = f := by rw [hF.out.2.2, ← Nat.succ_mul, Nat.succ_eq_add_one, hq2]
          have K := fun W (hW : Below wr.heap.size wr W) => refNode_any C hC.out t (q - 1) (f - p) f _ W (hIr.out.carry hW) (by rw [← hp'.out]; omega) (by rw [hq2, ← hp'.out]; exact hF.out.2.2) (by omega)
          have hf1 : f ≤ 1000 := by omega
          rw [show ((f - p : Nat) : Int) = IntKind.i64.wrap ((j : Int) / (p : Int) * (p : Int) - (p : Int)) from by rw [hF.out.2.1, IntWalk.i64_left, IntWalk.wrap64_in _ (by omega)]; omega, ← hF.out.2.1] at K
          clear hfe hq2
          have hnx := Lib.hid (show proofW C j (t + 1) = proofW C j t ++ [nodeW C t (q - 1)] from by rw [hsib.out, hqd.out, sib_odd hev])
          generalize nodeW C t (q - 1) = z at *
          have hK := Lib.hid K
          have bD : Below wr.heap.size wr wr.drew := (Below.refl _ wr).drew
          have c2 := hB.c2
          have hl1 := Lib.hid (show t ≤ 1000 from by omega)
          have hEn : ∀ args w, (callFunc 41 args).run Try.prog w = .ok (.enter 41 args) w := enters_of Try.func41 (by kernel_rfl) rfl
          have hu1 := Lib.hid (hB.lt)
          clear K hA hB ho hbw
          go_region_law (first
            | (refine step_met (f := 41) (by rfl) [.tmp 56, .tmp 59, .tmp 60] (by rfl) hEn (by simp [Act.eval, Act.put]) (hK.out _ bD) ?_; intro y1 hb; have hY := Lib.hid (below_step bD hb); have hB1 := Lib.hid (hBr.out.below hY.out); have ho1 := Lib.hid (own_other hor.out (grown_of_below hY.out) fun r e => by cases e); have hzy := Lib.hid (Nat.le_trans hzw hY.out.size); have d2 := hB1.out.c2; have d3 := carry (alloc_below y1 (.cells #[.int .u64 (z.toNat : Int)] 27)) d2; clear hb)
            | (refine step_word (by rfl) (.tmp 55) (.tmp 62) (by rfl) V.heap.size pv t _ z (by simp [Act.eval, Act.put]) (by simp [Act.eval, Act.put]) ho1.out hzy.out hl1.out ?_; intro gb cb w2 hown2 hgrow2 hlt2; have ho2 := Lib.hid hown2; have hY2 := Lib.hid hgrow2; have hB2 := Lib.hid (LfB.step hB1.out ho1.out hgrow2); have d2' := hB2.out.c2; have df := hB2.out.fz 2; clear hown2 hgrow2))
          all_goals
            have hpp := Lib.hid (show 2 * p = 2 ^ (t + 1) ∧ 2 * p ≤ 1024 from by
              have h1 : 2 * p = 2 ^ (t + 1) := by rw [hp'.out, Nat.pow_succ, Nat.mul_comm]
              exact ⟨h1, by rw [h1]; exact Nat.pow_le_pow_right (n := 2) (by decide) (show t + 1 ≤ 10 from by omega)⟩)
            obtain ⟨r1, r2, r3, r4, r5⟩ := leaf_round hWr.out rfl hzV hzw hAr.out hBr.out hor.out hY.out ho2.out hY2.out
            have hR := Lib.hid (And.intro r1 (And.intro r2 (And.intro r3 (And.intro r4 r5))))
            clear r1 r2 r3 r4 r5 d2' df d2 d3 c2
            generalize w2.setCell ⟨w.heap.size + 1, 2, none⟩ (.slice (some ⟨gb, 0, none⟩) (t + 1) cb) = U at *
            go_wp2
            go_roundw
            case rel => exact ⟨t + 1, 2 * p, _, hlt, hpp.out.1, by go_num, hpp.out.2, hR.out.1, hR.out.2.1, by rw [hnx.out]; exact hR.out.2.2.1, hR.out.2.2.2.1, hR.out.2.2.2.2⟩
            case measure => have := hpp.out.2; simp [intOf]; omega
      · have htH : t = H := by omega
        have hd := Lib.hid (show w.heap.size ≤ V.heap.size from by omega)
        have hpS : p = S := by rw [hp'.out, hSH'.out, htH]
        have hlen := Lib.hid (show (proofW C j (ht n)).length = t from by rw [proofW_len, ← hHd.out, htH])
        have hHt := Lib.hid (show ht n = t from by rw [← hHd.out, htH])
        have hps : ¬ p < S := by omega
        obtain ⟨pa, pn, pc, rfl⟩ : ∃ a n c, pv = .slice a n c := by
          rcases ho.2 with ⟨h, _⟩ | ⟨g, cap, cur, h, _⟩
          · exact ⟨_, _, _, h⟩
          · exact ⟨_, _, _, h⟩
        have c0' := hA.c0
        have c1' := hA.c1
        have c2' := hA.c2
        have d0 := hB.c0
        have d1 := hB.c1
        have d2 := hB.c2
        have f0 := hA.fz 0
        have f1 := hA.fz 1
        have f2 := hA.fz 2
        clear hA hB ho hbw hpS htH
        go_wp2_with (go_at_call 42; with_reducible refine (kS'.out _).mono ?_; rintro e w1 ⟨rfl, rfl⟩)
        refine bodyPost_ret (v := .agg #[.int .i64 (j : Int), .int .i64 x, .slice pa pn pc]) (by simp [results, Try.results19, go_sem, c0', c1', c2']) rfl ⟨_, rfl, ?_, ?_⟩
        · rw [hlen.out, hHt.out]
          have hlt0 : w.heap.size < V.heap.size := by omega
          exact own_mono (own_other (own_other (own_other hor.out (grownBy_set wr _ _) fun r e => by cases e; exact hlt0) (grownBy_set _ _ _) fun r e => by cases e; exact hlt0) (grownBy_set _ _ _) fun r e => by cases e; exact hlt0) hd.out
        · exact ((hWr.out.setCell (Nat.le_refl _) _).setCell (Nat.le_refl _) _).setCell (Nat.le_refl _) _
  · obtain ⟨q1, q2, q3⟩ := pr_out hin
    rw [q1, q2, q3]
    clear q1 q2 q3 h3 hI hI'
    generalize C.length = n at *
    by_cases hneg : i < 0
    · go_enter Try.func19, Try.ntmps19
      go_wp2
      refine bodyPost_ret (v := .agg #[.int .i64 0, .int .i64 0, .slice none 0 0]) (by simp [results, Try.results19, go_sem]) rfl ⟨_, rfl, World.ownsRow_nil _ _ _ _, ?_⟩
      exact hB0.out
    · have k0 : (n : Int) ≤ i := by omega
      go_enter Try.func19, Try.ntmps19
      go_wp2
      refine bodyPost_ret (v := .agg #[.int .i64 0, .int .i64 0, .slice none 0 0]) (by simp [results, Try.results19, go_sem]) rfl ⟨_, rfl, World.ownsRow_nil _ _ _ _, ?_⟩
      exact hB0.out
end Go.Proofs.Ythpdohfekillkaa
