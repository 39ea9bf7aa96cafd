/- Package collide: the iterator over the directions. -/
import Derived.Test.YtfbgghkkgmgnjaaCollC
namespace Go.Proofs.Ytfbgghkkgmgnjaa
open Go.ChangeShapes Go.WideShapes Go.ChangeAt Go.RowKit Go.Shelf
open Fxm
set_option linter.unusedSimpArgs false
set_option linter.unusedVariables false
attribute [local go_sem] Oper.semAt_some

def Sp.vs : Sp → List (Int × Int)
  | .c _ => []
  | .p _ _ vs => vs
theorem Sp.vs_len (s : Sp) : s.n = s.vs.length := by cases s <;> rfl
/-- The blocks of S hold the vertices. -/
def Sp.on (S : Nat → Prop) : Sp → Prop
  | .c _ => True
  | .p g _ _ => S g
/-- The outward normal of edge i, of any length. -/
def edgeD (vs : List (Int × Int)) (i : Nat) : Int × Int := ((at' vs ((i + 1) % vs.length)).2 - (at' vs i).2, (at' vs i).1 - (at' vs ((i + 1) % vs.length)).1)
def lastD : Sp → Sp → Int × Int → Int × Int → Int × Int
  | .c _, .c _, p, q => (q.1 - p.1, q.2 - p.2)
  | .c _, .p _ _ vs, p, q => corner vs q p
  | .p _ _ vs, .c _, p, q => corner vs p q
  | .p _ _ _, .p _ _ _, _, _ => (0, 0)
/-- How many directions there are; which. -/
def ndir (s t : Sp) : Nat := s.n + t.n + (if s.n = 0 ∨ t.n = 0 then 1 else 0)
def dirV (s t : Sp) (p q : Int × Int) (k : Nat) : Int × Int := if k < s.n then edgeD s.vs k else if k < s.n + t.n then edgeD t.vs (k - s.n) else lastD s t p q

theorem Row.keep {w w' : World} {S : Nat → Prop} {g cap : Nat} {vs : List (Int × Int)} (h : Row w g cap vs) (hk : KeepOn S w w') (hg : S g) : Row w' g cap vs :=
  ⟨h.le, h.max, fun i u hu => hk.cell (h.cells i u hu) hg⟩
theorem Sh.keep {w w' : World} {S : Nat → Prop} {s : Sp} (h : Sh w s) (hk : KeepOn S w w') (hg : s.on S) : Sh w' s := by
  cases s with
  | c r => exact h
  | p g cap vs => exact ⟨h.1.keep hk hg, h.2⟩

/-- The slice x of n vertices, as one of a shape: none, or a row. -/
structure PolyOf (S : Nat → Prop) (w : World) (a : Option Addr) (n cap : Nat) (vs : List (Int × Int)) : Prop where
  len : n = vs.length
  few : n ≤ 6
  row : n = 0 ∨ ∃ g, a = some ⟨g, 0, none⟩ ∧ S g ∧ Row w g cap vs ∧ Small vs
theorem Sh.poly {w : World} {S : Nat → Prop} {s : Sp} (h : Sh w s) (hS : s.on S) : PolyOf S w s.a s.n s.cap s.vs := by
  cases s with
  | c r => exact ⟨rfl, Nat.zero_le _, .inl rfl⟩
  | p g cap vs => exact ⟨rfl, h.2.hi, .inr ⟨g, rfl, hS, h.1, h.2.small⟩⟩
theorem PolyOf.keep {w w' : World} {S : Nat → Prop} {a : Option Addr} {n cap : Nat} {vs : List (Int × Int)} (h : PolyOf S w a n cap vs) (hk : KeepOn S w w') : PolyOf S w' a n cap vs :=
  ⟨h.len, h.few, h.row.imp_right fun ⟨g, h1, h2, h3, h4⟩ => ⟨g, h1, h2, h3.keep hk h2, h4⟩⟩

theorem Sp.on.mono {S T : Nat → Prop} {s : Sp} (h : s.on S) (hs : ∀ r, S r → T r) : s.on T := by
  cases s with
  | c r => trivial
  | p g cap vs => exact hs _ h
theorem Sh.toward {w : World} {s : Sp} (h : Sh w s) (hn : s.n ≠ 0) (c0 c1 q0 q1 : Int) (ec0 : Be c0) (ec1 : Be c1) (eq0 : Be q0) (eq1 : Be q1) :
    Calls Try.prog 84 #[.agg #[.int .i64 c0, .int .i64 c1], .slice s.a s.n s.cap, .agg #[.int .i64 q0, .int .i64 q1]] w fun e w' =>
      e = .returned (.agg #[.int .i64 (corner s.vs (q0, q1) (c0, c1)).1, .int .i64 (corner s.vs (q0, q1) (c0, c1)).2]) ∧ Below w.heap.size w w' := by
  cases s with
  | c r => exact absurd rfl hn
  | p g cap vs => exact toward_any c0 c1 q0 q1 g cap vs w h.1 h.2 ec0 ec1 eq0 eq1
theorem Sh.none {w : World} {s : Sp} (h : Sh w s) (hn : s.n = 0) : ∃ r, s = .c r := by
  cases s with
  | c r => exact ⟨r, rfl⟩
  | p g cap vs => exact absurd h.2.lo (by have : vs.length = 0 := hn; omega)
theorem lastD_cc {s t : Sp} {w : World} (hs : Sh w s) (ht : Sh w t) (h : s.n = 0) (k : t.n = 0) (p q : Int × Int) : lastD s t p q = (q.1 - p.1, q.2 - p.2) := by
  obtain ⟨r, rfl⟩ := hs.none h
  obtain ⟨r', rfl⟩ := ht.none k
  rfl
theorem lastD_cp {s t : Sp} {w : World} (hs : Sh w s) (h : s.n = 0) (k : t.n ≠ 0) (p q : Int × Int) : lastD s t p q = corner t.vs q p := by
  obtain ⟨r, rfl⟩ := hs.none h
  cases t with
  | c r => exact absurd rfl k
  | p g cap vs => rfl
theorem lastD_pc {s t : Sp} {w : World} (ht : Sh w t) (h : s.n ≠ 0) (k : t.n = 0) (p q : Int × Int) : lastD s t p q = corner s.vs p q := by
  obtain ⟨r, rfl⟩ := ht.none k
  cases s with
  | c r => exact absurd rfl h
  | p g cap vs => rfl

set_option maxHeartbeats 4000000 in
set_option maxRecDepth 100000 in
theorem dirs_gives (s t : Sp) (p0 p1 q0 q1 : Int) (A B Q P : Nat) (S : Nat → Prop) (w : World) (hs : Sh w s) (ht : Sh w t) (hsS : s.on S) (htS : t.on S) (sA : S A) (sB : S B) (sQ : S Q) (sP : S P)
    (cA0 : w.cell? ⟨A, 0, none⟩ = some (.int .i64 s.r)) (cA1 : w.cell? ⟨A, 1, none⟩ = some (.slice s.a s.n s.cap)) (cB0 : w.cell? ⟨B, 0, none⟩ = some (.int .i64 t.r)) (cB1 : w.cell? ⟨B, 1, none⟩ = some (.slice t.a t.n t.cap))
    (cQ0 : w.cell? ⟨Q, 0, none⟩ = some (.int .i64 q0)) (cQ1 : w.cell? ⟨Q, 1, none⟩ = some (.int .i64 q1)) (cP0 : w.cell? ⟨P, 0, none⟩ = some (.int .i64 p0)) (cP1 : w.cell? ⟨P, 1, none⟩ = some (.int .i64 p1))
    (hp0 : Be p0) (hp1 : Be p1) (hq0 : Be q0) (hq1 : Be q1) :
    Gives Try.prog 82 #[.pointer (some ⟨A, 0, none⟩), .pointer (some ⟨B, 0, none⟩), .pointer (some ⟨Q, 0, none⟩), .pointer (some ⟨P, 0, none⟩)]
      (fun k => #[.agg #[.int .i64 (dirV s t (p0, p1) (q0, q1) k).1, .int .i64 (dirV s t (p0, p1) (q0, q1) k).2]]) (ndir s t) 1 S w := by
  intro l J Jx W hW hJ hJx hY h0
  have hsW := hs.carry hW
  have htW := ht.carry hW
  replace cA0 := carry (hW) cA0
  replace cA1 := carry (hW) cA1
  replace cB0 := carry (hW) cB0
  replace cB1 := carry (hW) cB1
  replace cQ0 := carry (hW) cQ0
  replace cQ1 := carry (hW) cQ1
  replace cP0 := carry (hW) cP0
  replace cP1 := carry (hW) cP1
  clear hs ht hW
  have hPs := hsW.poly hsS
  have hPt := htW.poly htS
  have hsv := s.vs_len
  have htv := t.vs_len
  have d1 : ∀ k, k < s.n → dirV s t (p0, p1) (q0, q1) k = edgeD s.vs k := fun k h => by unfold dirV; rw [if_pos h]
  have d2 : ∀ k, k < t.n → dirV s t (p0, p1) (q0, q1) (s.n + k) = edgeD t.vs k := fun k h => by
    unfold dirV; rw [if_neg (by omega), if_pos (by omega), show s.n + k - s.n = k by omega]
  have hN : ndir s t = s.n + t.n + (if s.n = 0 ∨ t.n = 0 then 1 else 0) := rfl
  have d3 := Lib.hid (show dirV s t (p0, p1) (q0, q1) (s.n + t.n) = lastD s t (p0, p1) (q0, q1) from by unfold dirV; rw [if_neg (by omega), if_neg (by omega)])
  generalize ndir s t = N at *
  generalize dirV s t (p0, p1) (q0, q1) = D at *
  obtain ⟨off, hoff⟩ : ∃ off : Nat → Nat, off = fun i => if i = 0 then 0 else if i = 1 then s.n else s.n + t.n := ⟨_, rfl⟩
  have o0 : off 0 = 0 := by rw [hoff]; rfl
  have o2 : off 2 = s.n + t.n := by rw [hoff]; rfl
  obtain ⟨W0, hW0⟩ : ∃ W0, W0 = W.alloc (.cells #[.slice s.a s.n s.cap, .slice t.a t.n t.cap] 23) := ⟨_, rfl⟩
  have hb0 : Below W.heap.size W W0 := by rw [hW0]; exact alloc_below _ _
  have hz0 : W0.heap.size = W.heap.size + 1 := by rw [hW0]; simp
  obtain ⟨T, hT⟩ : ∃ T : Nat → Prop, T = fun r => S r ∨ (W.heap.size ≤ r ∧ r < W.heap.size + 1) := ⟨_, rfl⟩
  have hST : ∀ r, S r → T r := fun r h => by rw [hT]; exact .inl h
  have hTW : T W.heap.size := by rw [hT]; exact .inr ⟨Nat.le_refl _, Nat.lt_succ_self _⟩
  have pk : ∀ i, i < 2 → ∃ xa xn xc xvs, W0.cell? ⟨W.heap.size, i, none⟩ = some (.slice xa xn xc) ∧ PolyOf S W0 xa xn xc xvs ∧ (∀ k, k < xn → D (off i + k) = edgeD xvs k) ∧ off (i + 1) = off i + xn ∧ off i + xn ≤ s.n + t.n := fun i hi => by
    rcases (by omega : i = 0 ∨ i = 1) with rfl | rfl
    · refine ⟨s.a, s.n, s.cap, s.vs, by rw [hW0]; simp [go_sem], hPs.keep (KeepOn.below hb0), fun k hk => ?_, ?_, ?_⟩
      · rw [o0, Nat.zero_add]; exact d1 k hk
      · rw [o0, hoff]; simp
      · rw [o0]; omega
    · refine ⟨t.a, t.n, t.cap, t.vs, by rw [hW0]; simp [go_sem], hPt.keep (KeepOn.below hb0), fun k hk => ?_, ?_, ?_⟩
      · have : off 1 = s.n := by rw [hoff]; rfl
        rw [this]; exact d2 k hk
      · rw [hoff]; rfl
      · have : off 1 = s.n := by rw [hoff]; rfl
        omega
  have hj0 : J (off 0) W0 := by rw [o0]; exact hJ.below h0 hb0
  have hY' : ∀ (k : Nat) (W1 : World), k < N → KeepOn T W0 W1 → J k W1 → YieldAt Fence.wide 7 Try.prog l #[.agg #[.int .i64 (D k).1, .int .i64 (D k).2]] W1 fun e W' => KeepOn T W1 W' ∧ ((e = .returned (.bool true) ∧ J (k + 1) W') ∨ (e = .returned (.bool false) ∧ Jx k W')) :=
    fun k W1 hk hkp hj => by rw [hT]; exact hY k W1 hk (by have := hkp.size; omega) hj
  have hF := Lib.hid (And.intro pk (And.intro hY' (And.intro hST (And.intro hTW (And.intro hN (And.intro o0 o2))))))
  have hJ' := Lib.hid hJ
  have hj0' := Lib.hid hj0
  have kc := Lib.hid (And.intro (And.intro hsW htW) (And.intro hPs hPt))
  clear pk hY hY' hST hTW hJ hj0 h0 hPs hPt d1 d2 hN o0 o2 hoff hsv htv hT hsW htW
  refine (callsIn_wide (n := 8)).1 (callsIn_of_wp Try.func82 rfl trivial ?_ rfl)
  simp only [Try.ntmps82, List.size_toArray, List.length_cons, List.length_nil, Nat.reduceAdd, Nat.reduceSub, Array.replicate_succ, Array.replicate_zero, List.push_toArray, List.append_toArray, List.nil_append, List.cons_append]
  gi_wp2
  rw [← hW0]
  have e0 := Lib.hid (And.intro hb0 (And.intro hz0 hW0))
  clear hb0 hz0 hW0
  gi_loopw [17] (fun i wr => ∃ c : Nat, c ≤ 2 ∧ i = .int .i64 c ∧ J (off c) wr ∧ KeepOn T W0 wr) (fun i _ => 2 - (intOf i).toNat)
  case atStart => exact ⟨0, by omega, rfl, hj0'.out, KeepOn.refl _ _⟩
  case round =>
    obtain ⟨c, hc, rfl, hJc, hkc⟩ := hrel
    have hJc' := Lib.hid hJc
    have hkc' := Lib.hid hkc
    clear hJc hkc
    by_cases hlt : c < 2
    · obtain ⟨xa, xn, xc, xvs, hcell, hP, hD, ho, hle⟩ := hF.out.1 c hlt
      have hcw := hkc'.out.cell hcell hF.out.2.2.2.1
      have hlti : (c : Int) < 2 := by omega
      have hxn := hP.few
      have hG := Lib.hid (And.intro hP (And.intro hD (And.intro ho (And.intro hle hcell))))
      clear hcell hP hD ho hle
      gi_wp2
      gi_loopw [23] (fun i wx => ∃ k : Nat, k ≤ xn ∧ i = .int .i64 k ∧ J (off c + k) wx ∧ KeepOn T W0 wx) (fun i _ => xn - (intOf i).toNat)
      case atStart => exact ⟨0, by omega, rfl, hJc'.out, hkc'.out⟩
      case round =>
        obtain ⟨k, hk, rfl, hJk, hkk⟩ := hrel
        have hJk' := Lib.hid hJk
        have hkk' := Lib.hid hkk
        clear hJk hkk
        by_cases hkl : k < xn
        · obtain ⟨g, rfl, hg, hR, hSm⟩ := ((hG.out.1.keep (hkk'.out.mono hF.out.2.2.1)).row.resolve_left (by omega))
          have hxl := hG.out.1.len
          obtain ⟨m, hm⟩ : ∃ m, m = (k + 1) % xn := ⟨_, rfl⟩
          have hml : m < xn := by rw [hm]; exact Nat.mod_lt _ (by omega)
          obtain ⟨vx, vy⟩ := hR.at (i := k) (by omega)
          obtain ⟨ux, uy⟩ := hR.at (i := m) (by omega)
          obtain ⟨b0, b1⟩ := hSm k (by omega)
          obtain ⟨b2, b3⟩ := hSm m (by omega)
          have hDk := hG.out.2.1 k hkl
          unfold edgeD at hDk
          rw [← hxl, ← hm] at hDk
          have hmod : ((k : Int) + 1) % (xn : Int) = (m : Int) := by rw [hm]; push_cast; rfl
          obtain ⟨v0, hv0⟩ : ∃ v, v = (at' xvs k).1 := ⟨_, rfl⟩
          obtain ⟨v1, hv1⟩ : ∃ v, v = (at' xvs k).2 := ⟨_, rfl⟩
          obtain ⟨u0, hu0⟩ : ∃ v, v = (at' xvs m).1 := ⟨_, rfl⟩
          obtain ⟨u1, hu1⟩ : ∃ v, v = (at' xvs m).2 := ⟨_, rfl⟩
          rw [← hv0] at vx b0
          rw [← hv1] at vy b1
          rw [← hu0] at ux b2
          rw [← hu1] at uy b3
          rw [← hv0, ← hv1, ← hu0, ← hu1] at hDk
          have hcap := hR.le
          have hmax := hR.max
          unfold maxLen at hmax
          rw [← hxl] at hcap
          clear hv0 hv1 hu0 hu1 hSm hR hm
          have hle := hG.out.2.2.2.1
          have hNl : off c + k < N := by have := hF.out.2.2.2.2.1; omega
          have hab := below_step (alloc_below wr (.cells #[.int .i64 v0, .int .i64 v1] 28)) (alloc_below _ (.cells #[.int .i64 u0, .int .i64 u1] 28))
          obtain ⟨fn, tmps, assign, body, hy, hR⟩ := hF.out.2.1 (off c + k) ((wr.alloc (.cells #[.int .i64 v0, .int .i64 v1] 28)).alloc (.cells #[.int .i64 u0, .int .i64 u1] 28)) hNl (hkk'.out.trans (KeepOn.below hab)) (hJ'.out.below hJk'.out hab)
          rw [hDk] at hy
          simp only at hy
          have hDk' := Lib.hid hDk
          have hab' := Lib.hid hab
          have hx' := Lib.hid (And.intro hxl (And.intro hle hNl))
          clear hDk hab hle hNl hxl
          have lg := block_lt_of_cell vx
          simp only at lg
          have hkli : (k : Int) < (xn : Int) := by omega
          have hmli : (m : Int) < (xn : Int) := by omega
          gi_wp2
          refine hR.mono ?_
          rintro e W3 ⟨hk3, ⟨rfl, hJ3⟩ | ⟨rfl, hJx3⟩⟩
          · gi_wp2
            go_roundw
            case rel => exact ⟨k + 1, by omega, by go_num, by rw [← Nat.add_assoc]; exact hJ3, (hkk'.out.trans (KeepOn.below hab'.out)).trans hk3⟩
            case measure => simp [intOf]; omega
          · gi_wp2
            refine bodyPost_ret (results_none rfl _ _ _) rfl ?_
            exact ⟨⟨_, rfl⟩, .inr ⟨_, hx'.out.2.2, hJx3⟩⟩
        · obtain rfl : k = xn := by omega
          have hni : ¬ ((k : Int) < (k : Int)) := by omega
          gi_wp2
          go_roundw
          case rel => exact ⟨c + 1, by omega, by go_num, by rw [hG.out.2.2.1]; exact hJk'.out, hkk'.out⟩
          case measure => simp [intOf]; omega
    · obtain rfl : c = 2 := by omega
      have hsT := hsS.mono hF.out.2.2.1
      have htT := htS.mono hF.out.2.2.1
      have hsr := Lib.hid ((kc.out.1.1.carry e0.out.1).keep hkc'.out hsT)
      have htr := Lib.hid ((kc.out.1.2.carry e0.out.1).keep hkc'.out htT)
      replace cA0 := hkc'.out.cell (carry e0.out.1 cA0) (hF.out.2.2.1 _ sA)
      replace cA1 := hkc'.out.cell (carry e0.out.1 cA1) (hF.out.2.2.1 _ sA)
      replace cB0 := hkc'.out.cell (carry e0.out.1 cB0) (hF.out.2.2.1 _ sB)
      replace cB1 := hkc'.out.cell (carry e0.out.1 cB1) (hF.out.2.2.1 _ sB)
      replace cQ0 := hkc'.out.cell (carry e0.out.1 cQ0) (hF.out.2.2.1 _ sQ)
      replace cQ1 := hkc'.out.cell (carry e0.out.1 cQ1) (hF.out.2.2.1 _ sQ)
      replace cP0 := hkc'.out.cell (carry e0.out.1 cP0) (hF.out.2.2.1 _ sP)
      replace cP1 := hkc'.out.cell (carry e0.out.1 cP1) (hF.out.2.2.1 _ sP)
      have K1 := fun w => colCircle_any s.r s.a s.n s.cap w
      have K2 := fun w => colCircle_any t.r t.a t.n t.cap w
      have K3 := fun (h : t.n ≠ 0) w (hw : Sh w t) => hw.toward h p0 p1 q0 q1 hp0 hp1 hq0 hq1
      have K4 := fun (h : s.n ≠ 0) w (hw : Sh w s) => hw.toward h q0 q1 p0 p1 hq0 hq1 hp0 hp1
      have K5 := fun w => sub_any q0 q1 p0 p1 w hq0.bd hq1.bd hp0.bd hp1.bd
      have hJ2 := hJc'.out
      rw [hF.out.2.2.2.2.2.2] at hJ2
      have hJ2' := Lib.hid hJ2
      have hL1 := Lib.hid fun h k => lastD_cc hsr.out htr.out h k (p0, p1) (q0, q1)
      have hL2 := Lib.hid fun h (k : t.n ≠ 0) => lastD_cp hsr.out h k (p0, p1) (q0, q1)
      have hL3 := Lib.hid fun (h : s.n ≠ 0) k => lastD_pc htr.out h k (p0, p1) (q0, q1)
      have hN' := hF.out.2.2.2.2.1
      clear hJ2
      have hd3 := d3.out
      clear hsT htT
      generalize corner t.vs (q0, q1) (p0, p1) = CT at *
      generalize corner s.vs (p0, p1) (q0, q1) = CS at *
      generalize hsub0 : q0 - p0 = z0 at *
      generalize hsub1 : q1 - p1 = z1 at *
      by_cases hsn : s.n = 0 <;> by_cases htn : t.n = 0
      · rw [decide_eq_true hsn] at K1
        rw [decide_eq_true htn] at K2
        rw [hL1.out hsn htn] at hd3
        rw [if_pos (Or.inl hsn)] at hN'
        have hNl := Lib.hid (show s.n + t.n < N from by omega)
        have hk := Lib.hid (And.intro K1 (And.intro K2 K5))
        have hd3' := Lib.hid hd3
        have hx := Lib.hid hN'
        clear K1 K2 K3 K4 K5 hd3 hN' hsn htn hsub0 hsub1 hL1 hL2 hL3
        gi_wp2_with fail
        refine ⟨trivial, ?_⟩
        gi_at_call 83
        refine (callsIn_wide.2 (hk.out.1 _)).mono ?_
        rintro e V ⟨rfl, hb1⟩
        replace cA0 := carry (hb1) cA0
        replace cA1 := carry (hb1) cA1
        replace cB0 := carry (hb1) cB0
        replace cB1 := carry (hb1) cB1
        replace cQ0 := carry (hb1) cQ0
        replace cQ1 := carry (hb1) cQ1
        replace cP0 := carry (hb1) cP0
        replace cP1 := carry (hb1) cP1
        replace hsr := Lib.hid (hsr.out.carry hb1)
        replace htr := Lib.hid (htr.out.carry hb1)
        replace hJ2' := Lib.hid (hJ'.out.below hJ2'.out hb1)
        replace hkc' := Lib.hid (hkc'.out.trans (KeepOn.below hb1))
        clear hb1
        gi_wp2_with fail
        refine ⟨trivial, ?_⟩
        gi_at_call 83
        refine (callsIn_wide.2 (hk.out.2.1 _)).mono ?_
        rintro e V ⟨rfl, hb1⟩
        replace cA0 := carry (hb1) cA0
        replace cA1 := carry (hb1) cA1
        replace cB0 := carry (hb1) cB0
        replace cB1 := carry (hb1) cB1
        replace cQ0 := carry (hb1) cQ0
        replace cQ1 := carry (hb1) cQ1
        replace cP0 := carry (hb1) cP0
        replace cP1 := carry (hb1) cP1
        replace hsr := Lib.hid (hsr.out.carry hb1)
        replace htr := Lib.hid (htr.out.carry hb1)
        replace hJ2' := Lib.hid (hJ'.out.below hJ2'.out hb1)
        replace hkc' := Lib.hid (hkc'.out.trans (KeepOn.below hb1))
        clear hb1
        gi_wp2_with fail
        refine ⟨trivial, ?_⟩
        gi_at_call 48
        refine (callsIn_wide.2 (hk.out.2.2 _)).mono ?_
        rintro e V ⟨rfl, hb1⟩
        replace cA0 := carry (hb1) cA0
        replace cA1 := carry (hb1) cA1
        replace cB0 := carry (hb1) cB0
        replace cB1 := carry (hb1) cB1
        replace cQ0 := carry (hb1) cQ0
        replace cQ1 := carry (hb1) cQ1
        replace cP0 := carry (hb1) cP0
        replace cP1 := carry (hb1) cP1
        replace hsr := Lib.hid (hsr.out.carry hb1)
        replace htr := Lib.hid (htr.out.carry hb1)
        replace hJ2' := Lib.hid (hJ'.out.below hJ2'.out hb1)
        replace hkc' := Lib.hid (hkc'.out.trans (KeepOn.below hb1))
        clear hb1
        obtain ⟨fn, tmps, assign, body, hy, hR⟩ := hF.out.2.1 (s.n + t.n) V hNl.out hkc'.out hJ2'.out
        rw [hd3'.out] at hy
        try simp only at hy
        gi_wp2
        refine hR.mono ?_
        rintro e W3 ⟨hk3, ⟨rfl, hJ3⟩ | ⟨rfl, hJx3⟩⟩
        · gi_wp2
          go_end0
          exact ⟨⟨_, rfl⟩, .inl (by rw [hx.out]; exact hJ3)⟩
        · gi_wp2
          go_end0
          exact ⟨⟨_, rfl⟩, .inr ⟨_, hNl.out, hJx3⟩⟩
      · rw [decide_eq_true hsn] at K1
        rw [decide_eq_false htn] at K2
        rw [hL2.out hsn htn] at hd3
        rw [if_pos (Or.inl hsn)] at hN'
        have hNl := Lib.hid (show s.n + t.n < N from by omega)
        have hk := Lib.hid (And.intro K1 (And.intro K2 (K3 htn)))
        have hd3' := Lib.hid hd3
        have hx := Lib.hid hN'
        clear K1 K2 K3 K4 K5 hd3 hN' hsn htn hsub0 hsub1 hL1 hL2 hL3
        gi_wp2_with fail
        refine ⟨trivial, ?_⟩
        gi_at_call 83
        refine (callsIn_wide.2 (hk.out.1 _)).mono ?_
        rintro e V ⟨rfl, hb1⟩
        replace cA0 := carry (hb1) cA0
        replace cA1 := carry (hb1) cA1
        replace cB0 := carry (hb1) cB0
        replace cB1 := carry (hb1) cB1
        replace cQ0 := carry (hb1) cQ0
        replace cQ1 := carry (hb1) cQ1
        replace cP0 := carry (hb1) cP0
        replace cP1 := carry (hb1) cP1
        replace hsr := Lib.hid (hsr.out.carry hb1)
        replace htr := Lib.hid (htr.out.carry hb1)
        replace hJ2' := Lib.hid (hJ'.out.below hJ2'.out hb1)
        replace hkc' := Lib.hid (hkc'.out.trans (KeepOn.below hb1))
        clear hb1
        gi_wp2_with fail
        refine ⟨trivial, ?_⟩
        gi_at_call 83
        refine (callsIn_wide.2 (hk.out.2.1 _)).mono ?_
        rintro e V ⟨rfl, hb1⟩
        replace cA0 := carry (hb1) cA0
        replace cA1 := carry (hb1) cA1
        replace cB0 := carry (hb1) cB0
        replace cB1 := carry (hb1) cB1
        replace cQ0 := carry (hb1) cQ0
        replace cQ1 := carry (hb1) cQ1
        replace cP0 := carry (hb1) cP0
        replace cP1 := carry (hb1) cP1
        replace hsr := Lib.hid (hsr.out.carry hb1)
        replace htr := Lib.hid (htr.out.carry hb1)
        replace hJ2' := Lib.hid (hJ'.out.below hJ2'.out hb1)
        replace hkc' := Lib.hid (hkc'.out.trans (KeepOn.below hb1))
        clear hb1
        gi_wp2_with fail
        refine ⟨trivial, ?_⟩
        gi_at_call 83
        refine (callsIn_wide.2 (hk.out.1 _)).mono ?_
        rintro e V ⟨rfl, hb1⟩
        replace cA0 := carry (hb1) cA0
        replace cA1 := carry (hb1) cA1
        replace cB0 := carry (hb1) cB0
        replace cB1 := carry (hb1) cB1
        replace cQ0 := carry (hb1) cQ0
        replace cQ1 := carry (hb1) cQ1
        replace cP0 := carry (hb1) cP0
        replace cP1 := carry (hb1) cP1
        replace hsr := Lib.hid (hsr.out.carry hb1)
        replace htr := Lib.hid (htr.out.carry hb1)
        replace hJ2' := Lib.hid (hJ'.out.below hJ2'.out hb1)
        replace hkc' := Lib.hid (hkc'.out.trans (KeepOn.below hb1))
        clear hb1
        gi_wp2_with fail
        refine ⟨trivial, ?_⟩
        gi_at_call 84
        refine (callsIn_wide.2 (hk.out.2.2 _ htr.out)).mono ?_
        rintro e V ⟨rfl, hb1⟩
        replace cA0 := carry (hb1) cA0
        replace cA1 := carry (hb1) cA1
        replace cB0 := carry (hb1) cB0
        replace cB1 := carry (hb1) cB1
        replace cQ0 := carry (hb1) cQ0
        replace cQ1 := carry (hb1) cQ1
        replace cP0 := carry (hb1) cP0
        replace cP1 := carry (hb1) cP1
        replace hsr := Lib.hid (hsr.out.carry hb1)
        replace htr := Lib.hid (htr.out.carry hb1)
        replace hJ2' := Lib.hid (hJ'.out.below hJ2'.out hb1)
        replace hkc' := Lib.hid (hkc'.out.trans (KeepOn.below hb1))
        clear hb1
        obtain ⟨fn, tmps, assign, body, hy, hR⟩ := hF.out.2.1 (s.n + t.n) V hNl.out hkc'.out hJ2'.out
        rw [hd3'.out] at hy
        try simp only at hy
        gi_wp2
        refine hR.mono ?_
        rintro e W3 ⟨hk3, ⟨rfl, hJ3⟩ | ⟨rfl, hJx3⟩⟩
        · gi_wp2
          go_end0
          exact ⟨⟨_, rfl⟩, .inl (by rw [hx.out]; exact hJ3)⟩
        · gi_wp2
          go_end0
          exact ⟨⟨_, rfl⟩, .inr ⟨_, hNl.out, hJx3⟩⟩
      · rw [decide_eq_false hsn] at K1
        rw [decide_eq_true htn] at K2
        rw [hL3.out hsn htn] at hd3
        rw [if_pos (Or.inr htn)] at hN'
        have hNl := Lib.hid (show s.n + t.n < N from by omega)
        have hk := Lib.hid (And.intro K1 (And.intro K2 (K4 hsn)))
        have hd3' := Lib.hid hd3
        have hx := Lib.hid hN'
        clear K1 K2 K3 K4 K5 hd3 hN' hsn htn hsub0 hsub1 hL1 hL2 hL3
        gi_wp2_with fail
        refine ⟨trivial, ?_⟩
        gi_at_call 83
        refine (callsIn_wide.2 (hk.out.1 _)).mono ?_
        rintro e V ⟨rfl, hb1⟩
        replace cA0 := carry (hb1) cA0
        replace cA1 := carry (hb1) cA1
        replace cB0 := carry (hb1) cB0
        replace cB1 := carry (hb1) cB1
        replace cQ0 := carry (hb1) cQ0
        replace cQ1 := carry (hb1) cQ1
        replace cP0 := carry (hb1) cP0
        replace cP1 := carry (hb1) cP1
        replace hsr := Lib.hid (hsr.out.carry hb1)
        replace htr := Lib.hid (htr.out.carry hb1)
        replace hJ2' := Lib.hid (hJ'.out.below hJ2'.out hb1)
        replace hkc' := Lib.hid (hkc'.out.trans (KeepOn.below hb1))
        clear hb1
        gi_wp2_with fail
        refine ⟨trivial, ?_⟩
        gi_wp2_with fail
        refine ⟨trivial, ?_⟩
        gi_at_call 83
        refine (callsIn_wide.2 (hk.out.1 _)).mono ?_
        rintro e V ⟨rfl, hb1⟩
        replace cA0 := carry (hb1) cA0
        replace cA1 := carry (hb1) cA1
        replace cB0 := carry (hb1) cB0
        replace cB1 := carry (hb1) cB1
        replace cQ0 := carry (hb1) cQ0
        replace cQ1 := carry (hb1) cQ1
        replace cP0 := carry (hb1) cP0
        replace cP1 := carry (hb1) cP1
        replace hsr := Lib.hid (hsr.out.carry hb1)
        replace htr := Lib.hid (htr.out.carry hb1)
        replace hJ2' := Lib.hid (hJ'.out.below hJ2'.out hb1)
        replace hkc' := Lib.hid (hkc'.out.trans (KeepOn.below hb1))
        clear hb1
        gi_wp2_with fail
        refine ⟨trivial, ?_⟩
        gi_at_call 83
        refine (callsIn_wide.2 (hk.out.2.1 _)).mono ?_
        rintro e V ⟨rfl, hb1⟩
        replace cA0 := carry (hb1) cA0
        replace cA1 := carry (hb1) cA1
        replace cB0 := carry (hb1) cB0
        replace cB1 := carry (hb1) cB1
        replace cQ0 := carry (hb1) cQ0
        replace cQ1 := carry (hb1) cQ1
        replace cP0 := carry (hb1) cP0
        replace cP1 := carry (hb1) cP1
        replace hsr := Lib.hid (hsr.out.carry hb1)
        replace htr := Lib.hid (htr.out.carry hb1)
        replace hJ2' := Lib.hid (hJ'.out.below hJ2'.out hb1)
        replace hkc' := Lib.hid (hkc'.out.trans (KeepOn.below hb1))
        clear hb1
        gi_wp2_with fail
        refine ⟨trivial, ?_⟩
        gi_at_call 84
        refine (callsIn_wide.2 (hk.out.2.2 _ hsr.out)).mono ?_
        rintro e V ⟨rfl, hb1⟩
        replace cA0 := carry (hb1) cA0
        replace cA1 := carry (hb1) cA1
        replace cB0 := carry (hb1) cB0
        replace cB1 := carry (hb1) cB1
        replace cQ0 := carry (hb1) cQ0
        replace cQ1 := carry (hb1) cQ1
        replace cP0 := carry (hb1) cP0
        replace cP1 := carry (hb1) cP1
        replace hsr := Lib.hid (hsr.out.carry hb1)
        replace htr := Lib.hid (htr.out.carry hb1)
        replace hJ2' := Lib.hid (hJ'.out.below hJ2'.out hb1)
        replace hkc' := Lib.hid (hkc'.out.trans (KeepOn.below hb1))
        clear hb1
        obtain ⟨fn, tmps, assign, body, hy, hR⟩ := hF.out.2.1 (s.n + t.n) V hNl.out hkc'.out hJ2'.out
        rw [hd3'.out] at hy
        try simp only at hy
        gi_wp2
        refine hR.mono ?_
        rintro e W3 ⟨hk3, ⟨rfl, hJ3⟩ | ⟨rfl, hJx3⟩⟩
        · gi_wp2
          go_end0
          exact ⟨⟨_, rfl⟩, .inl (by rw [hx.out]; exact hJ3)⟩
        · gi_wp2
          go_end0
          exact ⟨⟨_, rfl⟩, .inr ⟨_, hNl.out, hJx3⟩⟩
      · rw [decide_eq_false hsn] at K1
        rw [decide_eq_false htn] at K2
        rw [if_neg (by omega)] at hN'
        have hk := Lib.hid (And.intro K1 (And.intro K2 K5))
        have hd3' := Lib.hid hd3
        have hx := Lib.hid hN'
        clear K1 K2 K3 K4 K5 hd3 hN' hsn htn hsub0 hsub1 hL1 hL2 hL3
        gi_wp2_with fail
        refine ⟨trivial, ?_⟩
        gi_at_call 83
        refine (callsIn_wide.2 (hk.out.1 _)).mono ?_
        rintro e V ⟨rfl, hb1⟩
        replace cA0 := carry (hb1) cA0
        replace cA1 := carry (hb1) cA1
        replace cB0 := carry (hb1) cB0
        replace cB1 := carry (hb1) cB1
        replace cQ0 := carry (hb1) cQ0
        replace cQ1 := carry (hb1) cQ1
        replace cP0 := carry (hb1) cP0
        replace cP1 := carry (hb1) cP1
        replace hsr := Lib.hid (hsr.out.carry hb1)
        replace htr := Lib.hid (htr.out.carry hb1)
        replace hJ2' := Lib.hid (hJ'.out.below hJ2'.out hb1)
        replace hkc' := Lib.hid (hkc'.out.trans (KeepOn.below hb1))
        clear hb1
        gi_wp2_with fail
        refine ⟨trivial, ?_⟩
        gi_wp2_with fail
        refine ⟨trivial, ?_⟩
        gi_at_call 83
        refine (callsIn_wide.2 (hk.out.1 _)).mono ?_
        rintro e V ⟨rfl, hb1⟩
        replace cA0 := carry (hb1) cA0
        replace cA1 := carry (hb1) cA1
        replace cB0 := carry (hb1) cB0
        replace cB1 := carry (hb1) cB1
        replace cQ0 := carry (hb1) cQ0
        replace cQ1 := carry (hb1) cQ1
        replace cP0 := carry (hb1) cP0
        replace cP1 := carry (hb1) cP1
        replace hsr := Lib.hid (hsr.out.carry hb1)
        replace htr := Lib.hid (htr.out.carry hb1)
        replace hJ2' := Lib.hid (hJ'.out.below hJ2'.out hb1)
        replace hkc' := Lib.hid (hkc'.out.trans (KeepOn.below hb1))
        clear hb1
        gi_wp2_with fail
        refine ⟨trivial, ?_⟩
        gi_at_call 83
        refine (callsIn_wide.2 (hk.out.2.1 _)).mono ?_
        rintro e V ⟨rfl, hb1⟩
        replace cA0 := carry (hb1) cA0
        replace cA1 := carry (hb1) cA1
        replace cB0 := carry (hb1) cB0
        replace cB1 := carry (hb1) cB1
        replace cQ0 := carry (hb1) cQ0
        replace cQ1 := carry (hb1) cQ1
        replace cP0 := carry (hb1) cP0
        replace cP1 := carry (hb1) cP1
        replace hsr := Lib.hid (hsr.out.carry hb1)
        replace htr := Lib.hid (htr.out.carry hb1)
        replace hJ2' := Lib.hid (hJ'.out.below hJ2'.out hb1)
        replace hkc' := Lib.hid (hkc'.out.trans (KeepOn.below hb1))
        clear hb1
        gi_wp2
        go_end0
        exact ⟨⟨_, rfl⟩, .inl (by rw [hx.out, Nat.add_zero]; exact hJ2'.out)⟩
end Go.Proofs.Ytfbgghkkgmgnjaa
