/- The reference of merkle: Bent. -/
import Derived.Test.YthpdohfekillkaaMkD
import Derived.Test.YthpdohfekillkaaFixed
import Derived.Test.YthpdohfekillkaaHaM
namespace Go.Proofs.Ythpdohfekillkaa
open Go.ChangeShapes Go.WideShapes Go.ChangeAt Go.RowKit Go.Shelf
set_option linter.unusedSimpArgs false
set_option linter.unusedVariables false

theorem grown_self (w : World) (row : Option Nat) : w.grownBy w row := ⟨rfl, rfl, rfl, Nat.le_refl _, fun _ _ _ => rfl⟩
/-- append of a slice that may be nil (and is empty then) onto a row of the call's own. -/
theorem wpList_append_nilable {P : Program} {w : World} {ops : Array Oper} {rest : List Oper} {o : Oper} {a : Act} {Q : Exit → Act → World → Prop} (hgd : o.guard = none) (s x : Operand) (t : TypeId)
    (ho : o.op = .call { callee := .builtin .append, args := #[s, x], argTypes := #[t, t] })
    (base : Nat) (e : TypeId) (i : TypeInfo) (z : Value) (size bytes : Nat) (ht : P.underlying t = some (.slice e)) (hi : P.info? e = some i) (hz : i.zero = some z)
    (hsize : i.size = size) (hby : i.bytes = bytes) (hzs : z.cells.size = size) (hsz : 0 < size)
    (v : Value) (n : Nat) (xs : List Value) (hs : a.eval s = v) (hown : w.ownsRow base e size v n xs)
    (ax : Option Addr) (m c : Nat) (news : List Value) (hx : a.eval x = .slice ax m c) (hl : news.length = m * size) (h0 : ax = none → m = 0 ∧ c = 0) (hnews : ∀ ad, ax = some ad → ∀ j u, news[j]? = some u → w.cell? (ad.add j) = some u) (h1 : ∀ u ∈ news, u.oneCell' = true)
    (h63 : n + m ≤ maxLen) (hbytes : (n + m) * bytes ≤ 140737488355328) (hbase : base ≤ w.heap.size)
    (h : ∀ v' w', w'.ownsRow base e size v' (n + m) (xs ++ news) → w.grownBy w' v.ownBlock → wpList P ops Q rest (a.put o.dst v') w') : wpList P ops Q (o :: rest) a w := by
  cases ax with
  | none =>
    obtain ⟨rfl, rfl⟩ := h0 rfl
    have hn : news = [] := List.length_eq_zero_iff.1 (by rw [hl, Nat.zero_mul])
    subst hn
    refine wpList_append_own_none hgd s x t ho base e i size ht hi v n xs hs hown hx (h v w ?_ (grown_self _ _))
    rw [List.append_nil]; exact hown
  | some ad => exact wpList_append_own w hgd s x t ho base e i z size bytes ht hi hz hsize hby hzs hsz v n xs hs hown ad m c news hx hl (hnews ad rfl) h1 h63 hbytes hbase (fun v' w' h2 h3 _ => h v' w' h2 h3)

theorem own_slice {w : World} {B : Nat} {e : TypeId} {sz : Nat} {v : Value} {n : Nat} {xs : List Value} (h : w.ownsRow B e sz v n xs) : ∃ a c, v = .slice a n c := by
  rcases h.2 with ⟨rfl, h2⟩ | ⟨g, cap, cur, rfl, _⟩
  · exact ⟨_, _, by rw [h2]⟩
  · exact ⟨_, _, rfl⟩
/-- A row of the call's own, one cell of it set. -/
theorem own_set {w : World} {B g n c : Nat} {e : TypeId} {xs : List Value} (h : w.ownsRow B e 1 (.slice (some ⟨g, 0, none⟩) n c) n xs) {m : Nat} (hm : m < n) (u : Value) : (w.setCell ⟨g, m, none⟩ u).ownsRow B e 1 (.slice (some ⟨g, 0, none⟩) n c) n (xs.set m u) := by
  obtain ⟨h1, h2⟩ := h
  rcases h2 with ⟨e2, _⟩ | ⟨g', cap, cur, e2, h4, h5, h6, h7, h8, h9⟩
  · cases e2
  · cases e2
    refine ⟨by rw [List.length_set]; exact h1, .inr ⟨g, c, cur.setIfInBounds m u, rfl, h4, heap_setCell_same w g m cur e u h5, h6, h7, by rw [Array.size_setIfInBounds]; exact h8, ?_⟩⟩
    rw [Array.toList_setIfInBounds, List.take_set, h9]
theorem u64_add' (x : W64) (d : Int) : IntKind.u64.wrap ((x.toNat : Int) + d) = ((x + BitVec.ofInt 64 d).toNat : Int) := by
  rw [u64_wrap, BitVec.toNat_ofInt, BitVec.toNat_add, BitVec.toNat_ofInt]
  have h := x.isLt
  omega
theorem u64s_set (l : List W64) (i : Nat) (x : W64) : (u64s l).set i (.int .u64 (x.toNat : Int)) = u64s (l.set i x) := by unfold u64s; rw [List.map_set]
/-- What the store leaves. -/
theorem bent_store {w V U : World} {i v : Int} {n gb c' m : Nat} {l : List W64} (p : W64) (hV : V.heap.size = w.heap.size + 2) (hgb : V.heap.size ≤ gb) (hm : m < n) (hA : LfB U w.heap.size i v (.slice (some ⟨gb, 0, none⟩) n c')) (hB : LfB U (w.heap.size + 1) 0 0 (.slice none 0 0))
    (ho : U.ownsRow V.heap.size 27 1 (.slice (some ⟨gb, 0, none⟩) n c') n (u64s l)) (hb : Below w.heap.size w U) :
    LfB (U.setCell ⟨gb, m, none⟩ (.int .u64 (p.toNat : Int))).drew w.heap.size i v (.slice (some ⟨gb, 0, none⟩) n c') ∧ LfB (U.setCell ⟨gb, m, none⟩ (.int .u64 (p.toNat : Int))).drew (w.heap.size + 1) 0 0 (.slice none 0 0) ∧
    (U.setCell ⟨gb, m, none⟩ (.int .u64 (p.toNat : Int))).drew.ownsRow V.heap.size 27 1 (.slice (some ⟨gb, 0, none⟩) n c') n (u64s (l.set m p)) ∧ Below w.heap.size w (U.setCell ⟨gb, m, none⟩ (.int .u64 (p.toNat : Int))).drew := by
  refine ⟨hA.other (by simp only; omega) _, hB.other (by simp only; omega) _, ?_, (hb.setCell (by simp only; omega) _).drew⟩
  rw [← u64s_set]
  exact own_set ho hm _
/-- What the copy leaves. -/
theorem bent_copy {w V w1 : World} {i v : Int} {pv : Value} {n : Nat} {a' : Option Addr} {c' : Nat} {xs : List Value} (hV : Below w.heap.size w V) (hzV : V.heap.size = w.heap.size + 2) (hA : LfB V w.heap.size i v pv) (hB : LfB V (w.heap.size + 1) 0 0 (.slice none 0 0))
    (ho : w1.ownsRow V.heap.size 27 1 (.slice a' n c') n xs) (hg : (V.alloc (.cells #[] 27)).grownBy w1 (Value.slice (some ⟨V.heap.size, 0, none⟩) 0 0).ownBlock) :
    LfB w1 w.heap.size i v pv ∧ LfB (w1.setCell ⟨w.heap.size, 2, none⟩ (.slice a' n c')) w.heap.size i v (.slice a' n c') ∧ LfB (w1.setCell ⟨w.heap.size, 2, none⟩ (.slice a' n c')) (w.heap.size + 1) 0 0 (.slice none 0 0) ∧
    (w1.setCell ⟨w.heap.size, 2, none⟩ (.slice a' n c')).ownsRow V.heap.size 27 1 (.slice a' n c') n xs ∧ Below w.heap.size w (w1.setCell ⟨w.heap.size, 2, none⟩ (.slice a' n c')) := by
  have h1 := (hA.below (alloc_below V (.cells #[] 27))).grown hg (by simp [Value.ownBlock]; omega)
  have h2 := (hB.below (alloc_below V (.cells #[] 27))).grown hg (by simp [Value.ownBlock]; omega)
  have h3 := (hV.alloc hV.size (.cells #[] 27)).grown hg (by rw [World.size_alloc]; have := hV.size; omega) fun r e => by simp [Value.ownBlock] at e; omega
  exact ⟨h1, h1.set2 _, h2.other (by simp) _, own_other ho (grownBy_set w1 _ _) (fun r e => by cases e; simp only; omega), h3.setCell (Nat.le_refl _) _⟩

/-! ## Bent -/
def bk (l : List W64) (how : Int) : Nat := (arnd how (2 + (l.length : Int))).toNat
def bd (by_ : Int) : Int := 1 + arnd by_ 1000000
def bI (i : Int) (l : List W64) (how by_ : Int) : Int := if bk l how = 0 then wrap64 (i + bd by_) else i
def bV (v : Int) (l : List W64) (how by_ : Int) : Int := if bk l how = 1 then wrap64 (v + bd by_) else v
def bL (l : List W64) (how by_ : Int) : List W64 := if 2 ≤ bk l how then l.set (bk l how - 2) (l.getD (bk l how - 2) 0 + BitVec.ofInt 64 (bd by_)) else l
theorem bd_bd (by_ : Int) : 1 ≤ bd by_ ∧ bd by_ ≤ 1000000 := by
  have := arnd_bd by_ (m := 1000000) (by decide)
  unfold bd; omega
theorem bk_lt (l : List W64) (how : Int) : bk l how < 2 + l.length := by
  have := arnd_bd how (m := 2 + (l.length : Int)) (by omega)
  unfold bk; omega
theorem bk_int (l : List W64) (how : Int) : ((bk l how : Nat) : Int) = arnd how (2 + (l.length : Int)) := by
  have := arnd_bd how (m := 2 + (l.length : Int)) (by omega)
  unfold bk; omega
theorem u64_add (x : W64) (d : Int) : IntKind.u64.wrap ((x.toNat : Int) + IntKind.u64.wrap d) = ((x + BitVec.ofInt 64 d).toNat : Int) := by
  rw [u64_wrap d, BitVec.toNat_add]
  generalize (BitVec.ofInt 64 d).toNat = m
  generalize x.toNat = k
  simp only [IntKind.wrap, IntKind.bits, IntKind.signed, Bool.false_and, Bool.false_eq_true, if_false]
  omega

set_option maxRecDepth 100000 in
set_option maxHeartbeats 8000000 in
theorem refBent_any (i v : Int) (pv : Value) (l : List W64) (how by_ : Int) (w : World) (h : VL w pv (u64s l)) (hnn : ∀ n c, pv = .slice none n c → pv = .slice none 0 0) (hl : l.length ≤ 1000) (hi : I64 i) (hv : I64 v) (hh : I64 how) (hb : I64 by_) :
    Calls Try.prog 22 #[.agg #[.int .i64 i, .int .i64 v, pv], .int .i64 how, .int .i64 by_] w fun e w' => ∃ pv', e = .returned (.agg #[.int .i64 (bI i l how by_), .int .i64 (bV v l how by_), pv']) ∧
      w'.ownsRow w.heap.size 27 1 pv' l.length (u64s (bL l how by_)) ∧ Below w.heap.size w w' := by
  obtain ⟨a, cap, rfl, h1, h2, h3⟩ := h.shape
  rw [u64s_len] at h1 h3 hnn ⊢
  unfold maxLen at h2
  obtain ⟨n, hn⟩ : ∃ n, n = l.length := ⟨_, rfl⟩
  have k1 := fun W => around_any by_ 1000000 W hb.1 hb.2 (by decide)
  have k2 := fun W => around_any how (2 + (l.length : Int)) W hh.1 hh.2 (by omega)
  rw [← bk_int] at k2
  have hbk := bk_lt l how
  have hd := bd_bd by_
  have hdd := Lib.hid (show bd by_ = 1 + arnd by_ 1000000 from rfl)
  have hda : arnd by_ 1000000 = bd by_ - 1 := by unfold bd; omega
  rw [hda] at k1
  have hI := Lib.hid (And.intro (show bI i l how by_ = if bk l how = 0 then wrap64 (i + bd by_) else i from rfl) (And.intro (show bV v l how by_ = if bk l how = 1 then wrap64 (v + bd by_) else v from rfl) (show bL l how by_ = if 2 ≤ bk l how then l.set (bk l how - 2) (l.getD (bk l how - 2) 0 + BitVec.ofInt 64 (bd by_)) else l from rfl)))
  rw [← hn] at h1 h3 hnn k2 hbk hl ⊢
  have hn' := Lib.hid hn
  clear hn hda hdd
  generalize bk l how = k at *
  generalize bd by_ = d at *
  have h0 := Lib.hid (fun (e : a = none) => (by subst e; have := hnn _ _ rfl; simp only [Value.slice.injEq, true_and] at this; exact this : n = 0 ∧ cap = 0))
  have hk1 := Lib.hid k1
  have hk2 := Lib.hid k2
  have hc := Lib.hid (fun (ad : Addr) (e : a = some ad) => (fun j u hu => by
    have hj := (List.getElem?_eq_some_iff.1 hu).1
    rw [u64s_len, ← hn'.out] at hj
    obtain ⟨g, off, e', _, hcc⟩ := h3 (by omega)
    rw [e] at e'
    cases e'
    rw [add_plain]
    exact hcc j u hu : ∀ j u, (u64s l)[j]? = some u → w.cell? (ad.add j) = some u))
  clear k1 k2 h3 hnn h
  go_enter Try.func22, Try.ntmps22
  go_upto_region 1 with fail
  have hL1 := (LfB.new w i v (.slice a n cap)).below (alloc_below _ (.cells #[.int .i64 0, .int .i64 0, .slice none 0 0] 33))
  have hL2 := LfB.new (w.alloc (.cells #[.int .i64 i, .int .i64 v, .slice a n cap] 33)) 0 0 (.slice none 0 0)
  rw [World.size_alloc] at hL2
  have hBV := below_step (alloc_below w (.cells #[.int .i64 i, .int .i64 v, .slice a n cap] 33)) (alloc_below _ (.cells #[.int .i64 0, .int .i64 0, .slice none 0 0] 33))
  obtain ⟨V, hV⟩ : ∃ V, V = (w.alloc (.cells #[.int .i64 i, .int .i64 v, .slice a n cap] 33)).alloc (.cells #[.int .i64 0, .int .i64 0, .slice none 0 0] 33) := ⟨_, rfl⟩
  have hzV : V.heap.size = w.heap.size + 2 := by rw [hV]; simp
  rw [← hV] at hL1 hL2 hBV ⊢
  clear hV
  obtain ⟨i0, hi0, hz0, hz1, hz2⟩ := info_parts info_word
  have c2 := carry (alloc_below V (.cells #[] 27)) hL1.c2
  have hq := Lib.hid (And.intro hL1 (And.intro hL2 hBV))
  have hzV' := Lib.hid hzV
  clear hzV
  have hlw := Lib.hid (show (u64s l).length = n * 1 from by rw [u64s_len, ← hn'.out, Nat.mul_one])
  clear hL1 hL2
  go_upto_region 2 with (at_builtin; refine wpList_append_nilable rfl _ _ 31 rfl V.heap.size 27 i0 _ 1 8 Try.underlying31 hi0 hz0 hz1 hz2 rfl (by decide) (.slice (some ⟨V.heap.size, 0, none⟩) 0 0) 0 [] rfl (World.ownsRow_made V #[] 0 (Nat.le_refl _) (Nat.zero_le _) rfl) a n cap (u64s l) rfl hlw.out h0.out (fun ad e j u hu => carry (below_step hBV (alloc_below V _)) (hc.out ad e j u hu)) (u64s_one _) (by unfold maxLen; omega) (by omega) (size_more V _ (Nat.le_refl _)) ?_; intro v' w1 hown hgrow; rw [Nat.zero_add, List.nil_append] at hown; obtain ⟨a', c', rfl⟩ := own_slice hown; obtain ⟨r1, r2, r3, r4, r5⟩ := bent_copy hBV hzV'.out hq.out.1 hq.out.2.1 hown hgrow; have d2 := r1.c2; have df := r1.fz 2; have hR := Lib.hid (And.intro r2 (And.intro r3 (And.intro r4 r5))); clear r1 r2 r3 r4 r5 hown hgrow)
  generalize w1.setCell ⟨w.heap.size, 2, none⟩ (.slice a' n c') = U at *
  clear d2 df c2 hBV hc hlw
  have d0 := hR.out.1.c0
  have d1 := hR.out.1.c1
  have d2 := hR.out.1.c2
  have e0 := hR.out.2.1.c0
  have e1 := hR.out.2.1.c1
  have e2 := hR.out.2.1.c2
  have f0 := hR.out.1.fz 0
  have f1 := hR.out.1.fz 1
  have g0 := hR.out.2.1.fz 0
  have g1 := hR.out.2.1.fz 1
  have g2 := hR.out.2.1.fz 2
  have hd1 : 1 + (d - 1) = d := by omega
  have hdl := hd.1
  have hdh := hd.2
  by_cases hk0 : k = 0
  · have hx := Lib.hid (show bI i l how by_ = wrap64 (i + d) ∧ bV v l how by_ = v ∧ bL l how by_ = l from ⟨by rw [hI.out.1, if_pos hk0], by rw [hI.out.2.1, if_neg (by omega)], by rw [hI.out.2.2, if_neg (by omega)]⟩)
    subst hk0
    go_upto_region 5 with (first | (go_at_call 13; with_reducible refine (hk1.out _).mono ?_; rintro e y1 ⟨rfl, rfl⟩) | (go_at_call 13; with_reducible refine (hk2.out _).mono ?_; rintro e y1 ⟨rfl, rfl⟩))
    clear hI
    go_wp2
    refine bodyPost_ret (v := .agg #[.int .i64 (wrap64 (i + d)), .int .i64 v, .slice a' n c']) (by simp [results, Try.results22, go_sem, e0, e1, e2]) rfl ⟨_, by rw [hx.out.1, hx.out.2.1], ?_, ?_⟩
    · rw [hx.out.2.2]
      exact own_mono (base := V.heap.size) (by repeat (first | exact hR.out.2.2.1 | refine own_other ?_ (grownBy_set _ _ _) (fun r e => by cases e; simp only; have := hzV'.out; omega))) (by have := hzV'.out; omega)
    · repeat (first | exact hR.out.2.2.2 | refine Below.setCell ?_ (by simp only; omega) _)
  · by_cases hkk : k = 1
    · have hx := Lib.hid (show bI i l how by_ = i ∧ bV v l how by_ = wrap64 (v + d) ∧ bL l how by_ = l from ⟨by rw [hI.out.1, if_neg hk0], by rw [hI.out.2.1, if_pos hkk], by rw [hI.out.2.2, if_neg (by omega)]⟩)
      subst hkk
      clear hI
      go_wp2_with (first | (go_at_call 13; with_reducible refine (hk1.out _).mono ?_; rintro e y1 ⟨rfl, rfl⟩) | (go_at_call 13; with_reducible refine (hk2.out _).mono ?_; rintro e y1 ⟨rfl, rfl⟩))
      refine bodyPost_ret (v := .agg #[.int .i64 i, .int .i64 (wrap64 (v + d)), .slice a' n c']) (by simp [results, Try.results22, go_sem, e0, e1, e2]) rfl ⟨_, by rw [hx.out.1, hx.out.2.1], ?_, ?_⟩
      · rw [hx.out.2.2]
        exact own_mono (base := V.heap.size) (by repeat (first | exact hR.out.2.2.1 | refine own_other ?_ (grownBy_set _ _ _) (fun r e => by cases e; simp only; have := hzV'.out; omega))) (by have := hzV'.out; omega)
      · repeat (first | exact hR.out.2.2.2 | refine Below.setCell ?_ (by simp only; omega) _)
    · obtain ⟨m, rfl⟩ : ∃ m, k = m + 2 := ⟨k - 2, by omega⟩
      have hx := Lib.hid (show bI i l how by_ = i ∧ bV v l how by_ = v ∧ bL l how by_ = l.set m (l.getD m 0 + BitVec.ofInt 64 d) from ⟨by rw [hI.out.1, if_neg hk0], by rw [hI.out.2.1, if_neg hkk], by rw [hI.out.2.2, if_pos (by omega)]; rfl⟩)
      clear hk0 hkk
      obtain ⟨gb, cb, e, hgb, hgb2, hcb, hcb2, hcells, hfz⟩ := own_form hR.out.2.2.1 (show 0 < n by omega)
      simp only [Value.slice.injEq, true_and] at e
      obtain ⟨rfl, rfl⟩ := e
      obtain ⟨p, hp⟩ : ∃ p, l[m]? = some p := ⟨_, List.getElem?_eq_getElem (by rw [← hn'.out]; omega)⟩
      have hgd : l.getD m 0 = p := by simp [List.getD, hp]
      rw [hgd] at hx
      have cp := hcells.at (u64s_at hp)
      have fp := hfz m
      have hcs := Lib.hid (And.intro hcells hp)
      clear hgd hp hfz hI
      go_upto_region 8 with (first | (go_at_call 13; with_reducible refine (hk1.out _).mono ?_; rintro e y1 ⟨rfl, rfl⟩) | (go_at_call 13; with_reducible refine (hk2.out _).mono ?_; rintro e y1 ⟨rfl, rfl⟩))
      have hm1 : (m : Int) ≤ 1000 := by omega
      have hr1 : IntKind.i64.wrap ((m : Int) + 2 - 2) = (m : Int) := by rw [IntWalk.i64_left, IntWalk.wrap64_in _ (by omega)]; omega
      go_region
      rw [u64_add']
      obtain ⟨s1, s2, s3, s4⟩ := bent_store (p + BitVec.ofInt 64 d) hzV'.out hgb (show m < n by omega) hR.out.1 hR.out.2.1 hR.out.2.2.1 hR.out.2.2.2
      have hS := Lib.hid (And.intro s1 (And.intro s2 (And.intro s3 s4)))
      clear d0 d1 d2 e0 e1 e2 f0 f1 g0 g1 g2 cp fp hr1
      have d0 := s1.c0
      have d1 := s1.c1
      have d2 := s1.c2
      have e0 := s2.c0
      have e1 := s2.c1
      have e2 := s2.c2
      have g0 := s2.fz 0
      have g1 := s2.fz 1
      have g2 := s2.fz 2
      clear s1 s2 s3 s4
      generalize (U.setCell ⟨gb, m, none⟩ (.int .u64 ((p + BitVec.ofInt 64 d).toNat : Int))).drew = X at *
      go_wp2
      refine bodyPost_ret (v := .agg #[.int .i64 i, .int .i64 v, .slice (some ⟨gb, 0, none⟩) n c']) (by simp [results, Try.results22, go_sem, e0, e1, e2]) rfl ⟨_, by rw [hx.out.1, hx.out.2.1], ?_, ?_⟩
      · rw [hx.out.2.2]
        exact own_mono (base := V.heap.size) (by repeat (first | exact hS.out.2.2.1 | refine own_other ?_ (grownBy_set _ _ _) (fun r e => by cases e; simp only; have := hzV'.out; omega))) (by have := hzV'.out; omega)
      · repeat (first | exact hS.out.2.2.2 | refine Below.setCell ?_ (by simp only; omega) _)
end Go.Proofs.Ythpdohfekillkaa
