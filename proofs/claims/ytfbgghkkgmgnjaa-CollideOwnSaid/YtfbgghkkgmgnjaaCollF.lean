/- Package collide: Axes. -/
import Derived.Test.YtfbgghkkgmgnjaaCollE
namespace Go.Proofs.Ytfbgghkkgmgnjaa
open Go.ChangeShapes Go.WideShapes Go.ChangeAt Go.RowKit Go.Shelf
open Fxm
set_option linter.unusedSimpArgs false
set_option linter.unusedVariables false
attribute [local go_sem] Oper.semAt_some

def lst (ax : Nat → Int × Int) (n : Nat) : List (Int × Int) := (List.range n).map ax
theorem lst_len (ax : Nat → Int × Int) (n : Nat) : (lst ax n).length = n := by simp [lst]
theorem lst_succ (ax : Nat → Int × Int) (n : Nat) : lst ax (n + 1) = lst ax n ++ [ax n] := by simp [lst, List.range_succ]
theorem lst_at (ax : Nat → Int × Int) {n k : Nat} (h : k < n) : at' (lst ax n) k = ax k := by
  rw [at_eq (by rw [lst_len]; exact h)]
  simp [lst]
theorem flat_one (x : Int × Int) : flatV [x] = [.int .i64 x.1, .int .i64 x.2] := rfl

theorem own_other {A B : World} {base : Nat} {e : TypeId} {size : Nat} {v : Value} {k : Nat} {xs : List Value} {row : Option Nat} (h : A.ownsRow base e size v k xs) (hg : A.grownBy B row) (hr : ∀ r, row = some r → r < base) : B.ownsRow base e size v k xs := by
  refine h.kept hg ?_
  rcases h.2 with ⟨rfl, _⟩ | ⟨g, cap, cur, rfl, hgb, _⟩
  · exact .inl rfl
  · exact .inr fun e' => by have := hr g (by simpa [Value.ownBlock] using e'.symm); omega
theorem own_block {A : World} {base : Nat} {e : TypeId} {size : Nat} {v : Value} {k : Nat} {xs : List Value} (h : A.ownsRow base e size v k xs) {r : Nat} (hr : v.ownBlock = some r) : base ≤ r := by
  rcases h.2 with ⟨rfl, _⟩ | ⟨g, cap, cur, rfl, hgb, _⟩
  · simp [Value.ownBlock] at hr
  · have : g = r := by simpa [Value.ownBlock] using hr
    omega
theorem own_mono {A : World} {base base' : Nat} {e : TypeId} {size : Nat} {v : Value} {k : Nat} {xs : List Value} (h : A.ownsRow base e size v k xs) (hb : base' ≤ base) : A.ownsRow base' e size v k xs :=
  ⟨h.1, h.2.imp_right fun ⟨g, cap, cur, h1, h2, h3⟩ => ⟨g, cap, cur, h1, Nat.le_trans hb h2, h3⟩⟩
theorem cell_two_new (w : World) (x y : Value) (t : TypeId) : ∀ j u, [x, y][j]? = some u → (w.alloc (.cells #[x, y] t)).cell? ((⟨w.heap.size, 0, none⟩ : Addr).add j) = some u := by
  intro j u hj
  match j, hj with
  | 0, hj =>
    simp only [List.getElem?_cons_zero, Option.some.injEq] at hj
    subst hj
    simp [Addr.add]
  | 1, hj =>
    simp only [List.getElem?_cons_succ, List.getElem?_cons_zero, Option.some.injEq] at hj
    subst hj
    simp [Addr.add]

set_option maxHeartbeats 4000000 in
set_option maxRecDepth 100000 in
theorem appendSeq_any (ax : Nat → Int × Int) (gf : Nat) (lb : Array Value) (N c : Nat) (S : Nat → Prop) (w0 w : World) (eg : ∀ args w, (callFunc gf args).run Try.prog w = .ok (.enter gf args) w)
    (hseq : Gives Try.prog gf lb (fun k => #[.agg #[.int .i64 (ax k).1, .int .i64 (ax k).2]]) N c S w0) (hb0 : Below w0.heap.size w0 w) (hS : ∀ r, S r → r < w0.heap.size) (hN : N ≤ 1000) :
    Calls Try.prog 69 #[.slice none 0 0, .func (.func gf) #[] lb] w fun e w' =>
      ∃ v, e = .returned v ∧ w'.ownsRow w.heap.size 28 2 v N (flatV (lst ax N)) ∧ Below w.heap.size w w' := by
  obtain ⟨i0, hi0, hz0, hz1, hz2⟩ := info_parts vinfo
  refine (callsIn_wide (n := 9)).1 (callsIn_of_wp_marks Try.func69 rfl trivial (wpIn_wide.2 ?_) rfl)
  simp only [Try.ntmps69, List.size_toArray, List.length_cons, List.length_nil, Nat.reduceAdd, Nat.reduceSub, Array.replicate_succ, Array.replicate_zero, List.push_toArray, List.append_toArray, List.nil_append, List.cons_append]
  go_wp2_with fail
  obtain ⟨V, hV⟩ : ∃ V, V = w.alloc (.cells #[.slice none 0 0] 23) := ⟨_, rfl⟩
  have hbV : Below w.heap.size w V := by rw [hV]; exact alloc_below _ _
  have hzV : V.heap.size = w.heap.size + 1 := by rw [hV]; simp
  have hvV : Boxed V w.heap.size 23 (.slice none 0 0) := by rw [hV]; exact Boxed.new _ _ _
  rw [← hV]
  clear hV
  have hSw : ∀ r, S r → r < w.heap.size := fun r h => Nat.lt_of_lt_of_le (hS r h) hb0.size
  have hF := Lib.hid (And.intro hSw hN)
  clear hSw
  refine (wpIn_wide (n := 9)).1 ?_
  refine range_gives (w0 := w0) (c := c) (N := N) (S := S) rfl eg hseq (hb0.trans (hbV.mono hb0.size)) hS (fun _ => rfl)
    (fun k X => (∃ v, Boxed X w.heap.size 23 v ∧ X.ownsRow (V.heap.size + 2 + c) 28 2 v k (flatV (lst ax k))) ∧ Below w.heap.size w X) (fun _ _ => False) ?hI (fun _ _ _ _ h _ _ => h) ⟨⟨_, hvV, World.ownsRow_nil _ _ _ _⟩, hbV⟩ ?round ?done ?stop
  case hI =>
    refine Steady.and ?_ (steady_below (Nat.le_refl _) fun r h => by omega)
    rintro k A B row ⟨v, hv, hr⟩ hg ht
    exact ⟨v, hv.kept hg (fun e => by have := ht _ e.symm; omega), own_other hr hg fun r e => by have := ht r e; omega⟩
  case round =>
    rintro l k X hk hsz ⟨⟨v, hv, hr⟩, hB⟩
    have hls := Lib.hid (lst_succ ax k)
    simp only
    obtain ⟨x0, hx0⟩ : ∃ x, x = (ax k).1 := ⟨_, rfl⟩
    obtain ⟨x1, hx1⟩ : ∃ x, x = (ax k).2 := ⟨_, rfl⟩
    rw [← hx0, ← hx1]
    have hx := Lib.hid (And.intro hx0 hx1)
    clear hx0 hx1
    gi_wp2
    refine ⟨KeepOn.below (alloc_below _ _), fun Y hT => ?_⟩
    have hz : X.heap.size + 1 ≤ Y.heap.size := by have := hT.size; simpa using this
    have c0 : Y.cell? ⟨X.heap.size, 0, none⟩ = some (.int .i64 x0) := hT.cell (by simp [go_sem]) (by simp only; omega)
    have c1 : Y.cell? ⟨X.heap.size, 1, none⟩ = some (.int .i64 x1) := hT.cell (by simp [go_sem]) (by simp only; omega)
    have hvY : Boxed Y w.heap.size 23 v := hT.heap (hv.alloc _) (by omega)
    have hrY : Y.ownsRow (V.heap.size + 2 + c) 28 2 v k (flatV (lst ax k)) := by
      obtain ⟨r, hr1, hg⟩ := hT
      exact own_other (hr.alloc _) hg fun r' e => by cases e; omega
    have hbY : Below w.heap.size w Y := by
      obtain ⟨r, hr1, hg⟩ := hT
      exact (hB.alloc hB.size _).grown hg (by have := hB.size; simp; omega) fun r' e => by cases e; omega
    have cv := hvY.cell
    clear hv hr hB
    gi_wp2_with (gi_at_builtin; refine wpListIn_append_own _ rfl _ _ 23 rfl (V.heap.size + 2 + c) 28 i0 _ 2 16 Try.underlying23 hi0 hz0 hz1 hz2 rfl (by decide) v k _ rfl (hrY.alloc _) ⟨Y.heap.size, 0, none⟩ 1 1 [.int .i64 x0, .int .i64 x1] rfl rfl (cell_two_new _ _ _ _) (by simp [Value.oneCell']) (by unfold maxLen; have := hF.out.2; omega) (by have := hF.out.2; omega) (by simp; omega) ?_; intro v' w1 hown' hgrow _; obtain ⟨g', cap', rfl⟩ := ownsRow_succ hown'; have hv1 : Boxed w1 w.heap.size 23 v := (hvY.alloc _).kept hgrow (hvY.not_row (by decide) hrY); have hc1 := hv1.cell; have hf1 := hv1.frozen)
    have hn1 : ¬ (S w.heap.size ∨ (V.heap.size ≤ w.heap.size ∧ w.heap.size < V.heap.size + 2 + c)) := by
      rintro (h | h)
      · have := hF.out.1 _ h; omega
      · omega
    have hn2 : ∀ r, v.ownBlock = some r → ¬ (S r ∨ (V.heap.size ≤ r ∧ r < V.heap.size + 2 + c)) := fun r e => by
      have hr := own_block hrY e
      rintro (h | h)
      · have := hF.out.1 _ h; omega
      · omega
    refine ⟨((KeepOn.below (alloc_below Y _)).trans (KeepOn.grown hgrow hn2)).trans (KeepOn.setCell _ hn1), ⟨_, hv1.set _, ?_⟩, ((hbY.alloc hbY.size _).grown hgrow (by have := hbY.size; simp; omega) fun r e => by have := own_block hrY e; omega).setCell (Nat.le_refl _) _⟩
    rw [hls.out, flatV_append, flat_one, ← hx.out.1, ← hx.out.2]
    exact own_other hown' (grownBy_setCell' w1 _ _) fun r e => by cases e; omega
  case done =>
    rintro D X rfl ⟨⟨v, hv, hr⟩, hB⟩ hD
    have cv := hv.cell
    go_wp2
    refine ⟨by simp, .inl ⟨_, _, rfl, run_takeDeferred hD, ?_⟩⟩
    exact ⟨_, results_tmp rfl _ _ _, v, rfl, own_mono (own_other hr (grownBy_putObj' X _ _) fun r e => by cases e; omega) (by omega), hB.grown (grownBy_putObj' X _ _) hB.size fun r e => by cases e; omega⟩
  case stop => exact fun _ _ _ _ _ h _ => h.elim

theorem collect_any (ax : Nat → Int × Int) (gf : Nat) (lb : Array Value) (N c : Nat) (S : Nat → Prop) (w0 w : World) (eg : ∀ args w, (callFunc gf args).run Try.prog w = .ok (.enter gf args) w)
    (hseq : Gives Try.prog gf lb (fun k => #[.agg #[.int .i64 (ax k).1, .int .i64 (ax k).2]]) N c S w0) (hb0 : Below w0.heap.size w0 w) (hS : ∀ r, S r → r < w0.heap.size) (hN : N ≤ 1000) :
    Calls Try.prog 39 #[.func (.func gf) #[] lb] w fun e w' =>
      ∃ v, e = .returned v ∧ w'.ownsRow w.heap.size 28 2 v N (flatV (lst ax N)) ∧ Below w.heap.size w w' := by
  have hk := Lib.hid (appendSeq_any ax gf lb N c S w0 w eg hseq hb0 hS hN)
  clear hseq eg
  go_enter Try.func39, Try.ntmps39
  go_wp2_with fail
  refine (hk.out).mono ?_
  rintro e w' ⟨v, rfl, h1, h2⟩
  go_wp2
  go_ret
  exact ⟨v, rfl, h1, h2⟩

theorem ndir_pos {w : World} {s t : Sp} (hs : Sh w s) : 1 ≤ ndir s t := by
  unfold ndir
  split
  · omega
  · omega
theorem Sh.few {w : World} {s : Sp} (hs : Sh w s) : s.n ≤ 6 := by
  cases s with
  | c r => exact Nat.zero_le _
  | p g cap vs => exact hs.2.hi
theorem ndir_le {w : World} {s t : Sp} (hs : Sh w s) (ht : Sh w t) : ndir s t ≤ 13 := by
  have := hs.few
  have := ht.few
  unfold ndir
  split <;> omega

theorem Sh.low {w : World} {s : Sp} (h : Sh w s) : s.on (fun r => r < w.heap.size) := by
  cases s with
  | c r => trivial
  | p g cap vs => exact block_lt_of_cell (h.1.at (i := 0) (by have := h.2.lo; omega)).1

/-- The axes of two shapes. -/
def axisV (s t : Sp) (p q : Int × Int) (k : Nat) : Int × Int := axV (dirV s t p q k)
def axesV (s t : Sp) (p q : Int × Int) : List (Int × Int) := lst (axisV s t p q) (ndir s t)

set_option maxHeartbeats 4000000 in
theorem axesOf_any (s t : Sp) (p0 p1 q0 q1 : Int) (w : World) (hs : Sh w s) (ht : Sh w t) (hp0 : Be p0) (hp1 : Be p1) (hq0 : Be q0) (hq1 : Be q1) :
    Calls Try.prog 16 #[.agg #[.int .i64 s.r, .slice s.a s.n s.cap], .agg #[.int .i64 p0, .int .i64 p1], .agg #[.int .i64 t.r, .slice t.a t.n t.cap], .agg #[.int .i64 q0, .int .i64 q1]] w fun e w' =>
      ∃ g cap, e = .returned (.slice (some ⟨g, 0, none⟩) (ndir s t) cap) ∧ w'.ownsRow w.heap.size 28 2 (.slice (some ⟨g, 0, none⟩) (ndir s t) cap) (ndir s t) (flatV (axesV s t (p0, p1) (q0, q1))) ∧ Below w.heap.size w w' := by
  have hk := Lib.hid (And.intro hs ht)
  have hn1 := ndir_pos (t := t) hs
  have hn2 := ndir_le hs ht
  clear hs ht
  go_enter Try.func16, Try.ntmps16
  go_wp2_with fail
  refine (axes_any s t p0 p1 q0 q1 _).mono ?_
  rintro e V ⟨rfl, hV⟩
  obtain ⟨U, hU⟩ : ∃ U, U = fourBox w s t p0 p1 q0 q1 := ⟨_, rfl⟩
  have hbU := fourBox_below w s t p0 p1 q0 q1
  have hzU := fourBox_size w s t p0 p1 q0 q1
  have hU' : (((w.alloc (.cells #[.int .i64 s.r, .slice s.a s.n s.cap] 25)).alloc (.cells #[.int .i64 p0, .int .i64 p1] 28)).alloc (.cells #[.int .i64 t.r, .slice t.a t.n t.cap] 25)).alloc (.cells #[.int .i64 q0, .int .i64 q1] 28) = U := by rw [hU]; rfl
  rw [hU'] at hV ⊢
  rw [← hU] at hbU hzU
  have hX := fourBox_boxes U s t p0 p1 q0 q1
  have hbV := fourBox_below U s t p0 p1 q0 q1
  rw [← hV] at hX hbV
  have hBV := below_step hbU hbV
  have hlow := hk.out.1.low
  have hlow2 := hk.out.2.low
  have hG := Lib.hid (axes_gives s t p0 p1 q0 q1 U.heap.size (fun r => r < w.heap.size) V (hk.out.1.carry hBV) (hk.out.2.carry hBV) hlow hlow2 (fun r h => Nat.lt_of_lt_of_le h hBV.size) hX hp0 hp1 hq0 hq1)
  clear hX hV hU hU' hzU hbU hbV hlow hlow2
  go_wp2_with fail
  refine (collect_any (axisV s t (p0, p1) (q0, q1)) 70 _ (ndir s t) 8 _ V V (enters_of Try.func70 (by kernel_rfl) rfl) hG.out (Below.refl _ _) (fun r h => Nat.lt_of_lt_of_le h hBV.size) (by omega)).mono ?_
  rintro e w2 ⟨v, rfl, hown, hb2⟩
  obtain ⟨g, cap, rfl⟩ := owned_shape hown (by omega)
  have hown' := Lib.hid (own_mono hown hBV.size)
  clear hown
  go_wp2
  go_ret
  exact ⟨g, cap, rfl, hown'.out, below_step hBV hb2⟩
end Go.Proofs.Ytfbgghkkgmgnjaa
