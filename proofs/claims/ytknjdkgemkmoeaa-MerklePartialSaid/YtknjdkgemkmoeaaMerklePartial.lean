/-
  package merkle, P11.4, P11.7: for every list of cells (its first 20), a partial tree made of the proofs of any of them (up to 6) has the full tree's values and roots behind every assignment (up to 8) of a known cell, and refuses an assignment of any other; whatever the arguments are.
-/
import Derived.Test.YtknjdkgemkmoeaaRows
import Derived.WalkKit
import Derived.ProofKit
import Derived.OpenShut
import Derived.Test.YtknjdkgemkmoeaaOpen
import Derived.Test.YtknjdkgemkmoeaaOpenB
import Derived.Test.YtknjdkgemkmoeaaMlT
namespace Go.Proofs.Ytknjdkgemkmoeaa.merklePartial
open Go.ChangeShapes Go.WideShapes Go.ChangeAt Go.RowKit
set_option linter.unusedVariables false
set_option linter.unusedSimpArgs false

theorem one_int (Y : World) (z : Int) : ∀ (j : Nat) (u : Value), (ints [z])[j]? = some u → (Y.alloc (.cells #[.int .i64 z] 3)).cell? ((⟨Y.heap.size, 0, none⟩ : Addr).add j) = some u := fun j u hu => by
  rw [add_plain, Nat.zero_add, World.cell?_alloc_new]; simpa [ints] using hu
theorem on_all {x : TrX} {b H r : Nat} (h : x.on H r) : x.all b H r := by
  rcases h with h | ⟨t, h, e⟩
  · exact .inr (.inl h)
  · exact .inr (.inr (.inr ⟨t, h, e⟩))
theorem ge3 {m n a b c : Nat} (h : m ≤ n) (g : n ≤ a ∧ n ≤ b ∧ n ≤ c) : m ≤ a ∧ m ≤ b ∧ m ≤ c := by omega
theorem is_map (ls : List Lf) (f : Lf) : (ls ++ [f]).map Lf.i = ls.map Lf.i ++ [f.i] := by rw [List.map_append]; rfl
theorem of_push {C : List Int} {ls : List Lf} {f : Lf} (h : ∀ (k : Nat) (g : Lf), ls[k]? = some g → Of C g) (hf : Of C f) : ∀ (k : Nat) (g : Lf), (ls ++ [f])[k]? = some g → Of C g := fun k g hk => by
  rcases Nat.lt_or_ge k ls.length with h1 | h1
  · rw [List.getElem?_append_left h1] at hk; exact h k g hk
  · rw [List.getElem?_append_right h1] at hk
    have : g = f := List.mem_singleton.1 (List.mem_of_getElem? hk)
    rw [this]; exact hf
theorem own_apart {A B : World} {base : Nat} {e : TypeId} {size : Nat} {v : Value} {k : Nat} {xs : List Value} {row : Option Nat} (h : A.ownsRow base e size v k xs) (hg : A.grownBy B row) (hr : ∀ r, row = some r → v.ownBlock ≠ some r) : B.ownsRow base e size v k xs :=
  ownsRow_block h fun r hv => hg.block r (h.lt r hv).2 fun e => hr r e.symm hv
theorem apart_push {A : World} {o : Obj} {s u : Value} {g n c : Nat} (h : ∀ r, s.ownBlock = some r → u.ownBlock ≠ some r) (hl : s.ownBlock = some g ∨ g = (A.alloc o).heap.size) (hu : ∀ r, u.ownBlock = some r → r < A.heap.size) :
    ∀ r, (Value.slice (some ⟨g, 0, none⟩) n c).ownBlock = some r → u.ownBlock ≠ some r := fun r hr e => by
  obtain rfl : g = r := by simpa [Value.ownBlock] using hr
  rcases hl with hl | hl
  · exact h g hl e
  · have := hu g e
    rw [World.size_alloc] at hl
    omega
/-- The proofs of the leaves lie elsewhere. -/
def PvA (ls : List Lf) (u : Value) : Prop := ∀ (k : Nat) (f : Lf), ls[k]? = some f → ∀ r, f.pv.ownBlock = some r → u.ownBlock ≠ some r
theorem PvA.push {ls : List Lf} {u : Value} (h : PvA ls u) {f : Lf} {m : Nat} (hu : ∀ r, u.ownBlock = some r → r < m) (hf : ∀ r, f.pv.ownBlock = some r → m ≤ r) : PvA (ls ++ [f]) u := fun k g hk r hr e => by
  rcases Nat.lt_or_ge k ls.length with h1 | h1
  · rw [List.getElem?_append_left h1] at hk; exact h k g hk r hr e
  · rw [List.getElem?_append_right h1] at hk
    have : g = f := List.mem_singleton.1 (List.mem_of_getElem? hk)
    subst this
    have := hu r e
    have := hf r hr
    omega
theorem PvA.own {A : World} {o : Obj} {B : Nat} {v u : Value} {ls : List Lf} {g n c : Nat} (h : PvA ls u) (hR : LR A B v ls) (hl : u.ownBlock = some g ∨ g = (A.alloc o).heap.size) : PvA ls (.slice (some ⟨g, 0, none⟩) n c) := fun k f hk r hr e => by
  obtain rfl : g = r := by simpa [Value.ownBlock] using e
  rcases hl with hl | hl
  · exact h k f hk g hr hl
  · have := (hR.each k f hk).lt g hr
    rw [World.size_alloc] at hl
    omega
theorem apart_comm {s u : Value} (h : ∀ r, s.ownBlock = some r → u.ownBlock ≠ some r) : ∀ r, u.ownBlock = some r → s.ownBlock ≠ some r := fun r hr e => h r e hr
theorem LR.keptG {w W : World} {B : Nat} {v : Value} {ls : List Lf} {row : Option Nat} (h : LR w B v ls) (hg : w.grownBy W row) (hr : ∀ r, row = some r → v.ownBlock ≠ some r) (hl : ∀ (k : Nat) (f : Lf), ls[k]? = some f → ∀ r, f.pv.ownBlock = some r → row ≠ some r) : LR W B v ls :=
  ⟨own_apart h.own hg hr, fun k f hk => by
    obtain ⟨h1, h2, h3, h4, h5, h6, h7⟩ := h.each k f hk
    exact ⟨h1.keptG hg (hl k f hk), h2, h3, h4, h5, h6, fun r hr => Nat.lt_of_lt_of_le (h7 r hr) hg.size⟩⟩
theorem wr_add {n : Nat} (h : n ≤ 20) : IntKind.i64.wrap ((n : Int) + 2) = (n : Int) + 2 := by rw [IntKind.wrap_i64]; omega
theorem ws_add {n : Nat} (h : n ≤ 20) : wrap64 ((n : Int) + 2) = (n : Int) + 2 := by unfold wrap64; omega
theorem wr_sub {n : Nat} {q k : Int} (h : n ≤ 20) (hq : 0 ≤ q ∧ q < (n : Int) + 2) (hk : k = q - 1) : IntKind.i64.wrap (q - 1) = k := by rw [IntKind.wrap_i64]; omega
theorem ws_sub {n : Nat} {q k : Int} (h : n ≤ 20) (hq : 0 ≤ q ∧ q < (n : Int) + 2) (hk : k = q - 1) : wrap64 (q - 1) = k := by unfold wrap64; omega
theorem z_wrap {n : Nat} {z : Int} (h : n ≤ 20) (h1 : -1 ≤ z) (h2 : z ≤ (n : Int)) : wrap64 (z + 1) = z + 1 := by unfold wrap64; omega
theorem k_bd {n : Nat} {q k : Int} (hq : 0 ≤ q ∧ q < (n : Int) + 2) (hk : k = q - 1) : -1 ≤ k ∧ k ≤ (n : Int) := by omega
theorem k_64 {n : Nat} {k : Int} (h : n ≤ 20) (hk : -1 ≤ k ∧ k ≤ (n : Int)) : I64 k := by unfold I64; omega
theorem own : ownKnob Try.prog.godebug = none := by kernel_rfl
theorem laid : laidOutB Try.prog = true := by kernel_rfl

set_option maxRecDepth 100000 in
set_option maxHeartbeats 8000000 in
theorem walk (w : World) (s0 : Value) (Z0 : Nat → Int) (l0 : Nat) (H0 : IntsAt w s0 1 Z0 l0) (N0 : ∀ n c, s0 = .slice none n c → s0 = .slice none 0 0) (s1 : Value) (Z1 : Nat → Int) (l1 : Nat) (H1 : IntsAt w s1 1 Z1 l1) (N1 : ∀ n c, s1 = .slice none n c → s1 = .slice none 0 0) (s2 : Value) (Z2 : Nat → Int) (l2 : Nat) (H2 : IntsAt w s2 1 Z2 l2) (N2 : ∀ n c, s2 = .slice none n c → s2 = .slice none 0 0) (s3 : Value) (Z3 : Nat → Int) (l3 : Nat) (H3 : IntsAt w s3 1 Z3 l3) (N3 : ∀ n c, s3 = .slice none n c → s3 = .slice none 0 0) :
    Calls Try.prog 3 #[s0, s1, s2, s3] w fun e w' => e = .returned (.bool true) ∧ Below w.heap.size w w' := by
  obtain ⟨M, hM20, hM64, kC0⟩ := cells11 H0 N0
  have kC := Lib.hid kC0
  clear kC0
  have hM := Lib.hid (show M.length ≤ 1000 from by omega)
  have hKn := Lib.hid (IntsAt.il H1)
  have hK64 := Lib.hid (ints_64 H1)
  generalize (List.range l1).map Z1 = K at *
  obtain ⟨ka, kc, rfl, k1, k2, k3⟩ := IL.shape hKn.out
  obtain ⟨kl, hkl⟩ : ∃ kl, kl = K.length := ⟨_, rfl⟩
  rw [← hkl] at k1 k3 ⊢
  have hkl' := Lib.hid hkl
  have hKc := Lib.hid k3
  unfold maxLen at k2
  clear hkl k3 hKn
  have hQn := Lib.hid (IntsAt.il H2)
  have hQ64 := Lib.hid (ints_64 H2)
  generalize (List.range l2).map Z2 = Q at *
  obtain ⟨qa, qc, rfl, q1, q2, q3⟩ := IL.shape hQn.out
  obtain ⟨ql, hql⟩ : ∃ ql, ql = Q.length := ⟨_, rfl⟩
  rw [← hql] at q1 q3 ⊢
  have hql' := Lib.hid hql
  have hQc := Lib.hid q3
  unfold maxLen at q2
  clear hql q3 hQn
  have hYn := Lib.hid (IntsAt.il H3)
  have hY64 := Lib.hid (ints_64 H3)
  generalize (List.range l3).map Z3 = Y at *
  obtain ⟨ya, yc, rfl, x1, x2, x3⟩ := IL.shape hYn.out
  obtain ⟨yl, hyl⟩ : ∃ yl, yl = Y.length := ⟨_, rfl⟩
  rw [← hyl] at x1 x3 ⊢
  have hyl' := Lib.hid hyl
  have hYc := Lib.hid x3
  unfold maxLen at x2
  clear hyl x3 hYn
  clear H0 H1 H2 H3 N0 N1 N2 N3
  obtain ⟨i0, hi0, hz0, hz1, hz2⟩ := info_parts info_int
  have hi0' := Lib.hid (And.intro hi0 (And.intro hz0 (And.intro hz1 hz2)))
  clear hi0 hz0 hz1 hz2
  obtain ⟨j0, hj0, hs0, hs1, hs2⟩ := info_parts info_leaf
  have hj0' := Lib.hid (And.intro hj0 (And.intro hs0 (And.intro hs1 hs2)))
  clear hj0 hs0 hs1 hs2
  go_enter Try.func3, Try.ntmps3
  go_wp2_with fail
  refine (kC.out w (Below.refl _ _)).mono ?_
  rintro e W1 ⟨ca, cc, rfl, hI1, hcn, hb1⟩
  have hB1 := Lib.hid hb1
  obtain ⟨n, hn⟩ : ∃ n, n = M.length := ⟨_, rfl⟩
  rw [← hn] at hI1 hcn hM20 ⊢
  have hn' := Lib.hid hn
  have kN := Lib.hid (new_any _ M W1 hI1 hM.out)
  have hcn' := Lib.hid hcn
  clear hn hcn kC hb1
  go_wp2_with fail
  refine (kN.out).mono ?_
  rintro e W2 ⟨b, x, rfl, hT1, hlow, hb2⟩
  have hT2 := Lib.hid hT1
  have hlow2 := Lib.hid (fun r hr => Nat.le_trans hB1.out.size (hlow r hr))
  have hTlt := Lib.hid (fun r hr => hT1.lt (r := r) hr)
  have hI2 := Lib.hid (hI1.carry hb2)
  have hB2 := Lib.hid (below_step hB1.out hb2)
  clear hT1 hlow hI1 hB1 hb2 kN
  go_wp2_with fail
  go_loopw [11, 12, 13] (fun s o i wr => ∃ (t : Nat) (ls : List Lf), t ≤ 6 ∧ t ≤ kl ∧ (∃ a c, s = .slice a t c) ∧ (∃ a c, o = .slice a t c) ∧ i = .int .i64 (t : Nat) ∧ ls.length = t ∧ LR wr W2.heap.size s ls ∧ wr.ownsRow W2.heap.size 3 1 o t (ints (ls.map Lf.i)) ∧ (∀ r, s.ownBlock = some r → o.ownBlock ≠ some r) ∧ PvA ls o ∧ (∀ (k : Nat) (f : Lf), ls[k]? = some f → Of M f) ∧ Below W2.heap.size W2 wr) (fun _ _ i _ => 6 - (intOf i).toNat)
  case atStart => exact ⟨0, [], by omega, by omega, ⟨none, 0, rfl⟩, ⟨none, 0, rfl⟩, rfl, rfl, LR.nil _ _, ⟨rfl, .inl ⟨rfl, rfl⟩⟩, fun r h => (by cases h), fun k f h => (by cases h), fun k f h => (by cases h), Below.refl _ _⟩
  case round =>
    obtain ⟨t, ls, ht6, htk, ⟨sa, sc, rfl⟩, ⟨oa, oc, rfl⟩, rfl, hlen, hR, hO, hap, hpa, hof, hB⟩ := hrel
    have hR' := Lib.hid hR
    have hO' := Lib.hid hO
    have hof' := Lib.hid hof
    have hB' := Lib.hid hB
    have hlen' := Lib.hid hlen
    have hap' := Lib.hid hap
    have hpa' := Lib.hid hpa
    clear hR hO hof hlen hap hpa
    by_cases hin : t < kl ∧ t < 6 ∧ 0 < n
    · obtain ⟨hlt, h6, hnp⟩ := hin
      obtain ⟨kg, koff, rfl, hkg, hkc⟩ := hKc.out (by omega)
      obtain ⟨y, hy⟩ : ∃ y, K[t]? = some y := ⟨_, List.getElem?_eq_getElem (by rw [← hkl'.out]; exact hlt)⟩
      have cy := carry (below_step hB2.out hB) (hkc t y hy)
      have y64 := hK64.out.at hy
      have kA := Lib.hid (fun W => around_any y (n : Int) W y64.1 y64.2 (by omega))
      have hk := arnd_bd y (m := (n : Int)) (by omega)
      generalize arnd y (n : Int) = k0 at *
      obtain ⟨k, rfl⟩ : ∃ k : Nat, k0 = (k : Int) := ⟨k0.toNat, by omega⟩
      obtain ⟨v, hv⟩ : ∃ v, M[k]? = some v := ⟨_, List.getElem?_eq_getElem (by rw [← hn'.out]; omega)⟩
      have kP := treeProve_any wr b x M (k : Int) (hT2.out.carry hB) hM.out
      obtain ⟨p1, p2, p3⟩ := pr_in hv
      rw [p1, p2, p3] at kP
      have hfew := Lib.hid (show (proofW M k (ht M.length)).length ≤ 16 from by rw [proofW_len]; exact ht_small (by rw [← hn'.out]; omega))
      have hof0 := Lib.hid (fun pv => show Of M ⟨(k : Int), v, pv, proofW M k (ht M.length)⟩ from ⟨k, v, hv, rfl, rfl, rfl⟩)
      have h64a := Lib.hid (show I64 (k : Int) from by unfold I64; omega)
      have h64b := Lib.hid (hM64.at hv)
      generalize proofW M k (ht M.length) = pl at *
      have kP' := Lib.hid kP
      have hk2 := Lib.hid hk
      have d1 : decide ((t : Int) < (kl : Int)) = true := decide_eq_true (by omega)
      have d2 : decide ((t : Int) < 6) = true := decide_eq_true (by omega)
      have d3 : decide ((0 : Int) < (n : Int)) = true := decide_eq_true (by omega)
      clear hkc hy hB y64 kP p1 p2 p3 hv hk
      go_wp2_with fail
      with_reducible refine (kA.out _).mono ?_
      rintro e y1 ⟨rfl, rfl⟩
      go_upto_region 11 with fail
      go_upto_region 12 with (first
        | (go_at_call 15; with_reducible refine (kP'.out).mono ?_; rintro e y2 ⟨pv1, rfl, hoX, hb4⟩; have hR4 := Lib.hid (hR'.out.below hb4); have hO4 := Lib.hid (show y2.ownsRow W2.heap.size 30 3 (.slice sa t sc) t (lfs ls) from by have := hR4.out.own; rw [hlen'.out] at this; exact this); have hQ4 := Lib.hid (own_other hO'.out (grown_of_below hb4) fun r e => by cases e); have hB4 := Lib.hid (below_step hB'.out hb4); have hXV := Lib.hid (VL.owned hoX); have hXn := Lib.hid (own_nil hoX); have hXb := Lib.hid (fun r (hr : pv1.ownBlock = some r) => hoX.lt r hr); have hz4 := hB4.out.size; have hsz4 := hb4.size; obtain ⟨xa, xc, rfl⟩ := own_slice hoX; clear hoX hb4)
        | (at_builtin; go_loud (refine wpList_append_lies _ rfl _ _ 26 rfl W2.heap.size 30 j0 _ 3 40 Try.underlying26 hj0'.out.1 hj0'.out.2.1 hj0'.out.2.2.1 hj0'.out.2.2.2 rfl (by decide) (.slice sa t sc) t (lfs ls) rfl (hO4.out.alloc _) ⟨y2.heap.size, 0, none⟩ 1 1 [.int .i64 k, .int .i64 v, .slice xa pl.length xc] rfl rfl (leaf_news y2 _ _ _ _ _) (leaf_ones _ _ _ _ _) Nat.one_pos (by unfold maxLen; omega) (by omega) (by rw [World.size_alloc]; omega) _ rfl ?_; intro g6 c6 W6 hown hgrow hloc hlt5; have hgr := Lib.hid hgrow; have hlo := Lib.hid hloc; have how := Lib.hid hown; clear hown hgrow hloc hlt5)))
      have hR6 := Lib.hid (hR4.out.push (f := ⟨(k : Int), v, .slice xa pl.length xc, pl⟩) hlen'.out.symm how.out hgr.out hlo.out ⟨hXV.out, hfew.out, h64a.out, h64b.out, hXn.out, fun r hr e => by
        have h1 := (hXb.out r hr).1
        have h2 := (hR'.out.own.lt r e).2
        omega, fun r hr => (hXb.out r hr).2⟩)
      have hQ6 := Lib.hid (own_apart (hQ4.out.alloc _) hgr.out hap'.out)
      have hA6 := Lib.hid (apart_push (n := t + 1) (c := c6) hap'.out hlo.out fun r hr => (hQ4.out.lt r hr).2)
      have hB6 := Lib.hid ((hB4.out.alloc hB4.out.size _).grown hgr.out (size_more y2 _ hB4.out.size) fun r e => (hO4.out.lt r e).1)
      have hz6 := hB6.out.size
      have hP6 := Lib.hid (hpa'.out.push (f := ⟨(k : Int), v, .slice xa pl.length xc, pl⟩) (m := wr.heap.size) (fun r hr => (hO'.out.lt r hr).2) fun r hr => (hXb.out r hr).1)
      clear how hgr hlo hR4 hO4 hQ4 hB4 hXV hXn hXb hz4 hsz4
      go_upto_region 9 with (at_builtin; go_loud (refine wpList_append_lies _ rfl _ _ 22 rfl W2.heap.size 3 i0 _ 1 8 Try.underlying22 hi0'.out.1 hi0'.out.2.1 hi0'.out.2.2.1 hi0'.out.2.2.2 rfl (by decide) (.slice oa t oc) t (ints (ls.map Lf.i)) rfl (hQ6.out.alloc _) ⟨W6.heap.size, 0, none⟩ 1 1 (ints [(k : Int)]) rfl rfl (one_int W6 _) (ints_one' _) Nat.one_pos (by unfold maxLen; omega) (by omega) (by rw [World.size_alloc]; omega) _ rfl ?_; intro g7 c7 W7 hown hgrow hloc hlt7; have hgr := Lib.hid hgrow; have hlo := Lib.hid hloc; have how := Lib.hid hown; clear hown hgrow hloc hlt7))
      have hR7 := Lib.hid ((hR6.out.below (alloc_below W6 (.cells #[.int .i64 (k : Int)] 3))))
      have hR8 := Lib.hid (LR.keptG hR7.out hgr.out (apart_comm hA6.out) hP6.out)
      have hQ8 := Lib.hid (show W7.ownsRow W2.heap.size 3 1 (.slice (some ⟨g7, 0, none⟩) (t + 1) c7) (t + 1) (ints ((ls ++ [(⟨(k : Int), v, .slice xa pl.length xc, pl⟩ : Lf)]).map Lf.i)) from by rw [is_map, ints_append]; exact how.out)
      have hA8 := Lib.hid (apart_comm (apart_push (n := t + 1) (c := c7) (apart_comm hA6.out) hlo.out fun r hr => (hR6.out.own.lt r hr).2))
      have hP8 := Lib.hid (hP6.out.own (n := t + 1) (c := c7) hR6.out hlo.out)
      have hB8 := Lib.hid ((hB6.out.alloc hB6.out.size (.cells #[.int .i64 (k : Int)] 3)).grown hgr.out (size_more W6 _ hB6.out.size) fun r e => (hQ6.out.lt r e).1)
      clear how hgr hlo hR6 hR7 hQ6 hB6 hA6 hz6
      go_wp2_with fail
      go_roundw
      case rel => exact ⟨t + 1, _, by omega, by omega, ⟨_, _, rfl⟩, ⟨_, _, rfl⟩, by go_num, by rw [List.length_append, hlen'.out]; rfl, hR8.out, hQ8.out, hA8.out, hP8.out, of_push hof'.out (hof0.out _), hB8.out⟩
      case measure => simp [intOf]; omega
    · have hin' := Lib.hid hin
      clear hin
      have hO1 := Lib.hid (IL.owned hO'.out)
      go_upto_region 8 with fail
      go_cut [42] (fun c W => c = .bool false ∧ W = wr)
      case first =>
        by_cases j1 : t < kl
        · have q1 : (t : Int) < (kl : Int) := by omega
          by_cases j2 : t < 6
          · have q2 : (t : Int) < 6 := by omega
            have q3 : ¬ (0 : Int) < (n : Int) := by have := hin'.out; omega
            have q4 : ¬ 0 < n := by have := hin'.out; omega
            go_wp2_with fail
            go_meet
            exact ⟨rfl, rfl⟩
          · have q2 : ¬ (t : Int) < 6 := by omega
            go_wp2_with fail
            go_meet
            exact ⟨rfl, rfl⟩
        · have q1 : ¬ (t : Int) < (kl : Int) := by omega
          go_wp2_with fail
          go_meet
          exact ⟨rfl, rfl⟩
      obtain ⟨hc42, hcW⟩ := hcut
      subst hc42
      obtain ⟨X, hX⟩ : ∃ V, V = wc := ⟨wc, rfl⟩
      subst hX
      subst hcW
      have h64 := Lib.hid hR'.out.wf
      have hLL := Lib.hid hR'.out.ll
      have hKn := Lib.hid (Kn.start hM.out hof'.out)
      have hok := Lib.hid (okL_of hof'.out)
      have hTX := Lib.hid (hT2.out.carry hB'.out)
      have kR := Lib.hid (fun Z (hZ : Below X.heap.size X Z) => treeRoot_any Z b x M (hTX.out.carry hZ) hM.out)
      have h16 := ht_small (n := M.length) (by have := hM.out; omega)
      have kNP := Lib.hid (fun Z (hZ : Below X.heap.size X Z) => show Calls Try.prog 16 #[.int .u64 ((rootW M).toNat : Int), .int .i64 (n : Nat), .slice sa t sc] Z fun e w' => ∃ pb b1 b2 nb, e = .returned (.tuple #[.pointer (some ⟨pb, 0, none⟩), .int .i64 0]) ∧ Pa w' pb b1 b2 (ht M.length) (valD ls ls.length) (hashD (rootW M) (ht M.length) ls ls.length) nb ∧ nb ≤ 200 ∧ (Z.heap.size ≤ pb ∧ Z.heap.size ≤ b1 ∧ Z.heap.size ≤ b2) ∧ Below Z.heap.size Z w' from by
        refine (newPartial_any (rootW M) n _ ls Z (hLL.out.carry hZ) (by omega) (by rw [hlen'.out]; omega) h64.out).mono ?_
        rintro e w' (⟨_, pb, b1, b2, he, hp, hge, hb⟩ | ⟨hno, _⟩)
        · rw [hn'.out] at hp
          refine ⟨pb, b1, b2, _, he, hp, ?_, hge, hb⟩
          have h1 : ls.length ≤ 6 := by rw [hlen'.out]; exact ht6
          have h2 : ls.length * (1 + ht M.length) ≤ 6 * 17 := Nat.mul_le_mul h1 (by omega)
          omega
        · exact absurd (by rw [hn'.out]; exact hok.out) hno)
      generalize hrr : ((rootW M).toNat : Int) = r0 at *
      have hOX := Lib.hid hO'.out
      have hBX := Lib.hid (below_step hB2.out hB'.out)
      have hX2 := hB'.out.size
      clear hrr hB hR' hO' hpa' hap' hof' hLL h64 hok hO1 hT2 hin'
      go_upto_region 13 with fail
      go_cut [15, 16] (fun v1 v2 W => ∃ pb b1 b2 nb, v1 = .pointer (some ⟨pb, 0, none⟩) ∧ v2 = .int .i64 0 ∧ Pa W pb b1 b2 (ht M.length) (valD ls ls.length) (hashD (rootW M) (ht M.length) ls ls.length) nb ∧ nb ≤ 200 ∧ (X.heap.size ≤ pb ∧ X.heap.size ≤ b1 ∧ X.heap.size ≤ b2) ∧ Below X.heap.size X W)
      case first =>
        go_wp2_with fail
        with_reducible refine (kR.out _ (Below.refl _ _)).mono ?_
        rintro e U1 ⟨rfl, hbU⟩
        have hbU' := Lib.hid hbU
        clear hbU
        go_wp2_with fail
        with_reducible refine (kNP.out _ hbU'.out).mono ?_
        rintro e U2 ⟨pb, b1, b2, nb, rfl, hP, hnb, hge, hbV⟩
        have hP' := Lib.hid hP
        have hge' := Lib.hid (ge3 hbU'.out.size hge)
        have hbV' := Lib.hid (below_step hbU'.out hbV)
        have hnb' := Lib.hid hnb
        clear hP hge hbV hnb
        go_wp2_with fail
        go_meet
        exact ⟨_, _, _, _, rfl, rfl, hP'.out, hnb'.out, hge'.out, hbV'.out⟩
      obtain ⟨pb, b1, b2, nb, h15, h16', hPa, hnb, hge, hbX⟩ := hcut
      subst h15
      subst h16'
      obtain ⟨X1, hX1⟩ : ∃ V, V = wc := ⟨wc, rfl⟩
      subst hX1
      obtain ⟨ge0, ge1, ge2⟩ := hge
      have hP1 := Lib.hid hPa
      have hT1 := Lib.hid (hTX.out.carry hbX)
      have hO1 := Lib.hid (own_other hOX.out (grown_of_below hbX) fun r e => by cases e)
      have hI1 := Lib.hid ((hI2.out.carry hB'.out).carry hbX)
      have hB1 := Lib.hid (below_step hBX.out hbX)
      have hX12 := hbX.size
      have hsO := Lib.hid (show ∀ r, (Value.slice oa t oc).ownBlock = some r → W2.heap.size ≤ r ∧ r < X.heap.size from fun r hr => hOX.out.lt r hr)
      generalize valD ls ls.length = D1 at *
      generalize hashD (rootW M) (ht M.length) ls ls.length = D2 at *
      obtain ⟨own, hown⟩ : ∃ own, own = ls.map Lf.i := ⟨_, rfl⟩
      have howl : own.length = t := by rw [hown, List.length_map]; exact hlen'.out
      rw [← hown] at hKn hO1
      clear hPa hbX hTX hOX hBX kR kNP hI2 hB' hown
      obtain ⟨ca', cc', hcv, u1, u2, u3⟩ := hI1.out.shape
      have hlw := Lib.hid (show (ints M).length = n * 1 from by rw [ints_length, ← hn'.out, Nat.mul_one])
      rw [← hn'.out] at hcv u1 u3
      simp only [Value.slice.injEq, true_and] at hcv
      obtain ⟨rfl, rfl⟩ := hcv
      unfold maxLen at u2
      have hcc := Lib.hid u3
      have hcx := Lib.hid (fun (ad : Addr) (e : ca = some ad) (j : Nat) (u : Value) (hu : (ints M)[j]? = some u) => (by
        have hj := (List.getElem?_eq_some_iff.1 hu).1
        rw [ints_length, ← hn'.out] at hj
        obtain ⟨g, off, e', _, hc⟩ := hcc.out (by omega)
        rw [e] at e'
        cases e'
        unfold ints at hu
        rw [List.getElem?_map] at hu
        obtain ⟨z, hz, rfl⟩ := Option.map_eq_some_iff.1 hu
        rw [add_plain]
        exact carry (alloc_below X1 _) (hc j z hz) : (X1.alloc (.cells #[] 3)).cell? (ad.add j) = some u))
      clear u3 hcc hI1
      go_upto_region 16 with fail
      go_upto_region 17 with (at_builtin; refine wpList_append_nilable rfl _ _ 22 rfl X1.heap.size 3 i0 _ 1 8 Try.underlying22 hi0'.out.1 hi0'.out.2.1 hi0'.out.2.2.1 hi0'.out.2.2.2 rfl (by decide) (.slice (some ⟨X1.heap.size, 0, none⟩) 0 0) 0 [] rfl (World.ownsRow_made X1 #[] 0 (Nat.le_refl _) (Nat.zero_le _) rfl) ca n cc (ints M) rfl hlw.out hcn'.out hcx.out (ints_one' _) (by unfold maxLen; omega) (by omega) (size_more X1 _ (Nat.le_refl _)) ?_; intro nv Y2 hown hgrow; rw [Nat.zero_add, List.nil_append] at hown; have hown' := Lib.hid hown; obtain ⟨nva, nvc, rfl⟩ := own_slice hown; have hgrow' := Lib.hid hgrow; clear hown hgrow)
      have hz3 : X1.heap.size ≤ Y2.heap.size := by have := hgrow'.out.size; rw [World.size_alloc] at this; omega
      have hbY : Below X1.heap.size X1 Y2 := ((Below.refl _ X1).alloc (Nat.le_refl _) (.cells #[] 3)).grown hgrow'.out (by rw [World.size_alloc]; omega) fun r e => by simp [Value.ownBlock] at e; omega
      have hP2 := Lib.hid (hP1.out.carry hbY)
      have hT2 := Lib.hid (hT1.out.carry hbY)
      have hO2 := Lib.hid (own_other hO1.out (grown_of_below hbY) fun r e => by cases e)
      have hB3 := Lib.hid (below_step hB1.out hbY)
      have hsP := Lib.hid (And.intro hP1.out.lt (And.intro ge0 (And.intro ge1 ge2)))
      clear hbY hgrow' hP1 hT1 hO1 hB1 hcx hlw ge0 ge1 ge2
      have hlenM := Lib.hid (show M.length = n from hn'.out.symm)
      have hMM := Lib.hid (show ht M.length = ht M.length from rfl)
      obtain ⟨H, hH⟩ : ∃ H, H = ht M.length := ⟨_, rfl⟩
      rw [← hH] at hP2 h16
      have hH' := Lib.hid hH
      have hn20 := hM20
      clear hH hMM
      go_upto_region 18 with fail
      go_loopw [18] (fun i wr => ∃ (t2 : Nat) (C : List Int) (E1 E2 : DataW Unit) (nb2 : Nat), i = .int .i64 (t2 : Nat) ∧ t2 ≤ 8 ∧ t2 ≤ ql ∧ t2 ≤ yl ∧ C.length = n ∧ All64 C ∧ Kn own C E1 E2 ∧ nb2 ≤ 200 + 20 * t2 ∧ Pa wr pb b1 b2 H E1 E2 nb2 ∧ Tr wr b x C (rowsW C) ∧ wr.ownsRow W2.heap.size 3 1 (.slice oa t oc) t (ints own) ∧ wr.ownsRow X1.heap.size 3 1 (.slice nva n nvc) n (ints C) ∧ Below w.heap.size w wr ∧ Y2.heap.size ≤ wr.heap.size) (fun i _ => 8 - (intOf i).toNat)
      case atStart => exact ⟨0, M, D1, D2, nb, rfl, by omega, by omega, by omega, hn'.out.symm, hM64, hKn.out, by omega, hP2.out, hT2.out, hO2.out, hown'.out, hB3.out, Nat.le_refl _⟩
      case round =>
        obtain ⟨t2, C, E1, E2, nb2, rfl, t28, t2q, t2y, hCn, hC64, hK, hnb2, hP, hT, hO, hN, hB, hzr⟩ := hrel
        have hCn' := Lib.hid hCn
        have hC1000 := Lib.hid (show C.length ≤ 1000 from by omega)
        have hHC := Lib.hid (show ht C.length = H from by rw [hH'.out, hCn, hn'.out])
        have hK' := Lib.hid hK
        have hP' := Lib.hid hP
        have hT' := Lib.hid hT
        have hO' := Lib.hid hO
        have hN' := Lib.hid hN
        have hB' := Lib.hid hB
        have hCC := Lib.hid hC64
        clear hCn hC64 hK hP hT hO hN hB hP2 hT2 hO2 hown' hB3 hKn
        by_cases hin : t2 < ql ∧ t2 < yl ∧ t2 < 8
        · obtain ⟨hlt, hlty, h8⟩ := hin
          obtain ⟨qg, qoff, rfl, hqg, hqc⟩ := hQc.out (by omega)
          obtain ⟨yg, yoff, rfl, hyg, hyc⟩ := hYc.out (by omega)
          obtain ⟨za, hza⟩ : ∃ y, Q[t2]? = some y := ⟨_, List.getElem?_eq_getElem (by rw [← hql'.out]; exact hlt)⟩
          obtain ⟨zb, hzb⟩ : ∃ y, Y[t2]? = some y := ⟨_, List.getElem?_eq_getElem (by rw [← hyl'.out]; exact hlty)⟩
          have ca0 := carry hB'.out (hqc t2 za hza)
          have cb0 := carry hB'.out (hyc t2 zb hzb)
          have hcyw := Lib.hid (hyc t2 zb hzb)
          have za64 := hQ64.out.at hza
          have hzb64 := Lib.hid (hY64.out.at hzb)
          have kA := Lib.hid (fun W => around_any za ((n : Int) + 2) W za64.1 za64.2 (by omega))
          have hq := arnd_bd za (m := (n : Int) + 2) (by omega)
          generalize arnd za ((n : Int) + 2) = q at *
          obtain ⟨kk, hkk⟩ : ∃ kk, kk = q - 1 := ⟨_, rfl⟩
          have hww := Lib.hid (And.intro (wr_add hn20) (And.intro (wr_sub hn20 hq hkk) (And.intro (ws_add hn20) (ws_sub hn20 hq hkk))))
          have hkb : -1 ≤ kk ∧ kk ≤ (n : Int) := k_bd hq hkk
          have hwf := Lib.hid (show (Lit.int .i64 kk).wf = true from i64_lit (k_64 hn20 hkb))
          have kH := Lib.hid (hasI_any (.slice oa t oc) own kk wr (by have := IL.owned (show wr.ownsRow W2.heap.size 3 1 (.slice oa t oc) own.length (ints own) from by rw [howl]; exact hO'.out); exact this))
          have hkk' := Lib.hid hkk
          clear hkk hqc hyc hza hzb za64
          by_cases hm : kk ∈ own
          · rw [decide_eq_true hm] at kH
            obtain ⟨i, hki, hi⟩ := hK'.out.bd kk hm
            subst hki
            obtain ⟨y, hy⟩ : ∃ y, C[i]? = some y := ⟨_, List.getElem?_eq_getElem hi⟩
            have kS := Lib.hid (partSet_any pb b1 b2 H nb2 E1 E2 i zb y (fun k => nodeW C k (sib (i / 2 ^ k))) wr hP'.out (by rw [← hHC.out]; exact Nat.lt_of_lt_of_le hi (ht_self _)) h16 (i64_lit hzb64.out) (by omega) (hK'.out.val i y hm hy _) ((hK'.out.has _).trans (decide_eq_true hm)) (fun k hk => hK'.out.side i hm k (by rw [hHC.out]; exact hk)))
            have hKs := hK'.out.set hC1000.out hm zb
            rw [hHC.out] at hKs
            have hKs' := Lib.hid hKs
            clear hKs
            generalize rse E2 i zb (fun k => nodeW C k (sib (i / 2 ^ k))) (H + 1) = F2 at *
            generalize E1.put (.int .i64 (i : Nat)) (.lit (.int .i64 zb)) = F1 at *
            have hTl := Lib.hid (fun r (hr : x.all b (ht C.length) r) => show r < W2.heap.size from hTlt.out r (by rw [hHC.out, hH'.out] at hr; exact hr))
            have hTw := Lib.hid (fun r (hr : x.all b (ht C.length) r) => show w.heap.size ≤ r from hlow2.out r (by rw [hHC.out, hH'.out] at hr; exact hr))
            have hw2' := hB2.out.size
            have hl2 : (C.set i zb).length = C.length := List.length_set
            have hput : putC C (i : Int) zb = C.set i zb := by unfold putC; rw [if_pos ⟨by omega, by omega⟩, Int.toNat_natCast]
            have hiC := Lib.hid hi
            have hin : i < n := by rw [← hCn'.out]; exact hi
            have hyy := Lib.hid hy
            clear hm hi hy
            obtain ⟨hw0, hw1, hw2, hw3⟩ := hww.out
            go_wp2_with fail
            with_reducible refine (kA.out _).mono ?_
            rintro e x1 ⟨rfl, rfl⟩
            go_upto_region 21 with fail
            clear hw0 hw1 hw2 hw3
            go_wp2_with fail
            with_reducible refine (kH.out).mono ?_
            rintro e x2 ⟨rfl, rfl⟩
            go_wp2_with fail
            with_reducible refine (kS.out).mono ?_
            rintro e U1 ⟨rfl, hP1, hM1⟩
            obtain ⟨⟨l1, l2, l3⟩, m1, m2, m3⟩ := hsP.out
            have hT1 := Lib.hid (hT'.out.keep (w' := U1) fun r hr => hM1.block r (hT'.out.lt hr) (by have := hTl.out r hr; omega))
            have hN1 := Lib.hid (ownsRow_block hN'.out fun r hr => hM1.block r (hN'.out.lt r hr).2 (by have := (hN'.out.lt r hr).1; omega))
            have hO1 := Lib.hid (ownsRow_block hO'.out fun r hr => hM1.block r (hO'.out.lt r hr).2 (by have := hsO.out r hr; omega))
            have hB1 := Lib.hid (hM1.toBelow hB'.out fun r hr ho => by omega)
            have hz1 := hM1.size
            have hP1' := Lib.hid hP1
            have cb1 := carry hB1.out hcyw.out
            obtain ⟨gn, cn, e, gB, gS, _, _, hcells, hfz⟩ := own_form hN1.out (by omega)
            simp only [Value.slice.injEq] at e
            obtain ⟨rfl, hxx, rfl⟩ := e
            have cn1 := CellsAt.at hcells (show (ints C)[i]? = some (.int .i64 y) from by unfold ints; rw [List.getElem?_map, hyy.out]; rfl)
            have fn1 := hfz i
            clear hxx hcells hfz hP1 hM1 ca0 cb0 kA kH kS
            have hT2 := Lib.hid (hT1.out.keep (w' := U1.setCell ⟨gn, i, none⟩ (.int .i64 zb)) fun r hr => Below.heap_setCell _ _ _ _ (by have := hTl.out r hr; simp only; omega))
            have hP2 := Lib.hid (hP1'.out.kept (grownBy_set U1 ⟨gn, i, none⟩ (.int .i64 zb)) fun r e => by cases e; simp only; omega)
            have hO2 := Lib.hid (ownsRow_block hO1.out (w' := U1.setCell ⟨gn, i, none⟩ (.int .i64 zb)) fun r hr => Below.heap_setCell _ _ _ _ (by have := hsO.out r hr; simp only; omega))
            have hN2 := Lib.hid (show (U1.setCell ⟨gn, i, none⟩ (.int .i64 zb)).ownsRow X1.heap.size 3 1 (.slice (some ⟨gn, 0, none⟩) n nvc) n (ints (C.set i zb)) from by have := own_set hN1.out hin (.int .i64 zb); rw [ints_set] at this; exact this)
            have hB2' := Lib.hid (hB1.out.setCell (p := ⟨gn, i, none⟩) (by simp only; omega) (.int .i64 zb))
            have hz2 : U1.heap.size ≤ (U1.setCell ⟨gn, i, none⟩ (.int .i64 zb)).heap.size := by simp
            go_upto_region 26 with fail
            generalize U1.setCell ⟨gn, i, none⟩ (.int .i64 zb) = U2 at *
            clear cn1 fn1 cb1 hT1 hP1' hO1 hN1 hB1
            have cb2 := carry hB2'.out hcyw.out
            have kT := treeSet_any U2 b x C (i : Int) zb hT2.out hC1000.out
            rw [hput] at kT
            have kT' := Lib.hid kT
            clear kT hput
            go_wp2_with fail
            with_reducible refine (kT'.out).mono ?_
            rintro e U3 ⟨⟨u, rfl⟩, hT3, hM3⟩
            have hP3 := Lib.hid (hP2.out.keep (w' := U3) fun r hr => hM3.block r (by have := hP2.out.lt; rcases hr with rfl | rfl | rfl <;> omega) (fun ho => by
              have h1 : r < W2.heap.size := hTl.out r (on_all ho)
              rcases hr with rfl | rfl | rfl <;> omega))
            have hO3 := Lib.hid (ownsRow_block hO2.out (w' := U3) fun r hr => hM3.block r (hO2.out.lt r hr).2 (fun ho => by have h1 := hTl.out r (on_all ho); have := (hO2.out.lt r hr).1; omega))
            have hN3 := Lib.hid (ownsRow_block hN2.out (w' := U3) fun r hr => hM3.block r (hN2.out.lt r hr).2 (fun ho => by have h1 := hTl.out r (on_all ho); have := (hN2.out.lt r hr).1; omega))
            have hB3 := Lib.hid (hM3.toBelow hB2'.out fun r hr ho => by have h1 := hTw.out r (on_all ho); omega)
            have hT3' := Lib.hid hT3
            have hz4 := hM3.size
            have hl3 := Lib.hid (show (C.set i zb).length = n from by rw [hl2]; exact hCn'.out)
            have hC64 := Lib.hid (show All64 (C.set i zb) from fun z hz => by
              rcases List.mem_or_eq_of_mem_set hz with h1 | h1
              · exact hCC.out z h1
              · rw [h1]; exact hzb64.out)
            have hHC2 := Lib.hid (show ht (C.set i zb).length = H from by rw [hl2]; exact hHC.out)
            generalize C.set i zb = C2 at *
            have kR1 := Lib.hid (partRoot_any pb b1 b2 H _ F1 F2 ((rootW C2).toNat : Int) (wf_nat (by omega)) U3 hP3.out (by have := hKs'.out.top; rw [hHC2.out] at this; exact this))
            have kR2 := Lib.hid (fun Z (hZ : Below U3.heap.size U3 Z) => treeRoot_any Z b x C2 (hT3'.out.carry hZ) (by rw [hl3.out]; omega))
            generalize ((rootW C2).toNat : Int) = r2 at *
            have hr2 : (r2 == r2) = true := bq_self _
            clear hT3 hM3 hl2 hT2 hP2 hO2 hN2 hB2' kT' cb2
            go_wp2_with fail
            with_reducible refine (kR1.out).mono ?_
            rintro e x4 ⟨rfl, hb4⟩
            have hb4' := Lib.hid hb4
            clear hb4
            go_wp2_with fail
            with_reducible refine (kR2.out _ hb4'.out).mono ?_
            rintro e x5 ⟨rfl, hb5⟩
            have hb5' := Lib.hid (below_step hb4'.out hb5)
            clear hb5
            go_wp2_with fail
            go_roundw
            case rel => exact ⟨t2 + 1, C2, F1, F2, _, by go_num, by omega, by omega, by omega, hl3.out, hC64.out, hKs'.out, by omega, hP3.out.carry hb5'.out, hT3'.out.carry hb5'.out, own_other hO3.out (grown_of_below hb5'.out) fun r e => (by cases e), own_other hN3.out (grown_of_below hb5'.out) fun r e => (by cases e), below_step hB3.out hb5'.out, by have := hb5'.out.size; omega⟩
            case measure => simp [intOf]; omega
          · rw [decide_eq_false hm] at kH
            have kS := Lib.hid (partSet_no pb b1 b2 H nb2 E1 E2 kk zb wr hP'.out hwf.out (by rw [hK'.out.has]; exact decide_eq_false hm))
            have kR1 := Lib.hid (fun Z (hZ : Below wr.heap.size wr Z) => partRoot_any pb b1 b2 H nb2 E1 E2 ((rootW C).toNat : Int) (wf_nat (by omega)) Z (hP'.out.carry hZ) (by have := hK'.out.top; rw [hHC.out] at this; exact this))
            have kR2 := Lib.hid (fun Z (hZ : Below wr.heap.size wr Z) => treeRoot_any Z b x C (hT'.out.carry hZ) hC1000.out)
            generalize ((rootW C).toNat : Int) = r2 at *
            have hr2 : (r2 == r2) = true := bq_self _
            clear hm
            obtain ⟨hw0, hw1, hw2, hw3⟩ := hww.out
            go_wp2_with fail
            with_reducible refine (kA.out _).mono ?_
            rintro e x1 ⟨rfl, rfl⟩
            go_upto_region 21 with fail
            clear hw0 hw1 hw2 hw3
            go_wp2_with fail
            with_reducible refine (kH.out).mono ?_
            rintro e x2 ⟨rfl, rfl⟩
            go_wp2_with fail
            with_reducible refine (kS.out).mono ?_
            rintro e x3 ⟨rfl, hb3⟩
            have hb3' := Lib.hid hb3
            clear hb3
            go_wp2_with fail
            with_reducible refine (kR1.out _ hb3'.out).mono ?_
            rintro e x4 ⟨rfl, hb4⟩
            have hb4' := Lib.hid (below_step hb3'.out hb4)
            clear hb4
            go_wp2_with fail
            with_reducible refine (kR2.out _ hb4'.out).mono ?_
            rintro e x5 ⟨rfl, hb5⟩
            have hb5' := Lib.hid (below_step hb4'.out hb5)
            clear hb5
            go_wp2_with fail
            go_roundw
            case rel => exact ⟨t2 + 1, C, E1, E2, nb2, by go_num, by omega, by omega, by omega, hCn'.out, hCC.out, hK'.out, by omega, hP'.out.carry hb5'.out, hT'.out.carry hb5'.out, own_other hO'.out (grown_of_below hb5'.out) fun r e => (by cases e), own_other hN'.out (grown_of_below hb5'.out) fun r e => (by cases e), below_step hB'.out hb5'.out, Nat.le_trans hzr hb5'.out.size⟩
            case measure => simp [intOf]; omega
        · have hin' := Lib.hid hin
          clear hin
          go_upto_region 18 with fail
          go_cut [93] (fun c W => c = .bool false ∧ W = wr)
          case first =>
            by_cases j1 : t2 < ql
            · have p1 : (t2 : Int) < (ql : Int) := by omega
              by_cases j2 : t2 < yl
              · have p2 : (t2 : Int) < (yl : Int) := by omega
                have p3 : ¬ (t2 : Int) < 8 := by have := hin'.out; omega
                go_wp2_with fail
                go_meet
                exact ⟨rfl, rfl⟩
              · have p2 : ¬ (t2 : Int) < (yl : Int) := by omega
                go_wp2_with fail
                go_meet
                exact ⟨rfl, rfl⟩
            · have p1 : ¬ (t2 : Int) < (ql : Int) := by omega
              go_wp2_with fail
              go_meet
              exact ⟨rfl, rfl⟩
          obtain ⟨hc93, hcW⟩ := hcut
          subst hc93
          obtain ⟨V, hV⟩ : ∃ V, V = wc := ⟨wc, rfl⟩
          subst hV
          subst hcW
          have kH := Lib.hid (fun z => hasI_any (.slice oa t oc) own z V (by have := IL.owned (show V.ownsRow W2.heap.size 3 1 (.slice oa t oc) own.length (ints own) from by rw [howl]; exact hO'.out); exact this))
          have kG := Lib.hid (fun z c hw hc => get_any pb b1 b2 H nb2 E1 E2 z c hw V hP'.out hc)
          have hNN := Lib.hid (show ∀ (i : Nat) (y : Int), i < n → C[i]? = some y → ∃ gn, nva = some ⟨gn, 0, none⟩ ∧ V.cell? ⟨gn, i, none⟩ = some (.int .i64 y) from fun i y hi hy => by
            obtain ⟨gn, cn, e, gB, gS, _, _, hcells, hfz⟩ := own_form hN'.out (by omega)
            have cn1 := CellsAt.at hcells (show (ints C)[i]? = some (.int .i64 y) from by unfold ints; rw [List.getElem?_map, hy]; rfl)
            simp only [Value.slice.injEq, true_and] at e
            exact ⟨gn, e.1, cn1⟩)
          clear hin'
          go_upto_region 30 with fail
          go_loop [21] (fun i => ∃ z : Int, i = .int .i64 z ∧ -1 ≤ z ∧ z ≤ (n : Int) + 1) (fun i => ((n : Int) + 2 - intOf i).toNat)
          case atStart => exact ⟨-1, rfl, by omega, by omega⟩
          case round =>
            obtain ⟨z, rfl, z1, z2⟩ := hrel
            by_cases hz : z ≤ (n : Int)
            · have hzw := Lib.hid (z_wrap hn20 z1 hz)
              have hwf := Lib.hid (show (Lit.int .i64 z).wf = true from i64_lit (k_64 hn20 ⟨z1, hz⟩))
              by_cases hm : z ∈ own
              · have k1 := Lib.hid (kH.out z)
                rw [decide_eq_true hm] at k1
                obtain ⟨i, hki, hi⟩ := hK'.out.bd z hm
                subst hki
                obtain ⟨y, hy⟩ : ∃ y, C[i]? = some y := ⟨_, List.getElem?_eq_getElem hi⟩
                have hin : i < n := by rw [← hCn'.out]; exact hi
                have k2 := Lib.hid (kG.out i y hwf.out (hK'.out.val i y hm hy _))
                rw [(hK'.out.has _).trans (decide_eq_true hm)] at k2
                obtain ⟨gn, rfl, cn⟩ := hNN.out i y hin hy
                have hyy : (y == y) = true := by simp
                have hmx : max (i : Int) 0 = (i : Int) := by omega
                have hmx2 : Max.max (0 : Int) (i : Int) = (i : Int) := by omega
                clear hm hi hy hNN
                go_wp2_with fail
                with_reducible refine (k2.out).mono ?_
                rintro e x1 ⟨rfl, rfl⟩
                go_wp2_with fail
                with_reducible refine (k1.out).mono ?_
                rintro e x2 ⟨rfl, rfl⟩
                go_wp2_with fail
                go_round
                case rel => exact ⟨(i : Int) + 1, rfl, by omega, by omega⟩
                case measure => simp [intOf]; omega
              · have k1 := Lib.hid (kH.out z)
                rw [decide_eq_false hm] at k1
                have hf := (hK'.out.has z).trans (decide_eq_false hm)
                have k2 := Lib.hid (kG.out z 0 hwf.out (Maps.atKey_of_not_has hf _))
                rw [hf] at k2
                clear hm hf hNN
                go_wp2_with fail
                with_reducible refine (k2.out).mono ?_
                rintro e x1 ⟨rfl, rfl⟩
                go_wp2_with fail
                with_reducible refine (k1.out).mono ?_
                rintro e x2 ⟨rfl, rfl⟩
                go_wp2_with fail
                go_round
                case rel => exact ⟨z + 1, rfl, by omega, by omega⟩
                case measure => simp [intOf]; omega
            · have hz' : z = (n : Int) + 1 := by omega
              have kR1 := Lib.hid (partRoot_any pb b1 b2 H nb2 E1 E2 ((rootW C).toNat : Int) (wf_nat (by omega)) V hP'.out (by have := hK'.out.top; rw [hHC.out] at this; exact this))
              have kR2 := Lib.hid (fun Z (hZ : Below V.heap.size V Z) => refRoot_any (.slice nva n nvc) C Z (by have := IL.owned (show V.ownsRow X1.heap.size 3 1 (.slice nva n nvc) C.length (ints C) from by rw [hCn'.out]; exact hN'.out); exact this.carry hZ) (by rw [hCn'.out]; omega))
              generalize ((rootW C).toNat : Int) = r2 at *
              have hr2 : (r2 == r2) = true := bq_self _
              clear hNN hz'
              go_wp2_with fail
              with_reducible refine (kR1.out).mono ?_
              rintro e x4 ⟨rfl, hb4⟩
              have hb4' := Lib.hid hb4
              clear hb4
              go_wp2_with fail
              with_reducible refine (kR2.out _ hb4'.out).mono ?_
              rintro e x5 ⟨rfl, hb5⟩
              have hb5' := Lib.hid (below_step hb4'.out hb5)
              clear hb5
              go_wp2_with fail
              refine (lives11_any _).mono ?_
              rintro e x6 ⟨rfl, hb6⟩
              go_wp2
              go_ret
              exact ⟨rfl, below_step hB'.out (below_step hb5'.out hb6)⟩

set_option maxRecDepth 100000 in
theorem lifted (os : Os) (started : os.Started) (H : Type) (enc : TypeId × Value → H) :
    ReturnsInHanded {} Try.checked os 3 .any (Rows.merklePartialSpec.pre6 enc Try.prog Try.f3 Rows.merklePartialRow.domain false) (Rows.merklePartialSpec.post enc Try.prog Try.f3 false true false false) := by
  refine returnsInHanded_of_change (C := Try.checked) own started (by kernel_rfl) Try.func3
    (ChangeSpec.witness6 (enc := enc) (C := Try.checked) false ⟨#[], #[.slice none 0 0, .slice none 0 0, .slice none 0 0, .slice none 0 0], []⟩ 8 (by kernel_rfl) (by kernel_rfl) (by kernel_rfl) (by kernel_rfl)) ?_
  intro W base args ds gs before hval0 hW hcnd _
  have hval : ∀ (j : Nat) t v, Try.f3.params[j]? = some t → args[j]? = some v → Value.okWide Try.prog W .any base t v := hval0
  have hW' := hW
  obtain ⟨p, q, hA0, hV, rfl, hfz, hnd⟩ := hW
  have hA : DataW.TrodAll enc Try.prog W 0 (fun _ => true) true Try.f3.params.toList args.toList ds p := hA0
  rw [Try.params3] at hA hval
  have hAk := hA
  obtain ⟨v0, vs0, d0, ds0, p0, q0, hargs, rfl, hp0, h0, r0⟩ := trodAll_cons hA
  obtain ⟨v1, vs1, d1, ds1, p1, q1, rfl, rfl, hp1, h1, r1⟩ := trodAll_cons r0
  obtain ⟨v2, vs2, d2, ds2, p2, q2, rfl, rfl, hp2, h2, r2⟩ := trodAll_cons r1
  obtain ⟨v3, vs3, d3, ds3, p3, q3, rfl, rfl, hp3, h3, r3⟩ := trodAll_cons r2
  obtain ⟨rfl, rfl, -⟩ := trodAll_nil r3
  obtain rfl : args = #[v0, v1, v2, v3] := by cases args; simp_all
  obtain ⟨rfl, rfl⟩ := trodVars_none hV
  obtain ⟨x0, q0, c0, rfl⟩ := okWide_slice Try.underlying22 (hval 0 22 v0 rfl rfl)
  obtain ⟨fu0, fh0⟩ := h0
  obtain ⟨s0, Z0, l0, e0, H0, N0⟩ := open_int_cells2 Try.underlying22 Try.underlying3 (by kernel_rfl) fh0
  simp only [Value.cells, List.cons.injEq, and_true] at e0
  obtain rfl := e0.symm
  obtain ⟨x1, q1, c1, rfl⟩ := okWide_slice Try.underlying22 (hval 1 22 v1 rfl rfl)
  obtain ⟨fu1, fh1⟩ := h1
  obtain ⟨s1, Z1, l1, e1, H1, N1⟩ := open_int_cells2 Try.underlying22 Try.underlying3 (by kernel_rfl) fh1
  simp only [Value.cells, List.cons.injEq, and_true] at e1
  obtain rfl := e1.symm
  obtain ⟨x2, q2, c2, rfl⟩ := okWide_slice Try.underlying22 (hval 2 22 v2 rfl rfl)
  obtain ⟨fu2, fh2⟩ := h2
  obtain ⟨s2, Z2, l2, e2, H2, N2⟩ := open_int_cells2 Try.underlying22 Try.underlying3 (by kernel_rfl) fh2
  simp only [Value.cells, List.cons.injEq, and_true] at e2
  obtain rfl := e2.symm
  obtain ⟨x3, q3, c3, rfl⟩ := okWide_slice Try.underlying22 (hval 3 22 v3 rfl rfl)
  obtain ⟨fu3, fh3⟩ := h3
  obtain ⟨s3, Z3, l3, e3, H3, N3⟩ := open_int_cells2 Try.underlying22 Try.underlying3 (by kernel_rfl) fh3
  simp only [Value.cells, List.cons.injEq, and_true] at e3
  obtain rfl := e3.symm
  clear hA0 hval0
  simp only [List.append_nil] at hW'
  refine (walk W _ Z0 l0 H0 N0 _ Z1 l1 H1 N1 _ Z2 l2 H2 N2 _ Z3 l3 H3 N3).mono fun e W' ⟨he, hb⟩ => ?_
  subst he
  exact ⟨_, rfl, kept_post (pa := p) hW' (fun _ _ _ => (trodAll_cons_mk (shut_bool Try.underlying4 _) trodAll_mk0)) (fun sp hsp => trodAll_stays laid hb (by rw [Try.params3]; decide +kernel) hAk (fun x hx => hW'.lt x hx) hsp) (fun _ => rfl) hb (ok_one (by kernel_rfl) rfl (okWide_bool_mk Try.underlying4 _))⟩

theorem over : Rows.merklePartialRow.holds Try.pinned (OpenSpec.ofChange Rows.merklePartialSpec) :=
  OpenClaim.holds_of_wide 3 Try.f3 rfl rfl rfl rfl rfl rfl rfl ⟨rfl, rfl, rfl, rfl, rfl⟩ rfl rfl rfl rfl rfl (by kernel_rfl) Try.func3 (by kernel_rfl)
    (of_decide_eq_true (by kernel_rfl)) (by unfold Func.isWrapper; first | (rw [if_pos (by decide +kernel)]; kernel_rfl) | (rw [if_neg (by decide +kernel)]; exact ⟨rfl, rfl⟩))
    (fun os started H enc _ => lifted os started H enc)

theorem proved : Rows.MerklePartialSaid :=
  over
#print axioms proved
end Go.Proofs.Ytknjdkgemkmoeaa.merklePartial
