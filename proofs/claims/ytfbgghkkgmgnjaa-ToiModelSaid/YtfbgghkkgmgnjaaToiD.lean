/- Package toi: the pair of bodies that the laws are tried with. -/
import Derived.Test.YtfbgghkkgmgnjaaToiC
import Derived.Test.YtfbgghkkgmgnjaaOpen
import Derived.OwnWalk
namespace Go.Proofs.Ytfbgghkkgmgnjaa
open Go.ChangeShapes Go.WideShapes Go.ChangeAt Go.RowKit Go.Shelf
open Fxm
set_option linter.unusedSimpArgs false
set_option linter.unusedVariables false

theorem hcarry {W W' : World} (hb : Below W.heap.size W W') {k : Nat} {o : Obj} (h : W.heap[k]? = some o) : W'.heap[k]? = some o := (hb.block _ (Array.getElem?_eq_some_iff.1 h).1).trans h
theorem oset {W : World} {k : Nat} {o : Obj} {p : Addr} {v : Value} (h : W.heap[k]? = some o) (hn : k ≠ p.block) : (W.setCell p v).heap[k]? = some o := (Below.heap_setCell _ _ _ _ hn).trans h
theorem cset {W : World} {a p : Addr} {u v : Value} (h : W.cell? a = some u) (hn : a.block ≠ p.block) : (W.setCell p v).cell? a = some u := (World.cell?_of_block (w := W) (Below.heap_setCell _ _ _ _ hn)).trans h
theorem oset2 {W : World} {k : Nat} {o : Obj} (B i j : Nat) (x y : Value) (h : W.heap[k]? = some o) (hn : k ≠ B) : ((W.setCell ⟨B, i, none⟩ x).setCell ⟨B, j, none⟩ y).heap[k]? = some o := oset (oset h hn) hn
theorem cset2 {W : World} {a : Addr} {u : Value} (B i j : Nat) (x y : Value) (h : W.cell? a = some u) (hn : a.block ≠ B) : ((W.setCell ⟨B, i, none⟩ x).setCell ⟨B, j, none⟩ y).cell? a = some u := cset (cset h hn) hn
theorem body_pos {W : World} {B : Nat} {s : Sp} {p0 p1 v0 v1 : Int} (h : W.heap[B]? = some (bodyO s p0 p1 v0 v1)) (x y : Int) : ((W.setCell ⟨B, 2, none⟩ (.int .i64 x)).setCell ⟨B, 3, none⟩ (.int .i64 y)).heap[B]? = some (bodyO s x y v0 v1) := by
  have := heap_setCell (heap_setCell h 2 (.int .i64 x)) 3 (.int .i64 y)
  simpa [bodyO] using this
theorem body_vel {W : World} {B : Nat} {s : Sp} {p0 p1 v0 v1 : Int} (h : W.heap[B]? = some (bodyO s p0 p1 v0 v1)) (x y : Int) : ((W.setCell ⟨B, 4, none⟩ (.int .i64 x)).setCell ⟨B, 5, none⟩ (.int .i64 y)).heap[B]? = some (bodyO s p0 p1 x y) := by
  have := heap_setCell (heap_setCell h 4 (.int .i64 x)) 5 (.int .i64 y)
  simpa [bodyO] using this
theorem body_frozen {W : World} {B : Nat} {s : Sp} {p0 p1 v0 v1 : Int} (h : W.heap[B]? = some (bodyO s p0 p1 v0 v1)) (i : Nat) : W.frozen? ⟨B, i, none⟩ = false := heap_frozen h i
theorem Sh.off {W : World} {A : Nat} {s t : Sp} {p0 p1 v0 v1 : Int} (h : Sh W t) (hA : W.heap[A]? = some (bodyO s p0 p1 v0 v1)) : t.on (fun r => r ≠ A) := by
  cases t with
  | c r => trivial
  | p g cap vs =>
    rintro rfl
    have hl := h.2.lo
    have h1 := (h.1.at (i := 0) (by omega)).2
    have h2 := (body_cells hA).2.1
    rw [show 0 * 2 + 1 = 1 from rfl, h2] at h1
    cases h1
theorem set_sh {W : World} {A : Nat} {s t : Sp} {p0 p1 v0 v1 : Int} (h : Sh W t) (hA : W.heap[A]? = some (bodyO s p0 p1 v0 v1)) (i j : Nat) (x y : Value) : Sh ((W.setCell ⟨A, i, none⟩ x).setCell ⟨A, j, none⟩ y) t :=
  h.keep (S := fun r => r ≠ A) ((KeepOn.setCell (S := fun r => r ≠ A) (p := ⟨A, i, none⟩) x (fun h => h rfl)).trans (KeepOn.setCell (S := fun r => r ≠ A) (p := ⟨A, j, none⟩) y (fun h => h rfl))) (h.off hA)
theorem on_and {s : Sp} {S T : Nat → Prop} (h : s.on S) (k : s.on T) : s.on (fun r => S r ∧ T r) := by
  cases s with
  | c r => trivial
  | p g cap vs => exact ⟨h, k⟩
theorem keep_step {S : Nat → Prop} {X Y : World} {p : Addr} (v : Value) (h : KeepOn S X Y) (hn : ¬ S p.block) : KeepOn S X (Y.setCell p v) := h.trans (KeepOn.setCell v hn)
theorem keep_drew {S : Nat → Prop} {X Y : World} (h : KeepOn S X Y) : KeepOn S X Y.drew := h.trans (KeepOn.below ((Below.refl _ Y).drew))
theorem infoInt : (Try.prog.info? 3).map (fun i => (i.zero, i.size, i.bytes)) = some (some (.int .i64 0), 1, 8) := by kernel_rfl
theorem cells_new (w : World) (cs : List Value) (t : TypeId) (n : Nat) (hn : n = w.heap.size) : ∀ j u, cs[j]? = some u → (w.alloc (.cells cs.toArray t)).cell? ((⟨n, 0, none⟩ : Addr).add j) = some u := fun j u hu => by
  subst hn
  exact World.news_of_block (World.alloc_heap_new w (.cells cs.toArray t)) j u (by simpa using hu)
theorem int_cells {w : World} {base n : Nat} {v : Value} {zs : List Int} (h : w.ownsRow base 3 1 v n (zs.map (Value.int .i64))) (hn : 0 < n) :
    ∃ g cap, v = .slice (some ⟨g, 0, none⟩) n cap ∧ n ≤ cap ∧ cap ≤ maxLen ∧ base ≤ g ∧ g < w.heap.size ∧ ∀ i z, zs[i]? = some z → w.cell? ⟨g, i, none⟩ = some (.int .i64 z) := by
  obtain ⟨g, cap, rfl⟩ := owned_shape h hn
  have hl := World.ownsRow.lt h g rfl
  obtain ⟨h1, h2⟩ := h
  rcases h2 with ⟨h3, h4⟩ | ⟨g', cap', cur, h3, h4, h5, h6, h7, h8, h9⟩
  · omega
  · simp only [Value.slice.injEq, Option.some.injEq, Addr.mk.injEq, and_true] at h3
    obtain ⟨rfl, -, rfl⟩ := h3
    refine ⟨g, cap, rfl, h6, h7, hl.1, hl.2, fun i z hz => ?_⟩
    rw [heap_cell h5]
    have hu : (zs.map (Value.int .i64))[i]? = some (.int .i64 z) := by simp [hz]
    rw [← h9, List.getElem?_take] at hu
    split at hu
    · simpa using hu
    · cases hu
/-- Eight numbers below 10^9. -/
def Nums (zs : List Int) : Prop := ∀ z ∈ zs, 0 ≤ z ∧ z < 1000000000
theorem nums_bd {z : Int} (h : 0 ≤ z ∧ z < 1000000000) : (Lit.int .i64 z).wf = true := by simp [Lit.wf, IntKind.min, IntKind.max, IntKind.signed, IntKind.bits]; omega

/-- A pair of bodies, as the generator makes them. -/
structure PairOk (p0 p1 v0 v1 q0 q1 u0 u1 : Int) : Prop where
  p0 : -500000 ≤ p0 ∧ p0 ≤ 500000
  p1 : -500000 ≤ p1 ∧ p1 ≤ 500000
  v0 : Ve v0
  v1 : Ve v1
  q0 : -640000 ≤ q0 ∧ q0 ≤ 640000
  q1 : -640000 ≤ q1 ∧ q1 ≤ 640000
  u0 : Ve u0
  u1 : Ve u1
theorem clamp_ve (n : Int) : Ve (clampV n (-16384) 16384) := by unfold Ve clampV; split <;> (try split) <;> omega
def PairPost (e : Ending) (w' : World) : Prop := ∃ (s t : Sp) (p0 p1 v0 v1 q0 q1 u0 u1 : Int), PairOk p0 p1 v0 v1 q0 q1 u0 u1 ∧ e = .returned (.tuple #[.agg #[.int .i64 s.r, .slice s.a s.n s.cap, .int .i64 (p0), .int .i64 (p1), .int .i64 (v0), .int .i64 (v1)], .agg #[.int .i64 t.r, .slice t.a t.n t.cap, .int .i64 (q0), .int .i64 (q1), .int .i64 (u0), .int .i64 (u1)]]) ∧ Sh w' s ∧ Sh w' t
def zeroO : Obj := .cells #[.int .i64 0, .slice none 0 0, .int .i64 0, .int .i64 0, .int .i64 0, .int .i64 0] 50

set_option maxHeartbeats 8000000 in
set_option maxRecDepth 100000 in
theorem pair_any (v : Value) (Z : Nat → Int) (l : Nat) (w : World) (h : IntsAt w v 1 Z l) :
    Calls Try.prog 27 #[v] w fun e w' => PairPost e w' ∧ Below w.heap.size w w' := by
  obtain ⟨a, cap, rfl, hl, hm, hZ, hc⟩ := h
  obtain ⟨i0, hi0, hz0, hz1, hz2⟩ := info_parts infoInt
  have hi0' := Lib.hid hi0; clear hi0
  have hz0' := Lib.hid hz0; clear hz0
  have hz1' := Lib.hid hz1; clear hz1
  have hz2' := Lib.hid hz2; clear hz2
  unfold maxLen at hm
  have hZ' := Lib.hid hZ; clear hZ
  have hc' := Lib.hid hc; clear hc
  go_enter Try.func27, Try.ntmps27
  go_upto_region 1 with fail
  have hB := below_step (alloc_below w zeroO) (alloc_below _ zeroO)
  have hR := (Below.heap_alloc (w.alloc zeroO) zeroO w.heap.size (by simp)).trans (World.alloc_heap_new w zeroO)
  have hS := World.alloc_heap_new (w.alloc zeroO) zeroO
  rw [World.size_alloc] at hS
  obtain ⟨V, hV⟩ : ∃ V, V = (w.alloc zeroO).alloc zeroO := ⟨_, rfl⟩
  have hzV : V.heap.size = w.heap.size + 2 := by rw [hV]; simp
  rw [← hV] at hB hR hS
  rw [show ((w.alloc (.cells #[.int .i64 0, .slice none 0 0, .int .i64 0, .int .i64 0, .int .i64 0, .int .i64 0] 50)).alloc (.cells #[.int .i64 0, .slice none 0 0, .int .i64 0, .int .i64 0, .int .i64 0, .int .i64 0] 50)) = V from hV.symm]
  clear hV
  go_wp2_with fail
  go_loopw [4, 5] (fun v i wr => ∃ (k : Nat) (zs : List Int), k ≤ 8 ∧ i = .int .i64 k ∧ zs.length = k ∧ Nums zs ∧ wr.ownsRow V.heap.size 3 1 v k (zs.map (Value.int .i64)) ∧ Below V.heap.size V wr) (fun _ i _ => 8 - (intOf i).toNat)
  case atStart => exact ⟨0, [], by omega, rfl, rfl, fun z hz => (by simp at hz), World.ownsRow_nil _ _ _ _, Below.refl _ _⟩
  case round =>
    obtain ⟨k, zs, hk, rfl, hzl, hzs, hown, hb⟩ := hrel
    have hzs' := Lib.hid (And.intro hzl hzs)
    clear hzs hzl
    by_cases hlt : k < 8
    · have hki : (k : Int) < 8 := by omega
      have hws := hb.size
      by_cases hkl : k < l
      · obtain ⟨g, off, rfl, hcc⟩ := hc'.out.resolve_left (by omega)
        have c0 := carry hb (carry hB (hcc k (by omega)))
        obtain ⟨b1, b2⟩ := wf64 (hZ'.out k)
        generalize Z k = z at *
        have hkl' : (k : Int) < (l : Int) := by omega
        go_wp2_with fail
        refine (aroundx_any z 1000000000 _ b1 b2 (by omega)).mono ?_
        rintro e w' ⟨⟨x, x1, x2, rfl⟩, rfl⟩
        clear c0 b1 b2
        go_wp2_with (at_builtin; refine wpList_append_own _ rfl _ _ 48 rfl V.heap.size 3 i0 _ 1 8 Try.underlying48 hi0'.out hz0'.out hz1'.out hz2'.out rfl (by decide) _ _ _ rfl (World.ownsRow.alloc hown _) ⟨wr.heap.size, 0, none⟩ 1 1 [.int .i64 x] rfl rfl (cells_new _ _ _ _ (by simp)) (by simp [Value.oneCell']) (by unfold maxLen; omega) (by omega) (by simp; omega) ?_; intro v' w2 hown2 hg2 _)
        have hB2 := (below_step hb (alloc_below wr _)).grown hg2 (by simp; omega) (fun j hj => (World.ownsRow.lt hown j hj).1)
        go_wp2_with fail
        go_roundw
        case rel => exact ⟨k + 1, zs ++ [x], by omega, by go_num, by rw [List.length_append, hzs'.out.1]; rfl, (fun z hz => by
          rcases List.mem_append.1 hz with h | h
          · exact hzs'.out.2 z h
          · simp only [List.mem_singleton] at h; subst h; exact ⟨x1, x2⟩), by rw [List.map_append]; exact hown2, hB2⟩
        case measure => simp [intOf]; omega
      · have hkl' : ¬ (k : Int) < (l : Int) := by omega
        have x1 : (0 : Int) ≤ 0 := by omega
        have x2 : (0 : Int) < 1000000000 := by omega
        obtain ⟨x, hx⟩ : ∃ x : Int, x = 0 := ⟨_, rfl⟩
        rw [← hx] at x1 x2
        subst hx
        go_wp2_with (at_builtin; refine wpList_append_own _ rfl _ _ 48 rfl V.heap.size 3 i0 _ 1 8 Try.underlying48 hi0'.out hz0'.out hz1'.out hz2'.out rfl (by decide) _ _ _ rfl (World.ownsRow.alloc hown _) ⟨wr.heap.size, 0, none⟩ 1 1 [.int .i64 0] rfl rfl (cells_new _ _ _ _ (by simp)) (by simp [Value.oneCell']) (by unfold maxLen; omega) (by omega) (by simp; omega) ?_; intro v' w2 hown2 hg2 _)
        have hB2 := (below_step hb (alloc_below wr _)).grown hg2 (by simp; omega) (fun j hj => (World.ownsRow.lt hown j hj).1)
        go_wp2_with fail
        go_roundw
        case rel => exact ⟨k + 1, zs ++ [0], by omega, by go_num, by rw [List.length_append, hzs'.out.1]; rfl, (fun z hz => by
          rcases List.mem_append.1 hz with h | h
          · exact hzs'.out.2 z h
          · simp only [List.mem_singleton] at h; subst h; exact ⟨x1, x2⟩), by rw [List.map_append]; exact hown2, hB2⟩
        case measure => simp [intOf]; omega
    · obtain rfl : k = 8 := by omega
      obtain ⟨g, kc, rfl, hkc, hkm, hbg, hgl, hcell⟩ := int_cells hown (by omega)
      obtain ⟨z0, z1, z2, z3, z4, z5, z6, z7, rfl⟩ := list8 hzs'.out.1
      have n0 := hzs'.out.2 z0 (by simp)
      have n1 := hzs'.out.2 z1 (by simp)
      have n2 := hzs'.out.2 z2 (by simp)
      have n3 := hzs'.out.2 z3 (by simp)
      have n4 := hzs'.out.2 z4 (by simp)
      have n5 := hzs'.out.2 z5 (by simp)
      have n6 := hzs'.out.2 z6 (by simp)
      have n7 := hzs'.out.2 z7 (by simp)
      have c0 := hcell 0 z0 rfl
      have c1 := hcell 1 z1 rfl
      have c2 := hcell 2 z2 rfl
      have c3 := hcell 3 z3 rfl
      have c4 := hcell 4 z4 rfl
      have c5 := hcell 5 z5 rfl
      have c6 := hcell 6 z6 rfl
      have c7 := hcell 7 z7 rfl
      replace hR := hcarry (hb) hR
      replace hS := hcarry (hb) hS
      replace hB := below_step hB hb
      have hnn := Lib.hid (And.intro n0 n1)
      clear hcell hown hb hzs' hlt hi0' hz0' hz1' hz2' hZ' hc' n0 n1 hk
      go_wp2_with fail
      refine (shapes_any z0 _ (nums_bd hnn.out.1)).mono ?_
      rintro e u1 ⟨s, rfl, hs, hb1⟩
      replace c1 := carry (hb1) c1
      replace c2 := carry (hb1) c2
      replace c3 := carry (hb1) c3
      replace c4 := carry (hb1) c4
      replace c5 := carry (hb1) c5
      replace c6 := carry (hb1) c6
      replace c7 := carry (hb1) c7
      replace hR := hcarry (hb1) hR
      replace hS := hcarry (hb1) hS
      replace hB := below_step hB hb1
      have hgA : g < u1.heap.size := Nat.lt_of_lt_of_le hgl hb1.size
      have hRA : w.heap.size + 1 < u1.heap.size := by have := (Array.getElem?_eq_some_iff.1 hS).1; exact this
      clear hb1 hgl c0
      go_upto_region 10 with fail
      have hA := World.alloc_heap_new u1 (bodyO s 0 0 0 0)
      have hb1 := alloc_below u1 (bodyO s 0 0 0 0)
      obtain ⟨V1, hV1⟩ : ∃ V1, V1 = u1.alloc (bodyO s 0 0 0 0) := ⟨_, rfl⟩
      rw [← hV1] at hA hb1
      rw [show u1.alloc (.cells #[.int .i64 s.r, .slice s.a s.n s.cap, .int .i64 (0), .int .i64 (0), .int .i64 (0), .int .i64 (0)] 50) = V1 from hV1.symm]
      replace c1 := carry (hb1) c1
      replace c2 := carry (hb1) c2
      replace c3 := carry (hb1) c3
      replace c4 := carry (hb1) c4
      replace c5 := carry (hb1) c5
      replace c6 := carry (hb1) c6
      replace c7 := carry (hb1) c7
      replace hR := hcarry (hb1) hR
      replace hS := hcarry (hb1) hS
      replace hB := below_step hB hb1
      replace hs := hs.carry hb1
      clear hb1 hV1
      generalize u1.heap.size = A at *
      go_wp2_with fail
      refine (shapes_any z1 _ (nums_bd hnn.out.2)).mono ?_
      rintro e u2 ⟨t, rfl, ht, hb1⟩
      replace c2 := carry (hb1) c2
      replace c3 := carry (hb1) c3
      replace c4 := carry (hb1) c4
      replace c5 := carry (hb1) c5
      replace c6 := carry (hb1) c6
      replace c7 := carry (hb1) c7
      replace hR := hcarry (hb1) hR
      replace hS := hcarry (hb1) hS
      replace hA := hcarry (hb1) hA
      replace hB := below_step hB hb1
      replace hs := hs.carry hb1
      have hAB : A < u2.heap.size := (Array.getElem?_eq_some_iff.1 hA).1
      clear hb1 c1
      go_upto_region 11 with fail
      have hBo := World.alloc_heap_new u2 (bodyO t 0 0 0 0)
      have hb1 := alloc_below u2 (bodyO t 0 0 0 0)
      obtain ⟨V2, hV2⟩ : ∃ V2, V2 = u2.alloc (bodyO t 0 0 0 0) := ⟨_, rfl⟩
      rw [← hV2] at hBo hb1
      rw [show u2.alloc (.cells #[.int .i64 t.r, .slice t.a t.n t.cap, .int .i64 (0), .int .i64 (0), .int .i64 (0), .int .i64 (0)] 50) = V2 from hV2.symm]
      replace c2 := carry (hb1) c2
      replace c3 := carry (hb1) c3
      replace c4 := carry (hb1) c4
      replace c5 := carry (hb1) c5
      replace c6 := carry (hb1) c6
      replace c7 := carry (hb1) c7
      replace hR := hcarry (hb1) hR
      replace hS := hcarry (hb1) hS
      replace hA := hcarry (hb1) hA
      replace hB := below_step hB hb1
      replace hs := hs.carry hb1
      replace ht := ht.carry hb1
      clear hb1 hV2
      generalize u2.heap.size = Bb at *
      have k1 := fun w (h : Sh w s) => h.refBounds 0 0 bp_zero' bp_zero'
      have k2 := fun w (h : Sh w t) => h.refBounds 0 0 bp_zero' bp_zero'
      have d1 := hs.bd
      have d2 := ht.bd
      simp only [Int.zero_add] at k1 k2
      generalize s.xa = sxa at *
      generalize s.ya = sya at *
      generalize s.xb = sxb at *
      generalize s.yb = syb at *
      generalize t.xa = txa at *
      generalize t.ya = tya at *
      generalize t.xb = txb at *
      generalize t.yb = tyb at *
      have hk12 := Lib.hid (And.intro k1 k2)
      have hsh := Lib.hid (And.intro hs ht)
      clear k1 k2 hs ht hnn
      have hA' := body_cells hA
      obtain ⟨a0, a1, -, -, -, -⟩ := hA'
      go_wp2_with fail
      refine (hk12.out.1 _ hsh.out.1).mono ?_
      rintro e u3 ⟨rfl, hb1⟩
      replace c2 := carry (hb1) c2
      replace c3 := carry (hb1) c3
      replace c4 := carry (hb1) c4
      replace c5 := carry (hb1) c5
      replace c6 := carry (hb1) c6
      replace c7 := carry (hb1) c7
      replace hR := hcarry (hb1) hR
      replace hS := hcarry (hb1) hS
      replace hA := hcarry (hb1) hA
      replace hBo := hcarry (hb1) hBo
      replace hB := below_step hB hb1
      replace hsh := Lib.hid (And.intro (hsh.out.1.carry hb1) (hsh.out.2.carry hb1))
      clear hb1 a0 a1
      go_upto_region 12 with fail
      have x0 := World.cell?_alloc_new (w := u3) #[.int .i64 sxa, .int .i64 sya, .int .i64 sxb, .int .i64 syb] 41 0
      have x1 := World.cell?_alloc_new (w := u3) #[.int .i64 sxa, .int .i64 sya, .int .i64 sxb, .int .i64 syb] 41 1
      have x2 := World.cell?_alloc_new (w := u3) #[.int .i64 sxa, .int .i64 sya, .int .i64 sxb, .int .i64 syb] 41 2
      have x3 := World.cell?_alloc_new (w := u3) #[.int .i64 sxa, .int .i64 sya, .int .i64 sxb, .int .i64 syb] 41 3
      have hb1 := alloc_below u3 (.cells #[.int .i64 sxa, .int .i64 sya, .int .i64 sxb, .int .i64 syb] 41)
      generalize u3.alloc (.cells #[.int .i64 sxa, .int .i64 sya, .int .i64 sxb, .int .i64 syb] 41) = V3 at *
      simp only [List.getElem?_toArray, List.getElem?_cons_zero, List.getElem?_cons_succ] at x0 x1 x2 x3
      replace c2 := carry (hb1) c2
      replace c3 := carry (hb1) c3
      replace c4 := carry (hb1) c4
      replace c5 := carry (hb1) c5
      replace c6 := carry (hb1) c6
      replace c7 := carry (hb1) c7
      replace hR := hcarry (hb1) hR
      replace hS := hcarry (hb1) hS
      replace hA := hcarry (hb1) hA
      replace hBo := hcarry (hb1) hBo
      replace hB := below_step hB hb1
      replace hsh := Lib.hid (And.intro (hsh.out.1.carry hb1) (hsh.out.2.carry hb1))
      clear hb1
      have hB' := body_cells hBo
      obtain ⟨b0, b1, -, -, -, -⟩ := hB'
      go_wp2_with fail
      refine (hk12.out.2 _ hsh.out.2).mono ?_
      rintro e u4 ⟨rfl, hb1⟩
      replace c2 := carry (hb1) c2
      replace c3 := carry (hb1) c3
      replace c4 := carry (hb1) c4
      replace c5 := carry (hb1) c5
      replace c6 := carry (hb1) c6
      replace c7 := carry (hb1) c7
      replace x0 := carry (hb1) x0
      replace x1 := carry (hb1) x1
      replace x2 := carry (hb1) x2
      replace x3 := carry (hb1) x3
      replace hR := hcarry (hb1) hR
      replace hS := hcarry (hb1) hS
      replace hA := hcarry (hb1) hA
      replace hBo := hcarry (hb1) hBo
      replace hB := below_step hB hb1
      replace hsh := Lib.hid (And.intro (hsh.out.1.carry hb1) (hsh.out.2.carry hb1))
      clear hb1 b0 b1 hk12
      go_upto_region 13 with fail
      have y0 := World.cell?_alloc_new (w := u4) #[.int .i64 txa, .int .i64 tya, .int .i64 txb, .int .i64 tyb] 41 0
      have y1 := World.cell?_alloc_new (w := u4) #[.int .i64 txa, .int .i64 tya, .int .i64 txb, .int .i64 tyb] 41 1
      have y2 := World.cell?_alloc_new (w := u4) #[.int .i64 txa, .int .i64 tya, .int .i64 txb, .int .i64 tyb] 41 2
      have y3 := World.cell?_alloc_new (w := u4) #[.int .i64 txa, .int .i64 tya, .int .i64 txb, .int .i64 tyb] 41 3
      have hb1 := alloc_below u4 (.cells #[.int .i64 txa, .int .i64 tya, .int .i64 txb, .int .i64 tyb] 41)
      generalize u4.alloc (.cells #[.int .i64 txa, .int .i64 tya, .int .i64 txb, .int .i64 tyb] 41) = V4 at *
      simp only [List.getElem?_toArray, List.getElem?_cons_zero, List.getElem?_cons_succ] at y0 y1 y2 y3
      replace c2 := carry (hb1) c2
      replace c3 := carry (hb1) c3
      replace c4 := carry (hb1) c4
      replace c5 := carry (hb1) c5
      replace c6 := carry (hb1) c6
      replace c7 := carry (hb1) c7
      replace x0 := carry (hb1) x0
      replace x1 := carry (hb1) x1
      replace x2 := carry (hb1) x2
      replace x3 := carry (hb1) x3
      replace hR := hcarry (hb1) hR
      replace hS := hcarry (hb1) hS
      replace hA := hcarry (hb1) hA
      replace hBo := hcarry (hb1) hBo
      replace hB := below_step hB hb1
      replace hsh := Lib.hid (And.intro (hsh.out.1.carry hb1) (hsh.out.2.carry hb1))
      clear hb1
      go_upto_region 15 with fail
      have hw1 : 0 ≤ sxb - sxa + txb - txa ∧ sxb - sxa + txb - txa ≤ 131072 := by omega
      have hw2 : 0 ≤ syb - sya + tyb - tya ∧ syb - sya + tyb - tya ≤ 131072 := by omega
      generalize sxb - sxa + txb - txa = Ww at *
      generalize syb - sya + tyb - tya = Wh at *
      clear x0 x1 x2 x3 y0 y1 y2 y3 d1 d2
      have q1 := fun w => bound_any z2 (Ww + 5) w (by omega) (by omega) (by omega) (by omega)
      have q2 := fun w => bound_any z3 (Wh + 5) w (by omega) (by omega) (by omega) (by omega)
      have m1 := arnd_bd z2 (m := 2 * (Ww + 5) + 1) (by omega)
      have m2 := arnd_bd z3 (m := 2 * (Wh + 5) + 1) (by omega)
      obtain ⟨dX, hdX⟩ : ∃ x, x = arnd z2 (2 * (Ww + 5) + 1) - (Ww + 5) := ⟨_, rfl⟩
      obtain ⟨dY, hdY⟩ : ∃ x, x = arnd z3 (2 * (Wh + 5) + 1) - (Wh + 5) := ⟨_, rfl⟩
      rw [← hdX] at q1
      rw [← hdY] at q2
      have bX : -131077 ≤ dX ∧ dX ≤ 131077 := by omega
      have bY : -131077 ≤ dY ∧ dY ≤ 131077 := by omega
      have hq := Lib.hid (And.intro q1 q2)
      clear q1 q2 m1 m2 hdX hdY
      refine wp_region_alloc_last 13 (some 13) (.cells #[.int .i64 0, .int .i64 0] 28) (by kernel_rfl) (by kernel_rfl) ⟨_, rfl, rfl, fun _ => rfl, fun _ _ => by kernel_rfl⟩ ?_
      apply Exists.intro
      refine ⟨fun W hK E hE => ?_, ?_⟩
      · skip
        have g_c2 := fun x => carry ((hK.below x)) c2
        have g_c3 := fun x => carry ((hK.below x)) c3
        simp only [List.take_succ_cons, List.take_zero]
        repeat (go_big_quiet_step ((first | (go_at_call 35; with_reducible exact met_same (hq.out.1 _)) | (go_at_call 35; with_reducible exact met_same (hq.out.2 _)))))
        refine wpQuiet_nil ?_
        exact hE
      intro B wq hBB hbq hheap
      simp only [List.drop_succ_cons, List.drop_zero, Act.put, List.setIfInBounds_toArray, List.set_cons_zero, List.set_cons_succ]
      have hBV : Bb < V4.heap.size := (Array.getElem?_eq_some_iff.1 hBo).1
      have hstep := (hbq.setCell (p := ⟨B, 0, none⟩) hBB (.int .i64 dX)).setCell (p := ⟨B, 1, none⟩) hBB (.int .i64 dY)
      have hD := heap_setCell (heap_setCell hheap 0 (.int .i64 dX)) 1 (.int .i64 dY)
      simp only [List.setIfInBounds_toArray, List.set_cons_zero, List.set_cons_succ] at hD
      have hcB := heap_cell hheap
      have hfB := heap_frozen hheap
      go_upto_region 16 with fail
      generalize (wq.setCell ⟨B, 0, none⟩ (.int .i64 dX)).setCell ⟨B, 1, none⟩ (.int .i64 dY) = V5 at *
      replace c4 := carry (hstep) c4
      replace c5 := carry (hstep) c5
      replace c6 := carry (hstep) c6
      replace c7 := carry (hstep) c7
      replace hR := hcarry (hstep) hR
      replace hS := hcarry (hstep) hS
      replace hA := hcarry (hstep) hA
      replace hBo := hcarry (hstep) hBo
      replace hB := below_step hB hstep
      replace hsh := Lib.hid (And.intro (hsh.out.1.carry hstep) (hsh.out.2.carry hstep))
      have hBD : Bb < B := by omega
      clear hcB hfB hheap hbq hstep hBB c2 c3 hBV n2 n3 hq wq
      have q1 := fun w => bound_any z4 500000 w (by omega) (by omega) (by omega) (by omega)
      have q2 := fun w => bound_any (z4 / 7) 500000 w (by omega) (by omega) (by omega) (by omega)
      have m1 := arnd_bd z4 (m := 2 * 500000 + 1) (by omega)
      have m2 := arnd_bd (z4 / 7) (m := 2 * 500000 + 1) (by omega)
      obtain ⟨p0, hp0⟩ : ∃ x, x = arnd z4 (2 * 500000 + 1) - 500000 := ⟨_, rfl⟩
      obtain ⟨p1, hp1⟩ : ∃ x, x = arnd (z4 / 7) (2 * 500000 + 1) - 500000 := ⟨_, rfl⟩
      rw [← hp0] at q1
      rw [← hp1] at q2
      have bp0 : -500000 ≤ p0 ∧ p0 ≤ 500000 := by omega
      have bp1 : -500000 ≤ p1 ∧ p1 ≤ 500000 := by omega
      have hq := Lib.hid (And.intro q1 q2)
      clear q1 q2 m1 m2 hp0 hp1
      have hlA : A < V5.heap.size := (Array.getElem?_eq_some_iff.1 hA).1
      refine wp_region_tail 11 (by kernel_rfl) (by kernel_rfl) ?_
      intro W hK
      have g_c4 := fun x => carry ((hK.below x)) c4
      have g_c5 := fun x => carry ((hK.below x)) c5
      have g_c6 := fun x => carry ((hK.below x)) c6
      have g_c7 := fun x => carry ((hK.below x)) c7
      simp only [List.take_succ_cons, List.take_zero, List.drop_succ_cons, List.drop_zero]
      repeat (go_big_quiet_step ((first | (go_at_call 35; with_reducible exact met_same (hq.out.1 _)) | (go_at_call 35; with_reducible exact met_same (hq.out.2 _)))))
      refine wpQuiet_nil ?_
      intro wq hw'
      have hbq := kept_in hK hw'
      clear g_c4 g_c5 g_c6 g_c7
      clear hw' hK W
      replace c4 := carry (hbq) c4
      replace c5 := carry (hbq) c5
      replace c6 := carry (hbq) c6
      replace c7 := carry (hbq) c7
      replace hR := hcarry (hbq) hR
      replace hS := hcarry (hbq) hS
      replace hA := hcarry (hbq) hA
      replace hBo := hcarry (hbq) hBo
      replace hD := hcarry (hbq) hD
      replace hB := below_step hB hbq
      replace hsh := Lib.hid (And.intro (hsh.out.1.carry hbq) (hsh.out.2.carry hbq))
      obtain ⟨-, -, r2, r3, -, -⟩ := body_cells hA
      have f2 := body_frozen hA 2
      have f3 := body_frozen hA 3
      go_upto_region 17 with fail
      have hshq := Lib.hid (And.intro (set_sh hsh.out.1 hA 2 3 (.int .i64 p0) (.int .i64 p1)) (set_sh hsh.out.2 hA 2 3 (.int .i64 p0) (.int .i64 p1)))
      replace hA := body_pos hA p0 p1
      replace c5 := cset2 A 2 3 (.int .i64 p0) (.int .i64 p1) c5 (by simp only; omega)
      replace c6 := cset2 A 2 3 (.int .i64 p0) (.int .i64 p1) c6 (by simp only; omega)
      replace c7 := cset2 A 2 3 (.int .i64 p0) (.int .i64 p1) c7 (by simp only; omega)
      replace hR := oset2 A 2 3 (.int .i64 p0) (.int .i64 p1) hR (by first | omega | (simp only; omega))
      replace hS := oset2 A 2 3 (.int .i64 p0) (.int .i64 p1) hS (by first | omega | (simp only; omega))
      replace hBo := oset2 A 2 3 (.int .i64 p0) (.int .i64 p1) hBo (by first | omega | (simp only; omega))
      replace hD := oset2 A 2 3 (.int .i64 p0) (.int .i64 p1) hD (by first | omega | (simp only; omega))
      have hws := hB.size
      replace hB := (hB.setCell (p := ⟨A, 2, none⟩) (by simp only; omega) (.int .i64 p0)).setCell (p := ⟨A, 3, none⟩) (by simp only; omega) (.int .i64 p1)
      have hgl := Nat.lt_of_lt_of_le hgA (Nat.le_of_lt hlA)
      clear r2 r3 f2 f3 c4 hq n4 hsh
      generalize (wq.setCell ⟨A, 2, none⟩ (.int .i64 p0)).setCell ⟨A, 3, none⟩ (.int .i64 p1) = V6 at *
      obtain ⟨-, -, sp0, sp1, -, -⟩ := body_cells hA
      have e0 := heap_cell hD 0
      have e1 := heap_cell hD 1
      simp only [List.getElem?_toArray, List.getElem?_cons_zero, List.getElem?_cons_succ] at e0 e1
      have kA := Lib.hid (fun w => refAdd_any p0 p1 dX dY w (by unfold Bd; omega) (by unfold Bd; omega) (by unfold Bd; omega) (by unfold Bd; omega))
      have bq0 : -640000 ≤ p0 + dX ∧ p0 + dX ≤ 640000 := by omega
      have bq1 : -640000 ≤ p1 + dY ∧ p1 + dY ≤ 640000 := by omega
      generalize p0 + dX = q0 at *
      generalize p1 + dY = q1 at *
      go_wp2_with fail
      refine (kA.out _).mono ?_
      rintro e u5 ⟨rfl, hb1⟩
      replace c5 := carry (hb1) c5
      replace c6 := carry (hb1) c6
      replace c7 := carry (hb1) c7
      replace hR := hcarry (hb1) hR
      replace hS := hcarry (hb1) hS
      replace hA := hcarry (hb1) hA
      replace hBo := hcarry (hb1) hBo
      replace hD := hcarry (hb1) hD
      replace hB := below_step hB hb1
      replace hshq := Lib.hid (And.intro (hshq.out.1.carry hb1) (hshq.out.2.carry hb1))
      obtain ⟨-, -, r2, r3, -, -⟩ := body_cells hBo
      have f2 := body_frozen hBo 2
      have f3 := body_frozen hBo 3
      clear hb1 sp0 sp1 e0 e1 kA
      go_upto_region 18 with fail
      have hsh := Lib.hid (And.intro (set_sh hshq.out.1 hBo 2 3 (.int .i64 q0) (.int .i64 q1)) (set_sh hshq.out.2 hBo 2 3 (.int .i64 q0) (.int .i64 q1)))
      replace hBo := body_pos hBo q0 q1
      replace c5 := cset2 Bb 2 3 (.int .i64 q0) (.int .i64 q1) c5 (by simp only; omega)
      replace c6 := cset2 Bb 2 3 (.int .i64 q0) (.int .i64 q1) c6 (by simp only; omega)
      replace c7 := cset2 Bb 2 3 (.int .i64 q0) (.int .i64 q1) c7 (by simp only; omega)
      replace hR := oset2 Bb 2 3 (.int .i64 q0) (.int .i64 q1) hR (by first | omega | (simp only; omega))
      replace hS := oset2 Bb 2 3 (.int .i64 q0) (.int .i64 q1) hS (by first | omega | (simp only; omega))
      replace hA := oset2 Bb 2 3 (.int .i64 q0) (.int .i64 q1) hA (by first | omega | (simp only; omega))
      replace hD := oset2 Bb 2 3 (.int .i64 q0) (.int .i64 q1) hD (by first | omega | (simp only; omega))
      replace hB := (hB.setCell (p := ⟨Bb, 2, none⟩) (by simp only; omega) (.int .i64 q0)).setCell (p := ⟨Bb, 3, none⟩) (by simp only; omega) (.int .i64 q1)
      clear r2 r3 f2 f3 hshq
      generalize (u5.setCell ⟨Bb, 2, none⟩ (.int .i64 q0)).setCell ⟨Bb, 3, none⟩ (.int .i64 q1) = V7 at *
      have e0 := heap_cell hD 0
      have e1 := heap_cell hD 1
      simp only [List.getElem?_toArray, List.getElem?_cons_zero, List.getElem?_cons_succ] at e0 e1
      have hm1 : 0 ≤ z5 % 5 ∧ z5 % 5 ≤ 4 := by omega
      have hm2 : 0 ≤ z5 / 5 % 5 ∧ z5 / 5 % 5 ≤ 4 := by omega
      have pX := prod_bd (a := dX) (b := z5 % 5) (A := 131077) (B := 4) (by omega) (by omega) bX.1 bX.2 (by omega) hm1.2
      have pY := prod_bd (a := dY) (b := z5 / 5 % 5) (A := 131077) (B := 4) (by omega) (by omega) bY.1 bY.2 (by omega) hm2.2
      have kC := Lib.hid (fun (n : Int) (w : World) => refClamp_any n (-16384) 16384 w)
      refine wp_region_tail 21 (by kernel_rfl) (by kernel_rfl) ?_
      intro W hK
      have g_c5 := fun x => carry ((hK.below x)) c5
      have g_c6 := fun x => carry ((hK.below x)) c6
      have g_c7 := fun x => carry ((hK.below x)) c7
      have g_e0 := fun x => carry ((hK.below x)) e0
      have g_e1 := fun x => carry ((hK.below x)) e1
      simp only [List.take_succ_cons, List.take_zero, List.drop_succ_cons, List.drop_zero]
      repeat (go_big_quiet_step ((go_at_call 65; with_reducible exact met_same (kC.out _ _))))
      refine wpQuiet_nil ?_
      intro wq hw'
      have hbq := kept_in hK hw'
      clear g_c5 g_c6 g_c7 g_e0 g_e1
      clear hw' hK W
      replace c5 := carry (hbq) c5
      replace c6 := carry (hbq) c6
      replace c7 := carry (hbq) c7
      replace e0 := carry (hbq) e0
      replace e1 := carry (hbq) e1
      replace hR := hcarry (hbq) hR
      replace hS := hcarry (hbq) hS
      replace hA := hcarry (hbq) hA
      replace hBo := hcarry (hbq) hBo
      replace hB := below_step hB hbq
      replace hsh := Lib.hid (And.intro (hsh.out.1.carry hbq) (hsh.out.2.carry hbq))
      obtain ⟨-, -, -, -, r4, r5⟩ := body_cells hA
      have f4 := body_frozen hA 4
      have f5 := body_frozen hA 5
      clear kC hD e0 e1
      go_upto_region 19 with fail
      have hv0 := clamp_ve ((dX * (z5 % 5)).tdiv 2)
      have hv1 := clamp_ve ((dY * (z5 / 5 % 5)).tdiv 2)
      generalize clampV ((dX * (z5 % 5)).tdiv 2) (-16384) 16384 = v0 at *
      generalize clampV ((dY * (z5 / 5 % 5)).tdiv 2) (-16384) 16384 = v1 at *
      have hshq := Lib.hid (And.intro (set_sh hsh.out.1 hA 4 5 (.int .i64 v0) (.int .i64 v1)) (set_sh hsh.out.2 hA 4 5 (.int .i64 v0) (.int .i64 v1)))
      replace hA := body_vel hA v0 v1
      replace c6 := cset2 A 4 5 (.int .i64 v0) (.int .i64 v1) c6 (by simp only; omega)
      replace c7 := cset2 A 4 5 (.int .i64 v0) (.int .i64 v1) c7 (by simp only; omega)
      replace hR := oset2 A 4 5 (.int .i64 v0) (.int .i64 v1) hR (by first | omega | (simp only; omega))
      replace hS := oset2 A 4 5 (.int .i64 v0) (.int .i64 v1) hS (by first | omega | (simp only; omega))
      replace hBo := oset2 A 4 5 (.int .i64 v0) (.int .i64 v1) hBo (by first | omega | (simp only; omega))
      replace hB := (hB.setCell (p := ⟨A, 4, none⟩) (by simp only; omega) (.int .i64 v0)).setCell (p := ⟨A, 5, none⟩) (by simp only; omega) (.int .i64 v1)
      clear r4 r5 f4 f5 hsh pX pY hm1 hm2 bX bY n5 c5 hbq
      generalize (wq.setCell ⟨A, 4, none⟩ (.int .i64 v0)).setCell ⟨A, 5, none⟩ (.int .i64 v1) = V8 at *
      clear wq
      by_cases h6 : 0 < z6 % 3
      · have e6 : decide (0 < z6 % 3) = true := decide_eq_true h6
        have q1' := fun w => bound_any (z6 / 3) 16384 w (by omega) (by omega) (by omega) (by omega)
        have q2' := fun w => bound_any z7 16384 w (by omega) (by omega) (by omega) (by omega)
        have m1 := arnd_bd (z6 / 3) (m := 2 * 16384 + 1) (by omega)
        have m2 := arnd_bd z7 (m := 2 * 16384 + 1) (by omega)
        obtain ⟨x0, hx0⟩ : ∃ x, x = arnd (z6 / 3) (2 * 16384 + 1) - 16384 := ⟨_, rfl⟩
        obtain ⟨x1, hx1⟩ : ∃ x, x = arnd z7 (2 * 16384 + 1) - 16384 := ⟨_, rfl⟩
        rw [← hx0] at q1'
        rw [← hx1] at q2'
        have bx0 : Ve x0 := by unfold Ve; omega
        have bx1 : Ve x1 := by unfold Ve; omega
        have hq := Lib.hid (And.intro q1' q2')
        clear q1' q2' m1 m2 hx0 hx1
        go_upto_region 20 with fail
        refine wp_region_tail 11 (by kernel_rfl) (by kernel_rfl) ?_
        intro W hK
        have g_c6 := fun x => carry ((hK.below x)) c6
        have g_c7 := fun x => carry ((hK.below x)) c7
        simp only [List.take_succ_cons, List.take_zero, List.drop_succ_cons, List.drop_zero]
        repeat (go_big_quiet_step ((first | (go_at_call 35; with_reducible exact met_same (hq.out.1 _)) | (go_at_call 35; with_reducible exact met_same (hq.out.2 _)))))
        refine wpQuiet_nil ?_
        intro wq hw'
        have hbq := kept_in hK hw'
        clear g_c6 g_c7
        clear hw' hK W
        replace c6 := carry (hbq) c6
        replace c7 := carry (hbq) c7
        replace hR := hcarry (hbq) hR
        replace hS := hcarry (hbq) hS
        replace hA := hcarry (hbq) hA
        replace hBo := hcarry (hbq) hBo
        replace hB := below_step hB hbq
        replace hshq := Lib.hid (And.intro (hshq.out.1.carry hbq) (hshq.out.2.carry hbq))
        obtain ⟨-, -, -, -, r4, r5⟩ := body_cells hBo
        have f4 := body_frozen hBo 4
        have f5 := body_frozen hBo 5
        go_upto_region 21 with fail
        have hsh := Lib.hid (And.intro (set_sh hshq.out.1 hBo 4 5 (.int .i64 x0) (.int .i64 x1)) (set_sh hshq.out.2 hBo 4 5 (.int .i64 x0) (.int .i64 x1)))
        replace hBo := body_vel hBo x0 x1
        replace hR := oset2 Bb 4 5 (.int .i64 x0) (.int .i64 x1) hR (by first | omega | (simp only; omega))
        replace hS := oset2 Bb 4 5 (.int .i64 x0) (.int .i64 x1) hS (by first | omega | (simp only; omega))
        replace hA := oset2 Bb 4 5 (.int .i64 x0) (.int .i64 x1) hA (by first | omega | (simp only; omega))
        replace hB := (hB.setCell (p := ⟨Bb, 4, none⟩) (by simp only; omega) (.int .i64 x0)).setCell (p := ⟨Bb, 5, none⟩) (by simp only; omega) (.int .i64 x1)
        clear r4 r5 f4 f5 hshq c6 c7 hbq
        generalize (wq.setCell ⟨Bb, 4, none⟩ (.int .i64 x0)).setCell ⟨Bb, 5, none⟩ (.int .i64 x1) = V9 at *
        obtain ⟨a0, a1, a2, a3, a4, a5⟩ := body_cells hA
        obtain ⟨b0, b1, b2, b3, b4, b5⟩ := body_cells hBo
        obtain ⟨r0, r1, r2, r3, r4, r5⟩ := body_cells (s := .c 0) (p0 := 0) (p1 := 0) (v0 := 0) (v1 := 0) hR
        obtain ⟨t0, t1, t2, t3, t4, t5⟩ := body_cells (s := .c 0) (p0 := 0) (p1 := 0) (v0 := 0) (v1 := 0) hS
        have gr := fun i => body_frozen (s := .c 0) (p0 := 0) (p1 := 0) (v0 := 0) (v1 := 0) hR i
        have gs := fun i => body_frozen (s := .c 0) (p0 := 0) (p1 := 0) (v0 := 0) (v1 := 0) hS i
        have gr0 := gr 0
        have gr1 := gr 1
        have gr2 := gr 2
        have gr3 := gr 3
        have gr4 := gr 4
        have gr5 := gr 5
        have gs0 := gs 0
        have gs1 := gs 1
        have gs2 := gs 2
        have gs3 := gs 3
        have gs4 := gs 4
        have gs5 := gs 5
        have hon := Lib.hid (And.intro (on_and (hsh.out.1.off (s := .c 0) (p0 := 0) (p1 := 0) (v0 := 0) (v1 := 0) hR) (hsh.out.1.off (s := .c 0) (p0 := 0) (p1 := 0) (v0 := 0) (v1 := 0) hS)) (on_and (hsh.out.2.off (s := .c 0) (p0 := 0) (p1 := 0) (v0 := 0) (v1 := 0) hR) (hsh.out.2.off (s := .c 0) (p0 := 0) (p1 := 0) (v0 := 0) (v1 := 0) hS)))
        have hok := Lib.hid (PairOk.mk bp0 bp1 hv0 hv1 bq0 bq1 bx0 bx1)
        clear gr gs hR hS hA hBo
        have ne1 : w.heap.size ≠ Bb := by omega
        have ne2 : Bb ≠ w.heap.size := by omega
        go_region
        all_goals
          go_wp2
          refine bodyPost_ret (v := .tuple #[.agg #[.int .i64 s.r, .slice s.a s.n s.cap, .int .i64 (p0), .int .i64 (p1), .int .i64 (v0), .int .i64 (v1)], .agg #[.int .i64 t.r, .slice t.a t.n t.cap, .int .i64 (q0), .int .i64 (q1), .int .i64 (x0), .int .i64 (x1)]]) (by simp [results, Try.results27, go_sem, r0, r1, r2, r3, r4, r5, t0, t1, t2, t3, t4, t5]) rfl ⟨⟨s, t, p0, p1, v0, v1, q0, q1, x0, x1, hok.out, rfl, hsh.out.1.keep (S := fun r => r ≠ w.heap.size ∧ r ≠ w.heap.size + 1) ?_ hon.out.1, hsh.out.2.keep (S := fun r => r ≠ w.heap.size ∧ r ≠ w.heap.size + 1) ?_ hon.out.2⟩, ?_⟩
          · (repeat (first | with_reducible (refine keep_step _ ?_ ?_) | with_reducible (refine keep_drew ?_) | with_reducible exact KeepOn.refl _ _))
            all_goals (first | (simp; done) | (simp only; omega))
          · (repeat (first | with_reducible (refine keep_step _ ?_ ?_) | with_reducible (refine keep_drew ?_) | with_reducible exact KeepOn.refl _ _))
            all_goals (first | (simp; done) | (simp only; omega))
          · (repeat (first | with_reducible (refine Below.setCell ?_ ?_ _) | with_reducible (refine Below.drew ?_) | with_reducible exact hB))
            all_goals (first | (simp; done) | (simp only; omega))
      · have e6 : decide (0 < z6 % 3) = false := decide_eq_false h6
        have hsh := hshq
        have bx0 : Ve 0 := by unfold Ve; omega
        have bx1 := bx0
        go_upto_region 21 with fail
        obtain ⟨a0, a1, a2, a3, a4, a5⟩ := body_cells hA
        obtain ⟨b0, b1, b2, b3, b4, b5⟩ := body_cells hBo
        obtain ⟨r0, r1, r2, r3, r4, r5⟩ := body_cells (s := .c 0) (p0 := 0) (p1 := 0) (v0 := 0) (v1 := 0) hR
        obtain ⟨t0, t1, t2, t3, t4, t5⟩ := body_cells (s := .c 0) (p0 := 0) (p1 := 0) (v0 := 0) (v1 := 0) hS
        have gr := fun i => body_frozen (s := .c 0) (p0 := 0) (p1 := 0) (v0 := 0) (v1 := 0) hR i
        have gs := fun i => body_frozen (s := .c 0) (p0 := 0) (p1 := 0) (v0 := 0) (v1 := 0) hS i
        have gr0 := gr 0
        have gr1 := gr 1
        have gr2 := gr 2
        have gr3 := gr 3
        have gr4 := gr 4
        have gr5 := gr 5
        have gs0 := gs 0
        have gs1 := gs 1
        have gs2 := gs 2
        have gs3 := gs 3
        have gs4 := gs 4
        have gs5 := gs 5
        have hon := Lib.hid (And.intro (on_and (hsh.out.1.off (s := .c 0) (p0 := 0) (p1 := 0) (v0 := 0) (v1 := 0) hR) (hsh.out.1.off (s := .c 0) (p0 := 0) (p1 := 0) (v0 := 0) (v1 := 0) hS)) (on_and (hsh.out.2.off (s := .c 0) (p0 := 0) (p1 := 0) (v0 := 0) (v1 := 0) hR) (hsh.out.2.off (s := .c 0) (p0 := 0) (p1 := 0) (v0 := 0) (v1 := 0) hS)))
        have hok := Lib.hid (PairOk.mk bp0 bp1 hv0 hv1 bq0 bq1 bx0 bx1)
        clear gr gs hR hS hA hBo
        have ne1 : w.heap.size ≠ Bb := by omega
        have ne2 : Bb ≠ w.heap.size := by omega
        go_region
        all_goals
          go_wp2
          refine bodyPost_ret (v := .tuple #[.agg #[.int .i64 s.r, .slice s.a s.n s.cap, .int .i64 (p0), .int .i64 (p1), .int .i64 (v0), .int .i64 (v1)], .agg #[.int .i64 t.r, .slice t.a t.n t.cap, .int .i64 (q0), .int .i64 (q1), .int .i64 (0), .int .i64 (0)]]) (by simp [results, Try.results27, go_sem, r0, r1, r2, r3, r4, r5, t0, t1, t2, t3, t4, t5]) rfl ⟨⟨s, t, p0, p1, v0, v1, q0, q1, 0, 0, hok.out, rfl, hsh.out.1.keep (S := fun r => r ≠ w.heap.size ∧ r ≠ w.heap.size + 1) ?_ hon.out.1, hsh.out.2.keep (S := fun r => r ≠ w.heap.size ∧ r ≠ w.heap.size + 1) ?_ hon.out.2⟩, ?_⟩
          · (repeat (first | with_reducible (refine keep_step _ ?_ ?_) | with_reducible (refine keep_drew ?_) | with_reducible exact KeepOn.refl _ _))
            all_goals (first | (simp; done) | (simp only; omega))
          · (repeat (first | with_reducible (refine keep_step _ ?_ ?_) | with_reducible (refine keep_drew ?_) | with_reducible exact KeepOn.refl _ _))
            all_goals (first | (simp; done) | (simp only; omega))
          · (repeat (first | with_reducible (refine Below.setCell ?_ ?_ _) | with_reducible (refine Below.drew ?_) | with_reducible exact hB))
            all_goals (first | (simp; done) | (simp only; omega))
end Go.Proofs.Ytfbgghkkgmgnjaa
