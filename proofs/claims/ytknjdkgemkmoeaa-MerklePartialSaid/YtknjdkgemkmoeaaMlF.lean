/- Package merkle: the tree in memory; what only reads it. -/
import Derived.Test.YtknjdkgemkmoeaaMlE
namespace Go.Proofs.Ytknjdkgemkmoeaa
open Go.ChangeShapes Go.WideShapes Go.ChangeAt Go.RowKit Go.Shelf
set_option linter.unusedSimpArgs false
set_option linter.unusedVariables false
attribute [local go_sem] Oper.semAt_some

/-- Where a tree lies: its slices' values, its rows' blocks and room. -/
structure TrX where
  cv : Value
  rv : Value
  G : Nat → Nat
  cap : Nat → Nat
/-- The rows' values. -/
def rowsV (G cap : Nat → Nat) (n k : Nat) : List Value := (List.range k).map fun t => .slice (some ⟨G t, 0, none⟩) (pw n t) (cap t)
theorem rowsV_len (G cap : Nat → Nat) (n k : Nat) : (rowsV G cap n k).length = k := by unfold rowsV; simp
theorem rowsV_at (G cap : Nat → Nat) (n : Nat) {k t : Nat} (h : t < k) : (rowsV G cap n k)[t]? = some (.slice (some ⟨G t, 0, none⟩) (pw n t) (cap t)) := by unfold rowsV; simp [h]
theorem rowsV_succ (G cap : Nat → Nat) (n k : Nat) : rowsV G cap n (k + 1) = rowsV G cap n k ++ [.slice (some ⟨G k, 0, none⟩) (pw n k) (cap k)] := by unfold rowsV; rw [List.range_succ, List.map_append]; rfl
theorem rowsV_congr {G G' cap cap' : Nat → Nat} (n : Nat) {k : Nat} (h : ∀ t, t < k → G t = G' t ∧ cap t = cap' t) : rowsV G cap n k = rowsV G' cap' n k :=
  List.map_congr_left fun t ht => by have := h t (List.mem_range.1 ht); rw [this.1, this.2]
/-- The tree at b over the cells C, its rows holding R. -/
structure Tr (w : World) (b : Nat) (x : TrX) (C : List Int) (R : Nat → List W64) : Prop where
  sb : w.heap[b]? = some (.cells #[x.cv, x.rv] 88)
  ce : SRow w 3 1 x.cv C.length (ints C)
  rr : SRow w 28 1 x.rv (ht C.length + 1) (rowsV x.G x.cap C.length (ht C.length + 1))
  ro : ∀ t, t ≤ ht C.length → WRow w (x.G t) (x.cap t) (R t) ∧ (R t).length = pw C.length t
  d2 : ∀ s t, s ≤ ht C.length → t ≤ ht C.length → x.G s = x.G t → s = t
/-- The blocks that it lies in. -/
def TrX.all (x : TrX) (b H r : Nat) : Prop := r = b ∨ x.cv.ownBlock = some r ∨ x.rv.ownBlock = some r ∨ ∃ t, t ≤ H ∧ x.G t = r
/-- The rows of a tree over C. -/
def rowsW (C : List Int) (t : Nat) : List W64 := rowW C t (pw C.length t)

theorem Tr.c0 {w : World} {b : Nat} {x : TrX} {C : List Int} {R : Nat → List W64} (h : Tr w b x C R) : w.cell? ⟨b, 0, none⟩ = some x.cv := by simp [World.cell?, h.sb]
theorem Tr.c1 {w : World} {b : Nat} {x : TrX} {C : List Int} {R : Nat → List W64} (h : Tr w b x C R) : w.cell? ⟨b, 1, none⟩ = some x.rv := by simp [World.cell?, h.sb]
theorem Tr.lt {w : World} {b : Nat} {x : TrX} {C : List Int} {R : Nat → List W64} (h : Tr w b x C R) {r : Nat} (hr : x.all b (ht C.length) r) : r < w.heap.size := by
  rcases hr with rfl | hr | hr | ⟨t, ht', rfl⟩
  · exact (Array.getElem?_eq_some_iff.1 h.sb).1
  · exact h.ce.lt hr
  · exact h.rr.lt hr
  · exact (h.ro t ht').1.lt
/-- It stays what it is while its blocks do. -/
theorem Tr.keep {w w' : World} {b : Nat} {x : TrX} {C : List Int} {R : Nat → List W64} (h : Tr w b x C R) (hk : ∀ r, x.all b (ht C.length) r → w'.heap[r]? = w.heap[r]?) : Tr w' b x C R :=
  ⟨(hk b (.inl rfl)).trans h.sb, h.ce.grown fun g hg _ => hk g (.inr (.inl hg)), h.rr.grown fun g hg _ => hk g (.inr (.inr (.inl hg))),
    fun t ht' => ⟨(h.ro t ht').1.grown (hk _ (.inr (.inr (.inr ⟨t, ht', rfl⟩)))), (h.ro t ht').2⟩, h.d2⟩
theorem Tr.carry {w w' : World} {b : Nat} {x : TrX} {C : List Int} {R : Nat → List W64} (h : Tr w b x C R) (hb : Below w.heap.size w w') : Tr w' b x C R := h.keep fun r hr => hb.block r (h.lt hr)
theorem Tr.congr {w : World} {b : Nat} {x : TrX} {C : List Int} {R R' : Nat → List W64} (h : Tr w b x C R) (hR : ∀ t, t ≤ ht C.length → R t = R' t) : Tr w b x C R' :=
  ⟨h.sb, h.ce, h.rr, fun t ht' => by rw [← hR t ht']; exact h.ro t ht', h.d2⟩
/-- The slice of rows written out. -/
theorem Tr.shape {w : World} {b : Nat} {x : TrX} {C : List Int} {R : Nat → List W64} (h : Tr w b x C R) : ∃ gr off cr, x.rv = .slice (some ⟨gr, off, none⟩) (ht C.length + 1) cr ∧ ht C.length + 1 ≤ cr ∧ cr ≤ maxLen ∧ gr < w.heap.size ∧
    ∀ t, t ≤ ht C.length → w.cell? ⟨gr, off + t, none⟩ = some (.slice (some ⟨x.G t, 0, none⟩) (pw C.length t) (x.cap t)) := by
  obtain ⟨a, cap, e, h1, h2, _, h4⟩ := h.rr.shape Nat.one_pos
  obtain ⟨g, off, rfl, hg, hc⟩ := h4 (Nat.succ_pos _)
  exact ⟨g, off, cap, e, h1, h2, hg, fun t ht' => (hc t _ (rowsV_at _ _ _ (Nat.lt_succ_of_le ht'))).1⟩

set_option maxHeartbeats 2000000 in
theorem treeHash_any (w : World) (b : Nat) (x : TrX) (C : List Int) (R : Nat → List W64) (t j : Nat) (z : W64) (h : Tr w b x C R) (ht' : t ≤ ht C.length) (hj : (R t)[j]? = some z) (hl : C.length ≤ 1000) :
    Calls Try.prog 59 #[.pointer (some ⟨b, 0, none⟩), .agg #[.int .i64 (t : Nat), .int .i64 (j : Nat)]] w fun e w' => e = .returned (.int .u64 (z.toNat : Int)) ∧ Below w.heap.size w w' := by
  obtain ⟨gr, off, cr, e, h1, h2, hg, hc⟩ := h.shape
  have c1 := h.c1
  rw [e] at c1
  have ct := hc t ht'
  obtain ⟨hr, hrl⟩ := h.ro t ht'
  have cx := (hr.cell hj).1
  obtain ⟨hb1, hb2⟩ := hr.bounds
  have hjl := (List.getElem?_eq_some_iff.1 hj).1
  rw [hrl] at hb1 hjl
  have hpb : pw C.length t ≤ 1002 := by
    have := wd_le C.length t
    unfold pw; split <;> omega
  have h16 := ht_small (n := C.length) (by omega)
  have nb := block_lt_of_cell c1
  have ng := block_lt_of_cell cx
  simp only at nb ng
  unfold maxLen at h2 hb2
  generalize pw C.length t = m at *
  generalize ht C.length = H at *
  generalize x.G t = g at *
  generalize x.cap t = cp at *
  generalize (z.toNat : Int) = zn at *
  have hB := Lib.hid (alloc_below w (.cells #[.int .i64 (t : Nat), .int .i64 (j : Nat)] 99))
  have p0 : (w.alloc (.cells #[.int .i64 (t : Nat), .int .i64 (j : Nat)] 99)).cell? ⟨w.heap.size, 0, none⟩ = some (.int .i64 (t : Nat)) := by rw [World.cell?_alloc_new]; rfl
  have p1 : (w.alloc (.cells #[.int .i64 (t : Nat), .int .i64 (j : Nat)] 99)).cell? ⟨w.heap.size, 1, none⟩ = some (.int .i64 (j : Nat)) := by rw [World.cell?_alloc_new]; rfl
  replace c1 := carry (hB.out) c1
  replace ct := carry (hB.out) ct
  replace cx := carry (hB.out) cx
  clear hc h e hj hr hrl
  go_enter Try.func59, Try.ntmps59
  go_wp2_with fail
  generalize w.alloc (.cells #[.int .i64 (t : Nat), .int .i64 (j : Nat)] 99) = V at *
  have m0 := block_lt_of_cell p0
  have m1 := block_lt_of_cell c1
  have m2 := block_lt_of_cell ct
  have m3 := block_lt_of_cell cx
  simp only at m0 m1 m2 m3
  refine wp_region_made (by kernel_rfl) (by kernel_rfl) ?_
  intro W hK
  have g_c1 := fun x => carry ((hK.below x)) c1
  have g_ct := fun x => carry ((hK.below x)) ct
  have g_cx := fun x => carry ((hK.below x)) cx
  have g_p0 := fun x => carry ((hK.below x)) p0
  have g_p1 := fun x => carry ((hK.below x)) p1
  repeat (go_big_quiet_step ((fail)))
  refine wpQuiet_nil ?_
  intro wq hw'
  have hbq := kept_in hK hw'
  clear g_c1 g_ct g_cx g_p0 g_p1
  clear hw' hK W
  replace c1 := carry (hbq) c1
  replace ct := carry (hbq) ct
  replace cx := carry (hbq) cx
  replace p0 := carry (hbq) p0
  replace p1 := carry (hbq) p1
  go_wp2
  go_ret
  exact ⟨rfl, below_step hB.out hbq⟩
theorem treeHeight_any (w : World) (b : Nat) (x : TrX) (C : List Int) (R : Nat → List W64) (h : Tr w b x C R) (hl : C.length ≤ 1000) :
    Calls Try.prog 57 #[.pointer (some ⟨b, 0, none⟩)] w fun e w' => e = .returned (.int .i64 (ht C.length : Nat)) ∧ w = w' := by
  obtain ⟨gr, off, cr, e, h1, h2, hg, hc⟩ := h.shape
  have c1 := h.c1
  rw [e] at c1
  have h16 := ht_small (n := C.length) (by omega)
  generalize ht C.length = H at *
  clear h hc e
  go_enter Try.func57, Try.ntmps57
  go_wp2
  go_ret
  exact ⟨rfl, rfl⟩
theorem treeHas_any (w : World) (b : Nat) (x : TrX) (C : List Int) (R : Nat → List W64) (i : Int) (h : Tr w b x C R) (hl : C.length ≤ 1000) :
    Calls Try.prog 56 #[.pointer (some ⟨b, 0, none⟩), .int .i64 i] w fun e w' => e = .returned (.bool (decide (0 ≤ i ∧ i < C.length))) ∧ w = w' := by
  obtain ⟨a, cap, e, h1, h2, _, h4⟩ := h.ce.shape Nat.one_pos
  have c0 := h.c0
  rw [e] at c0
  generalize C.length = n at *
  clear h h4 e
  by_cases hi : 0 ≤ i
  · by_cases hn : i < (n : Int)
    · rw [decide_eq_true ⟨hi, hn⟩]
      go_enter Try.func56, Try.ntmps56
      go_wp2
      go_ret
      exact ⟨by simp [hn], rfl⟩
    · rw [decide_eq_false fun k => hn k.2]
      go_enter Try.func56, Try.ntmps56
      go_wp2
      go_ret
      exact ⟨by simp [hn], rfl⟩
  · rw [decide_eq_false fun k => hi k.1]
    go_enter Try.func56, Try.ntmps56
    go_wp2
    go_ret
    exact ⟨by simp, rfl⟩
theorem treeRoot_any (w : World) (b : Nat) (x : TrX) (C : List Int) (h : Tr w b x C (rowsW C)) (hl : C.length ≤ 1000) :
    Calls Try.prog 17 #[.pointer (some ⟨b, 0, none⟩)] w fun e w' => e = .returned (.int .u64 ((rootW C).toNat : Int)) ∧ Below w.heap.size w w' := by
  have K1 := treeHeight_any w b x C _ h hl
  have K2 := treeHash_any w b x C _ (ht C.length) 0 (rootW C) h (Nat.le_refl _) (rw_at (nodeW C (ht C.length)) (pw_pos _ _)) hl
  generalize ht C.length = H at *
  generalize ((rootW C).toNat : Int) = z at *
  have hK := Lib.hid (And.intro K1 K2)
  clear K1 K2 h
  go_enter Try.func17, Try.ntmps17
  go_wp2_with fail
  refine (hK.out.1).mono ?_
  rintro e w1 ⟨rfl, rfl⟩
  go_wp2_with fail
  refine (hK.out.2).mono ?_
  rintro e w1 ⟨rfl, hb⟩
  go_wp2
  go_ret
  exact ⟨rfl, hb⟩
end Go.Proofs.Ytknjdkgemkmoeaa
