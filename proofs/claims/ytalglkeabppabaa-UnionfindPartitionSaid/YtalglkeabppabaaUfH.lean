/- Package unionfind: Groups. -/
import Derived.Test.YtalglkeabppabaaUfG
import Derived.Test.YtalglkeabppabaaUfQ
namespace Go.Proofs.Ytalglkeabppabaa
open Go.ChangeShapes Go.WideShapes Go.ChangeAt Go.RowKit Go.Maps
open Uf
set_option linter.unusedSimpArgs false
set_option linter.unusedVariables false

theorem infoR : (Try.prog.info? 22).map (fun i => (i.zero, i.size, i.bytes)) = some (some (.slice none 0 0), 1, 24) := by kernel_rfl
theorem zeroR (w : World) : (zeroValue 22).run Try.prog w = .ok (.slice none 0 0) w := by kernel_rfl
theorem lawI : Keyed Try.prog 3 := int_keyed Try.underlying3
theorem St.grown {w w' : World} {b g k : Nat} {f : Nat → Int} {row : Option Nat} (h : St w b g k f) (hg : w.grownBy w' row) (h1 : some b ≠ row) (h2 : some g ≠ row) : St w' b g k f := by
  obtain ⟨P, h3, h4⟩ := h; exact ⟨P, h3.grown hg h1 h2, h4⟩
theorem ints_back {w w' : World} {base : Nat} {e : TypeId} {v : Value} {zs : List Int} (hb : Below w.heap.size w w') (h : w'.ownsInts base e .i64 v zs) (hl : ∀ j, v.ownBlock = some j → j < w.heap.size) : w.ownsInts base e .i64 v zs := by
  obtain ⟨⟨h1, h2⟩, h3⟩ := h
  refine ⟨⟨h1, ?_⟩, h3⟩
  rcases h2 with h2 | ⟨g, cap, cur, rfl, h4, h5, h6⟩
  · exact .inl h2
  · exact .inr ⟨g, cap, cur, rfl, h4, (hb.block g (hl g rfl)).symm.trans h5, h6⟩
theorem ints_shape {w : World} {base : Nat} {e : TypeId} {v : Value} {zs : List Int} (h : w.ownsInts base e .i64 v zs) : ∃ a n c, v = .slice a n c := by
  rcases h.1.2 with ⟨rfl, _⟩ | ⟨g, cap, cur, rfl, _⟩ <;> exact ⟨_, _, _, rfl⟩
theorem ints_one {w : World} {base : Nat} {e : TypeId} {v : Value} {zs : List Int} (h : w.ownsInts base e .i64 v zs) : ∀ u ∈ [v], u.oneCell' = true := by
  intro u hu
  obtain rfl := List.mem_singleton.1 hu
  rcases h.1.2 with ⟨rfl, _⟩ | ⟨g, cap, cur, rfl, _⟩ <;> rfl
theorem ints_IL {w : World} {base : Nat} {e : TypeId} {v : Value} {zs : List Int} (h : w.ownsInts base e .i64 v zs) : IL w v zs := IL.owned h.1
theorem ints_carry {w w' : World} {base : Nat} {e : TypeId} {v : Value} {zs : List Int} (h : w.ownsInts base e .i64 v zs) (hb : Below w.heap.size w w') : w'.ownsInts base e .i64 v zs := h.kept (row := none) ⟨hb.os, hb.tape, hb.output, hb.size, fun k hk _ => hb.block k hk⟩ (by cases v.ownBlock <;> simp)

theorem heads_len (k : Nat) (f : Nat → Int) : (heads k f).length ≤ k := by
  have := List.length_filter_le (isHead f) (List.range k); rwa [List.length_range] at this
theorem IL.shape {w : World} {v : Value} {l : List Int} (h : IL w v l) : ∃ a cap, v = .slice a l.length cap ∧ l.length ≤ cap ∧ cap ≤ maxLen ∧
    (0 < l.length → ∃ h off, a = some ⟨h, off, none⟩ ∧ h < w.heap.size ∧ ∀ (i : Nat) (z : Int), l[i]? = some z → w.cell? ⟨h, off + i, none⟩ = some (.int .i64 z)) := by
  rcases h.cases with ⟨rfl, a, cap, rfl, h2⟩ | ⟨g, off, cap, rfl, h2, h3, h4, h5, h6⟩
  · exact ⟨a, cap, rfl, Nat.zero_le _, h2, fun h => absurd h (Nat.lt_irrefl 0)⟩
  · exact ⟨_, cap, rfl, h2, h3, fun _ => ⟨g, off, rfl, h5, h6⟩⟩
theorem natI_at {l : List Nat} {i : Nat} {x : Nat} (h : l[i]? = some x) : (natI l)[i]? = some (x : Int) := by unfold natI; rw [List.getElem?_map, h]; rfl
theorem grown_past {w a c : World} {row row' : Option Nat} (h : w.grownBy a row) (k : a.grownBy c row') (hr : ∀ j, row' = some j → w.heap.size ≤ j) : w.grownBy c row :=
  ⟨k.os.trans h.os, k.tape.trans h.tape, k.output.trans h.output, Nat.le_trans h.size k.size, fun i hi hne => (k.block i (Nat.lt_of_lt_of_le hi h.size) (fun e => by have := hr i e.symm; omega)).trans (h.block i hi hne)⟩

/-- v is a slice of slices of integers, all in blocks from B on; the outer row is none of the inner ones. -/
def GO (B : Nat) (w : World) (v : Value) (gs : List (List Int)) : Prop :=
  ∃ xs : List Value, w.ownsRow B 22 1 v gs.length xs ∧ ∀ (i : Nat) (x : Value) (l : List Int), xs[i]? = some x → gs[i]? = some l → w.ownsInts B 3 .i64 x l ∧ ∀ j, x.ownBlock = some j → v.ownBlock ≠ some j
theorem GO.gl {B : Nat} {w : World} {v : Value} {gs : List (List Int)} (h : GO B w v gs) : GL w v gs := by
  obtain ⟨xs, h1, h2⟩ := h
  exact ⟨xs, by rw [h1.1, Nat.mul_one], VL.owned h1, fun i x l hx hl => ints_IL (h2 i x l hx hl).1⟩
theorem GO.grown {B : Nat} {w w' : World} {v : Value} {gs : List (List Int)} {row : Option Nat} (h : GO B w v gs) (hg : w.grownBy w' row) (hr : ∀ j, row = some j → j < B) : GO B w' v gs := by
  obtain ⟨xs, h1, h2⟩ := h
  have key : ∀ {u : Value}, (∀ j, u.ownBlock = some j → B ≤ j) → u.ownBlock = none ∨ u.ownBlock ≠ row := fun {u} hu => by
    cases e : u.ownBlock with
    | none => exact .inl rfl
    | some j => exact .inr fun e2 => by have := hu j e; have := hr j e2.symm; omega
  exact ⟨xs, h1.kept hg (key fun j hj => (h1.lt j hj).1), fun i x l hx hl => ⟨(h2 i x l hx hl).1.kept hg (key fun j hj => ((h2 i x l hx hl).1.1.lt j hj).1), (h2 i x l hx hl).2⟩⟩
theorem GO.carry {B : Nat} {w w' : World} {v : Value} {gs : List (List Int)} (h : GO B w v gs) (hb : Below w.heap.size w w') : GO B w' v gs :=
  h.grown (row := none) ⟨hb.os, hb.tape, hb.output, hb.size, fun k hk _ => hb.block k hk⟩ (fun j hj => by cases hj)

/-- The groups' values found so far. -/
def Got (w : World) (B k : Nat) (f : Nat → Int) (xs : List Value) : Prop := ∀ (j : Nat) (x : Value) (p : Nat), xs[j]? = some x → (heads k f)[j]? = some p → w.ownsInts B 3 .i64 x (natI (cls k f p))

set_option maxRecDepth 100000 in
set_option maxHeartbeats 8000000 in
theorem groups_any (b g k : Nat) (f : Nat → Int) (w : World) (h : St w b g k f) (hk : k ≤ 10000) :
    Calls Try.prog 20 #[.pointer (some ⟨b, 0, none⟩)] w fun e w' => ∃ v, e = .returned v ∧ GO w.heap.size w' v ((grps k f).map natI) ∧ St w' b g k f ∧ w.grownBy w' (some g) := by
  have hmm := @run_makeMap Try.prog
  obtain ⟨i0, hi0, hz0, hz1, hz2⟩ := info_parts infoU
  obtain ⟨i1, ri0, rz0, rz1, rz2⟩ := info_parts infoR
  have hi0' := Lib.hid hi0; clear hi0
  have hz0' := Lib.hid hz0; clear hz0
  have hz1' := Lib.hid hz1; clear hz1
  have hz2' := Lib.hid hz2; clear hz2
  have ri0' := Lib.hid ri0; clear ri0
  have rz0' := Lib.hid rz0; clear rz0
  have rz1' := Lib.hid rz1; clear rz1
  have rz2' := Lib.hid rz2; clear rz2
  have hlt' := h.lt
  have hb0 := alloc_below w (.map #[] 0)
  have hS0 := Lib.hid (h.carry hb0)
  have hM0 := Lib.hid (World.ownsGroups_made (H := Unit) w Try.prog 3 3 .i64)
  have c0 : (w.alloc (.map #[] 0)).cell? ⟨b, 0, none⟩ = some (.slice (some ⟨g, 0, none⟩) k k) := by
    obtain ⟨P, h1, h2⟩ := hS0.out; exact h1.cell0
  clear h hb0
  go_enter Try.func20, Try.ntmps20
  go_wp2_with fail
  clear c0
  go_loopw [4, 5, 15] (fun _ _ i wr => ∃ n : Nat, n ≤ k ∧ i = .int .i64 (n : Nat) ∧ wr.ownsGroups Try.prog 3 (w.heap.size + 1) 3 .i64 w.heap.size n (Gd f n) ∧ St wr b g k f ∧ w.grownBy wr (some g) ∧ w.heap.size + 1 ≤ wr.heap.size) (fun _ _ i _ => k - (intOf i).toNat)
  case atStart => exact ⟨0, Nat.zero_le _, rfl, hM0.out, hS0.out, World.grownBy_alloc _ _ _, by simp⟩
  case round =>
    obtain ⟨n, hn, rfl, hown, hS, hG, hws⟩ := hrel
    have hown' := Lib.hid hown
    have hS' := Lib.hid hS
    have hG' := Lib.hid hG
    clear hown hS hG
    by_cases hlt : n < k
    · have hkey := Lib.hid (keyOf_int_mk (P := Try.prog) Try.underlying3 (q := .i64) (a := (hd f n : Nat)) (WalkArith.wf_i64 (by have := hd_le f n; omega)))
      go_wp2_with (first
        | (go_at_call 31; with_reducible refine (hS'.out.find hk hlt).mono ?_; rintro e w2 ⟨rfl, hS2, hg2⟩; have hS2' := Lib.hid hS2; have hg2' := Lib.hid hg2; clear hS2 hg2; have hown2 := Lib.hid (hown'.out.kept hg2'.out (by simp; omega) (hown'.out.rowsAbove (fun j hj => by cases hj; omega))))
        | (at_lookup; refine wpList_lookup_groups _ rfl _ _ 50 rfl 3 22 3 .i64 lawI Try.underlying50 (zeroR _) (w.heap.size + 1) w.heap.size n _ rfl hown2.out (by unfold maxLen; omega) _ _ rfl hkey.out ?_; intro v zs hat hoi hzl hback; obtain rfl := Gd_look (hd_head f n) hoi hat; have hoi' := Lib.hid hoi; have hback' := Lib.hid hback; have hzl' := Lib.hid hzl; clear hat hoi hback hzl; have hw2 := Nat.le_trans hws hg2'.out.size)
        | (at_builtin; refine wpList_append_own_at _ rfl _ _ 22 rfl (w.heap.size + 1) 3 i0 _ 1 8 Try.underlying22 hi0'.out hz0'.out hz1'.out hz2'.out rfl (by decide) _ _ _ rfl (hoi'.out.1.alloc _) ⟨w2.heap.size, 0, none⟩ 1 1 [.int .i64 (n : Nat)] rfl rfl (cell_one_new _ _ _) (ints_oneCell .i64 [(n : Int)]) (by have := hzl'.out; unfold maxLen; omega) (by have := hzl'.out; omega) (by simp; omega) ?_; intro v' w3 hown3 hgrow hnil hloc; have hown3' := Lib.hid hown3; have hgrow' := Lib.hid hgrow; have hloc' := Lib.hid hloc; clear hown3 hgrow hloc hnil)
        | (at_mapUpdate; refine wpList_mapUpdate_back _ rfl _ _ _ 50 rfl hback'.out rfl rfl rfl ((World.grownBy_alloc _ _ _).trans hgrow'.out) (hoi'.out.appended hown3'.out (WalkArith.wf_i64 (by omega))) (by have := hzl'.out; simp; omega) (hloc'.out.imp id (fun h => ⟨_, h, by simp⟩)) ?_; intro w4 hown4 hgrow4; have hown4' := Lib.hid hown4; have hgrow4' := Lib.hid hgrow4; clear hown4 hgrow4)
        | go_in)
      have hall := Lib.hid ((World.grownBy_alloc w2 _ _).trans hgrow'.out)
      have hlo := Lib.hid (fun j (hj : v.ownBlock = some j) => (hoi'.out.1.lt j hj).1)
      have hap := Lib.hid (hoi'.out.appended hown3'.out (WalkArith.wf_i64 (by omega)))
      go_roundw
      case rel =>
        refine ⟨n + 1, by omega, by go_num, ?_, (hS2'.out.grown hall.out (fun e => ?_) (fun e => ?_)).grown hgrow4'.out (by simp; omega) (by simp; omega), grown_past (grown_past (grown_trans hG'.out hg2'.out) hall.out (fun j hj => ?_)) hgrow4'.out (fun j hj => by cases hj; exact Nat.le_refl _), ?_⟩
        · rw [← Gd_step hap.out]; exact hown4'.out
        · have := hlo.out _ e.symm; omega
        · have := hlo.out _ e.symm; omega
        · have := hlo.out _ hj; omega
        · have h1 := hall.out.size
          have h2 := hgrow4'.out.size
          omega
      case measure => simp [intOf]; omega
    · obtain rfl : n = k := by omega
      obtain ⟨W1, hW1⟩ : ∃ V, V = wr := ⟨wr, rfl⟩
      subst hW1
      have hsz := Lib.hid (show Maps.size (Gd f n) = (heads n f).length from Gd_size f n)
      have hln := Lib.hid (show (heads n f).length ≤ n from heads_len n f)
      have hsb := Lib.hid (show Maps.size (Gd f n) ≤ 10000 from by have := hsz.out; have := hln.out; omega)
      have hwm := Lib.hid (show ∃ R, W1.ownsMap Try.prog 3 R w.heap.size n (Gd f n) from by
        obtain ⟨es, clock, h1, h2, h3, h4, _⟩ := hown'.out
        exact ⟨_, es, clock, h1, h2, h3, h4⟩)
      obtain ⟨R, hwm'⟩ := hwm.out
      have hwm2 := Lib.hid hwm'
      clear hwm hwm'
      have hwmB := Lib.hid (show ∀ w0 : World, Below W1.heap.size W1 w0 → w0.ownsMap Try.prog 3 R w.heap.size n (Gd f n) from fun w0 hb => by
        obtain ⟨es, clock, h1, h2⟩ := hwm2.out
        exact ⟨es, clock, (hb.block _ (Array.getElem?_eq_some_iff.1 h1).1).trans h1, h2⟩)
      have hilB := Lib.hid (show ∀ (w2 : World) (v : Value) (ss : List Int) (B : Nat), ss.Perm (intKeys (Gd f n)) → w2.ownsRow B 3 1 v ss.length ((ss.mergeSort (fun x y => decide (x ≤ y))).map encZ) → ∃ a cap, v = .slice a (heads n f).length cap ∧ (heads n f).length ≤ cap ∧ cap ≤ maxLen ∧
          (0 < (heads n f).length → ∃ h off, a = some ⟨h, off, none⟩ ∧ (B ≤ h ∧ h < w2.heap.size) ∧ ∀ (i : Nat) (z : Int), (natI (heads n f))[i]? = some z → w2.cell? ⟨h, off + i, none⟩ = some (.int .i64 z)) from fun w2 v ss B hp hr => by
        rw [(Gd_sorted f n hp).1] at hr
        have h := (show IL w2 v (natI (hds f n)) from IL.owned hr).shape
        rw [natI_length] at h
        obtain ⟨a, cap, rfl, h2, h3, h4⟩ := h
        refine ⟨a, cap, rfl, h2, h3, fun h0 => ?_⟩
        obtain ⟨b', off, rfl, h5, h6⟩ := h4 h0
        exact ⟨b', off, rfl, ⟨(hr.lt b' rfl).1, h5⟩, h6⟩)
      go_wp2_with (first
        | (at_len; refine wpList_len_own _ rfl _ 50 rfl 3 22 Try.underlying50 _ w.heap.size n _ rfl hwm2.out ?_)
        | (at_make; refine wpList_make_own _ rfl _ _ 35 rfl W1.heap.size 22 i1 (.slice none 0 0) 1 Try.underlying35 ri0'.out rz0'.out rz1'.out .i64 .i64 _ (Maps.size (Gd f n)) rfl rfl rfl (by rw [rz2'.out]; have := hsb.out; omega) (by have := hsb.out; unfold maxLen; omega) (Nat.le_refl _) ?_; intro w0 hown0 hgrow0; have hown0' := Lib.hid hown0; have hg0 := Lib.hid (below_none hgrow0); clear hown0 hgrow0)
        | (go_at_call 33; (go_loud (refine (keys_any _ _).mono ?_)); rintro e w1 ⟨rfl, rfl⟩)
        | (go_at_call 32; with_reducible refine (sorted_any _ _ _ _ w0 (hwmB.out w0 hg0.out) (by have := hsb.out; unfold maxLen; omega) (by have := hsb.out; omega)).mono ?_; rintro e w2 ⟨v, ss, rfl, hperm, hrow, hb2⟩; obtain ⟨a, cap, rfl, hc1, hc2, hc3⟩ := hilB.out w2 v ss _ hperm hrow; have hc3' := Lib.hid hc3; have hb2' := Lib.hid (below_step hg0.out hb2); have hb02 := Lib.hid hb2; clear hperm hrow hb2 hc3))
      unfold maxLen at hc2
      obtain ⟨m, hm⟩ : ∃ m, m = (heads n f).length := ⟨_, rfl⟩
      have hm' := Lib.hid hm
      rw [← hm] at hc1 hc3' hln ⊢
      clear hm
      go_wp2_with fail
      go_loopw [6, 8, 37] (fun gv _ i wq => ∃ t : Nat, t ≤ m ∧ i = .int .i64 (t : Nat) ∧ (∃ xs, wq.ownsRow W1.heap.size 22 1 gv t xs ∧ Got W1 (w.heap.size + 1) n f xs) ∧ Below W1.heap.size W1 wq ∧ w2.grownBy wq (some W1.heap.size) ∧ ∀ j, gv.ownBlock = some j → j = W1.heap.size ∨ w2.heap.size ≤ j) (fun _ _ i _ => m - (intOf i).toNat)
      case atStart => exact ⟨0, Nat.zero_le _, rfl, ⟨[], hown0'.out.kept (grown_below (row := none) hb02.out) (by simp [Value.ownBlock]), fun j x p h => by simp at h⟩, hb2'.out, grown_refl _ _, fun j hj => .inl (by simp [Value.ownBlock] at hj; exact hj.symm)⟩
      case round =>
        obtain ⟨t, ht, rfl, ⟨xs, hrow, hgot⟩, hB1, hB2, hgv⟩ := hrel
        have hgv' := Lib.hid hgv
        clear hgv
        have hrow' := Lib.hid hrow
        have hgot' := Lib.hid hgot
        have hB1' := Lib.hid hB1
        have hB2' := Lib.hid hB2
        clear hrow hgot hB1 hB2
        by_cases hlt2 : t < m
        · obtain ⟨h, off, rfl, hh, hcell⟩ := hc3'.out (by omega)
          obtain ⟨p, hp⟩ : ∃ p, (heads n f)[t]? = some p := ⟨_, List.getElem?_eq_getElem (by rw [← hm'.out]; exact hlt2)⟩
          have hpm := mem_heads.1 (List.mem_of_getElem? hp)
          have hpk := hpm.1
          have hph := Lib.hid (isHead_iff.2 hpm.2)
          have hw0 := (hown0'.out.lt W1.heap.size rfl).2
          have c0 := hB2'.out.cell (hcell t _ (natI_at hp)) (by simp; omega)
          clear hw0
          have hp' := Lib.hid hp
          clear hp hcell hpm
          have hkey := Lib.hid (keyOf_int_mk (P := Try.prog) Try.underlying3 (q := .i64) (a := (p : Nat)) (WalkArith.wf_i64 (by omega)))
          have hownq := Lib.hid (hown'.out.kept (row := none) (grown_below hB1'.out) (by simp) (fun es clock hb x hx => by cases x.val.ownBlock <;> simp))
          have hshun := Lib.hid (show wr.Shuns w.heap.size (fun j => W1.heap.size ≤ j) from by
            have h0 : W1.Shuns w.heap.size (fun j => W1.heap.size ≤ j) := World.Shuns.reno (No := fun _ => False) (fun es clock hb x hx g hg => id) hown'.out (fun j hj => .inr hj)
            exact h0.kept (row := none) (grown_below hB1'.out) (by omega) (by simp))
          go_wp2_with (first
            | (at_lookup; refine wpList_lookup_groups_shuns _ rfl _ _ 50 rfl 3 22 3 .i64 lawI Try.underlying50 (zeroR _) (w.heap.size + 1) w.heap.size n _ rfl hownq.out (by unfold maxLen; omega) _ _ rfl hkey.out ?_; intro v zs hat hoi hzl hback hsh; obtain ⟨va, vn, vc, rfl⟩ := ints_shape hoi; obtain rfl := Gd_look hph.out hoi hat; have hoi' := Lib.hid hoi; have hx := Lib.hid (ints_back hB1'.out hoi (fun j hj => Nat.not_le.1 (hsh _ hshun.out j hj))); clear hat hoi hback hzl hsh)
            | (at_builtin; refine wpList_append_own_at _ rfl _ _ 35 rfl W1.heap.size 22 i1 _ 1 24 Try.underlying35 ri0'.out rz0'.out rz1'.out rz2'.out rfl (by decide) _ _ _ rfl (hrow'.out.alloc _) ⟨wr.heap.size, 0, none⟩ 1 1 [.slice va vn vc] rfl rfl (cell_one_new _ _ _) (ints_one hoi'.out) (by have := hln.out; unfold maxLen; omega) (by have := hln.out; omega) (by have := hB1'.out.size; simp; omega) ?_; intro v' w3 hrow3 hgrow _ hloc; have hrow3' := Lib.hid hrow3; have hgrow' := Lib.hid hgrow; have hloc' := Lib.hid hloc; clear hrow3 hgrow hloc)
            | go_in)
          have hal := Lib.hid (World.grownBy_alloc wr (.cells #[.slice va vn vc] 22) (some W1.heap.size))
          have hlo := Lib.hid (hrow'.out.lt)
          refine ⟨⟨t + 1, by omega, by go_num, ⟨xs ++ [.slice va vn vc], hrow3'.out, fun j x q hj hq => ?_⟩, ?_, ?_, ?_⟩, ?_⟩
          · have hxl : xs.length = t := by have := hrow'.out.1; omega
            rcases Nat.lt_or_ge j t with h1 | h1
            · rw [List.getElem?_append_left (by omega)] at hj
              exact hgot'.out j x q hj hq
            · have h2 : j = t := by
                have := (List.getElem?_eq_some_iff.1 hj).1
                simp at this
                omega
              subst h2
              rw [List.getElem?_append_right (by omega), hxl, Nat.sub_self] at hj
              obtain rfl : Value.slice va vn vc = x := by simpa using hj
              rw [hp'.out] at hq
              obtain rfl := Option.some.inj hq
              exact hx.out
          · exact (below_step hB1'.out (alloc_below _ _)).grown hgrow'.out (by have := hB1'.out.size; simp; omega) (fun j hj => (hlo.out j hj).1)
          · refine ⟨hgrow'.out.os.trans (hal.out.os.trans hB2'.out.os), hgrow'.out.tape.trans (hal.out.tape.trans hB2'.out.tape), hgrow'.out.output.trans (hal.out.output.trans hB2'.out.output), Nat.le_trans hB2'.out.size (Nat.le_trans hal.out.size hgrow'.out.size), fun j hj hne => ?_⟩
            refine (hgrow'.out.block j (Nat.lt_of_lt_of_le hj (Nat.le_trans hB2'.out.size hal.out.size)) (fun e => ?_)).trans ((hal.out.block j (Nat.lt_of_lt_of_le hj hB2'.out.size) hne).trans (hB2'.out.block j hj hne))
            rcases hgv'.out j e.symm with h1 | h1
            · exact hne (by rw [h1])
            · omega
          · intro j hj
            rcases hloc'.out with h1 | h1
            · exact hgv'.out j (h1.symm.trans hj)
            · right
              rw [h1] at hj
              have h2 := hB2'.out.size
              simp at hj
              omega
          · simp [intOf]; omega
        · obtain rfl : t = m := by omega
          have hfin := Lib.hid (show ∃ xs, wr.ownsRow w.heap.size 22 1 u6 t xs ∧ ∀ (i : Nat) (x : Value) (l : List Int), xs[i]? = some x → ((grps n f).map natI)[i]? = some l → wr.ownsInts w.heap.size 3 .i64 x l ∧ ∀ j, x.ownBlock = some j → u6.ownBlock ≠ some j from by
            refine ⟨xs, ownsRow_base_a hrow'.out (by omega), fun i x l hx hl => ?_⟩
            unfold grps at hl
            rw [List.map_map, List.getElem?_map] at hl
            cases hp : (heads n f)[i]? with
            | none => rw [hp] at hl; cases hl
            | some p =>
              rw [hp] at hl
              obtain rfl := Option.some.inj hl
              have h1 := hgot'.out i x p hx hp
              refine ⟨?_, fun j hj e => ?_⟩
              · have h2 := ints_carry h1 hB1'.out
                exact ⟨ownsRow_base_a h2.1 (by omega), h2.2⟩
              · have h3 := (h1.1.lt j hj).2
                have h4 := (hrow'.out.lt j e).1
                omega)
          have hlen := Lib.hid (show ((grps n f).map natI).length = t from by rw [List.length_map, grps_length, hm'.out])
          go_wp2
          go_ret
          refine ⟨_, rfl, by unfold GO; rw [hlen.out]; exact hfin.out, ?_, ?_⟩
          · exact hS'.out.carry hB1'.out
          · exact grown_past hG'.out (grown_below (row := none) hB1'.out) (fun j hj => by cases hj)
end Go.Proofs.Ytalglkeabppabaa
