/- Package cellmem: Set. -/
import Derived.Test.YtlpacihkmfgegaaCmC
import Derived.Deep.RegionHeld3
import Derived.Deep.RegionLaw
namespace Go.Proofs.Ytlpacihkmfgegaa
open Go.ChangeShapes Go.WideShapes Go.ChangeAt Go.RowKit
open Cm
set_option linter.unusedSimpArgs false
set_option linter.unusedVariables false

theorem grown_trans {a b c : World} {row : Option Nat} (h : a.grownBy b row) (k : b.grownBy c row) : a.grownBy c row :=
  ⟨k.os.trans h.os, k.tape.trans h.tape, k.output.trans h.output, Nat.le_trans h.size k.size, fun i hi hne => (k.block i (Nat.lt_of_lt_of_le hi h.size) hne).trans (h.block i hi hne)⟩
theorem cm_news (w : World) (x y : Int) (t : TypeId) : ∀ j u, [Value.int .i64 x, .int .i64 y][j]? = some u → (w.alloc (.cells #[.int .i64 x, .int .i64 y] t)).cell? ((⟨w.heap.size, 0, none⟩ : Addr).add j) = some u := fun j u hu => by
  have ha : (⟨w.heap.size, 0, none⟩ : Addr).add j = ⟨w.heap.size, j, none⟩ := by unfold Addr.add; split <;> simp_all
  rw [ha, World.cell?_alloc_new]
  simpa using hu
theorem cm_two (x y : Int) : ∀ u ∈ [Value.int .i64 x, .int .i64 y], u.oneCell' = true := fun u hu => by
  simp only [List.mem_cons, List.not_mem_nil, or_false] at hu
  rcases hu with rfl | rfl <;> rfl
section
variable {w : World} {b : Nat} {O : Nat → Prop} {S : Me} {cv lv : Value}
/-- Another log is laid: its slice lies in the log's block or in a new one. -/
theorem Cm.Par.relog (h : Par w b O S cv lv) {w1 w2 : World} (h1 : Below w.heap.size w w1) {E : List (Nat × Int)} (hok : ∀ (j : Nat) (e : Nat × Int), E[j]? = some e → e.1 < S.cs.length) {v' : Value} (hl : SRow w2 69 2 v' E.length (ents E)) (hg : w1.grownBy w2 lv.ownBlock)
    (hat : ∀ k, v'.ownBlock = some k → lv.ownBlock = some k ∨ w.heap.size ≤ k) :
    Par (w2.setCell ⟨b, 1, none⟩ v') b (fun k => O k ∨ v'.ownBlock = some k) ⟨S.cs, S.base, E⟩ cv v' ∧ Moves O w (fun k => O k ∨ v'.ownBlock = some k) (w2.setCell ⟨b, 1, none⟩ v') := by
  have hw := h1.size
  have hbl := h.lt b h.bO
  have key : ∀ k, k < w.heap.size → lv.ownBlock ≠ some k → w2.heap[k]? = w.heap[k]? := fun k hk hn => (hg.block k (by omega) (fun e => hn e.symm)).trans (h1.block k hk)
  have hbn : lv.ownBlock ≠ some b := fun e => (h.lO b e).2 rfl
  have hvb : ∀ k, v'.ownBlock = some k → k ≠ b := fun k hk e => by
    rcases hat k hk with h2 | h2
    · exact (h.lO k h2).2 e
    · omega
  have hcn : ∀ k, cv.ownBlock = some k → v'.ownBlock ≠ some k := fun k hk e => by
    rcases hat k e with h2 | h2
    · exact (h.cO k hk).2.2 h2
    · have := h.lt k (h.cO k hk).1; omega
  refine ⟨⟨?_, ?_, ?_, fun k hk => ⟨.inl (h.cO k hk).1, (h.cO k hk).2.1, hcn k hk⟩, fun k hk => ⟨.inr hk, hvb k hk⟩, .inl h.bO, fun k hk => ?_, hok⟩, ⟨?_, ?_, ?_, ?_, fun k hk hn => ?_, fun k hk => ?_⟩⟩
  · exact heap_setCell ((key b hbl hbn).trans h.ob) 1 v'
  · refine h.cells.grown fun k hk hk2 => ?_
    rw [Below.heap_setCell _ _ _ _ (h.cO k hk).2.1]
    exact key k hk2 (h.cO k hk).2.2
  · refine hl.grown fun k hk hk2 => ?_
    exact Below.heap_setCell _ _ _ _ (hvb k hk)
  · show k < (w2.setCell _ _).heap.size
    rw [show (w2.setCell ⟨b, 1, none⟩ v').heap.size = w2.heap.size by simp [World.setCell]]
    rcases hk with hk | hk
    · have := h.lt k hk; have := hg.size; omega
    · exact hl.lt hk
  · exact hg.os.trans h1.os
  · exact hg.tape.trans h1.tape
  · exact hg.output.trans h1.output
  · have := hg.size; simp [World.setCell]; omega
  · rw [Below.heap_setCell _ _ _ _ (fun e => hn (by rw [e]; exact h.bO))]
    exact key k hk (fun e => hn (h.lO k e).1)
  · rcases hk with hk | hk
    · exact .inl hk
    · rcases hat k hk with h2 | h2
      · exact .inl (h.lO k h2).1
      · exact .inr h2
theorem Cm.Par.rebase (h : Par w b O S cv lv) (m : Nat) : Par (w.setCell ⟨b, 2, none⟩ (.int .i64 (m : Nat))) b O ⟨S.cs, m, S.lg⟩ cv lv ∧ Moves O w O (w.setCell ⟨b, 2, none⟩ (.int .i64 (m : Nat))) :=
  ⟨⟨heap_setCell h.ob 2 _, h.cells.grown fun k hk _ => Below.heap_setCell _ _ _ _ (h.cO k hk).2.1, h.log.grown fun k hk _ => Below.heap_setCell _ _ _ _ (h.lO k hk).2, h.cO, h.lO, h.bO, fun k hk => by have := h.lt k hk; simp [World.setCell]; exact this, h.ok⟩, (Moves.refl O w).set h.bO _⟩
theorem Cm.Par.cell {g off n cap : Nat} (h : Par w b O S (.slice (some ⟨g, off, none⟩) n cap) lv) {i : Nat} {x : Int} (hx : S.cs[i]? = some x) : w.cell? ⟨g, off + i, none⟩ = some (.int .i64 x) ∧ w.frozen? ⟨g, off + i, none⟩ = false := by
  obtain ⟨a, c, e, _, _, _, h5⟩ := h.cells.shape (by decide)
  have hi := (List.getElem?_eq_some_iff.1 hx).1
  obtain ⟨g', off', rfl, _, h6⟩ := h5 (by omega)
  cases e
  exact h6 i _ (ints_at hx)
theorem Cm.Par.entry {g off n cap : Nat} (h : Par w b O S cv (.slice (some ⟨g, off, none⟩) n cap)) {i : Nat} {e : Nat × Int} (hx : S.lg[i]? = some e) : w.cell? ⟨g, off + i * 2, none⟩ = some (.int .i64 (e.1 : Nat)) ∧ w.cell? ⟨g, off + i * 2 + 1, none⟩ = some (.int .i64 e.2) := by
  obtain ⟨a, c, e', _, _, _, h5⟩ := h.log.shape (by decide)
  have hi := (List.getElem?_eq_some_iff.1 hx).1
  obtain ⟨g', off', rfl, _, h6⟩ := h5 (by omega)
  cases e'
  exact ⟨(h6 _ _ (ents_at hx).1).1, by have := (h6 _ _ (ents_at hx).2).1; rw [Nat.add_assoc]; exact this⟩
/-- A cell is stored to. -/
theorem Cm.Par.store (h : Par w b O S cv lv) {g off n cap : Nat} (hc : cv = .slice (some ⟨g, off, none⟩) n cap) {i : Nat} (hi : i < S.cs.length) (v : Int) :
    Par (w.setCell ⟨g, off + i, none⟩ (.int .i64 v)) b O ⟨S.cs.set i v, S.base, S.lg⟩ cv lv ∧ Moves O w O (w.setCell ⟨g, off + i, none⟩ (.int .i64 v)) := by
  have hgb : ∀ k, (Value.slice (some ⟨g, off, none⟩) n cap).ownBlock = some k → k = g := fun k hk => by simpa [Value.ownBlock] using hk.symm
  have hO := h.cO g (by rw [hc]; rfl)
  have hcs := h.cells
  have hn : n = S.cs.length := by
    obtain ⟨a, c, e, _⟩ := hcs.shape (by decide)
    rw [hc] at e
    cases e
    rfl
  rw [hc, hn] at hcs
  refine ⟨⟨?_, ?_, ?_, h.cO, h.lO, h.bO, fun k hk => ?_, fun j e he => ?_⟩, (Moves.refl O w).set hO.1 _⟩
  · rw [Below.heap_setCell _ _ _ _ (fun e => hO.2.1 e.symm)]
    exact h.ob
  · rw [hc, hn]
    have h2 := hcs.set (i := i) (by omega) (.int .i64 v)
    rw [ints_set] at h2
    rw [show (S.cs.set i v).length = S.cs.length from List.length_set ..]
    exact h2
  · refine h.log.grown fun k hk _ => Below.heap_setCell _ _ _ _ (fun e => hO.2.2 ?_)
    rw [hk, e]
  · have := h.lt k hk; simp [World.setCell]; exact this
  · show e.1 < (S.cs.set i v).length
    rw [List.length_set]; exact h.ok j e he
end
set_option maxHeartbeats 4000000 in
theorem cmSet_par {w : World} {b : Nat} {O : Nat → Prop} {S : Me} {cv lv : Value} (h : Par w b O S cv lv) (hN : S.cs.length ≤ 10000) (hP : S.pos ≤ 10000) (i v : Int) :
    Calls Try.prog 31 #[.pointer (some ⟨b, 0, none⟩), .int .i64 i, .int .i64 v] w fun e w' => e = .returned (.tuple #[]) ∧ ∃ O', Mo w' b O' (S.set i v) ∧ Moves O w O' w' := by
  have kh := Lib.hid (h.has hN i)
  cases hc : cin S.cs.length i with
  | false =>
    have hy := Lib.hid (Me.set_out hc v)
    have h' := Lib.hid h
    rw [hc] at kh
    clear hc h
    go_enter Try.func31, Try.ntmps31
    go_wp2_with (first | (go_at_call 42; with_reducible refine kh.out.mono ?_; rintro e w1 ⟨rfl, rfl⟩))
    refine bodyPost_ret (v := .tuple #[]) (by simp [results, Try.results31, go_sem]) rfl ⟨rfl, O, by rw [hy.out]; exact ⟨_, _, h'.out⟩, Moves.refl _ _⟩
  | true =>
    have hi := cin_iff.1 hc
    have hy := Lib.hid (Me.set_in hc v)
    rw [hc] at kh
    obtain ⟨j, rfl⟩ : ∃ j : Nat, i = (j : Int) := ⟨i.toNat, by omega⟩
    have hj : j < S.cs.length := by omega
    obtain ⟨x, hx⟩ : ∃ x, S.cs[j]? = some x := ⟨_, List.getElem?_eq_getElem hj⟩
    have hx0 := hx
    have hgd := Lib.hid (show S.cs.getD ((j : Int)).toNat 0 = x from by simp [List.getD, hx])
    have c0 := h.at0
    have c1 := h.at1
    have fb := h.frozen 1
    obtain ⟨a, cap, hcv, hcap, _, _, h5⟩ := h.cells.shape (by decide)
    obtain ⟨g, off, ha, hg, h6⟩ := h5 (by omega)
    subst ha
    obtain ⟨la, lcap, hlv, _, _, _, _⟩ := h.log.shape (by decide)
    have hcv' := Lib.hid hcv
    subst hcv
    subst hlv
    have c2 := (h6 j _ (ints_at hx)).1
    have f2 := (h6 j _ (ints_at hx)).2
    obtain ⟨i0, hi0, hz0, hz1, hz2⟩ := info_parts info_entry
    have hi0' := Lib.hid hi0; clear hi0
    have hz0' := Lib.hid hz0; clear hz0
    have hz1' := Lib.hid hz1; clear hz1
    have hz2' := Lib.hid hz2; clear hz2
    have hll : S.lg.length ≤ 10000 := by unfold Me.pos at hP; omega
    have hgb := h.cO g rfl
    have hbb := h.lt b h.bO
    have hnb := Lib.hid (fun e => (h.lO b e).2 rfl : (Value.slice la S.lg.length lcap).ownBlock ≠ some b)
    have hng := Lib.hid hgb.2.2
    have hlog := Lib.hid h.log
    have h' := Lib.hid h
    have mk := Lib.hid (fun w' (hw : w.grownBy w' (Value.slice la S.lg.length lcap).ownBlock) => (⟨(World.cell?_of_block (hw.block b hbb (fun e => hnb.out e.symm))).trans c0, (World.cell?_of_block (hw.block b hbb (fun e => hnb.out e.symm))).trans c1, (World.cell?_of_block (hw.block g hg (fun e => hng.out e.symm))).trans c2⟩ :
      w'.cell? ⟨b, 0, none⟩ = some (.slice (some ⟨g, off, none⟩) S.cs.length cap) ∧ w'.cell? ⟨b, 1, none⟩ = some (.slice la S.lg.length lcap) ∧ w'.cell? ⟨g, off + j, none⟩ = some (.int .i64 x)))
    have mf := Lib.hid (fun w' (hw : w.grownBy w' (Value.slice la S.lg.length lcap).ownBlock) => (World.frozen?_of_block (hw.block b hbb (fun e => hnb.out e.symm))).trans fb)
    have hgne := hgb.2.1
    clear hgb h h5 h6 hx hc
    have hx' := Lib.hid hx0
    clear hx0
    generalize hE : S.lg.length = ln at *
    generalize hn : S.cs.length = n at *
    have hE' := Lib.hid hE
    have hn' := Lib.hid hn
    clear hE hn
    have hbA : Below w.heap.size w (w.drew.alloc (.cells #[.int .i64 (j : Nat), .int .i64 x] 69)) := ((Below.refl _ w).drew).alloc (by simp) _
    have hbC : Below w.heap.size w ((w.alloc (.cells #[.int .i64 (j : Nat), .int .i64 x] 69)).drew) := (((Below.refl _ w).alloc (Nat.le_refl _) _).drew)
    have bD : w.grownBy w.drew (Value.slice la ln lcap).ownBlock := ⟨rfl, rfl, rfl, Nat.le_refl _, fun _ _ _ => rfl⟩
    have bA : w.grownBy (w.drew.alloc (.cells #[.int .i64 (j : Nat), .int .i64 x] 69)) (Value.slice la ln lcap).ownBlock := ⟨hbA.os, hbA.tape, hbA.output, hbA.size, fun k hk _ => hbA.block k hk⟩
    have bC : w.grownBy ((w.alloc (.cells #[.int .i64 (j : Nat), .int .i64 x] 69)).drew) (Value.slice la ln lcap).ownBlock := ⟨hbC.os, hbC.tape, hbC.output, hbC.size, fun k hk _ => hbC.block k hk⟩
    have oA := Lib.hid (hlog.out.carry hbA)
    have oC := Lib.hid (hlog.out.carry hbC)
    have hbA' := Lib.hid hbA
    have hbC' := Lib.hid hbC
    clear hbA hbC
    go_enter Try.func31, Try.ntmps31
    go_upto_region 1 with (first | (go_at_call 42; with_reducible refine kh.out.mono ?_; rintro e w1 ⟨rfl, rfl⟩))
    go_region_law (first
        | (refine step_append_srow _ (by rfl) _ _ _ (by rfl) 69 i0 _ 2 16 Try.underlying63 hi0'.out hz0'.out hz1'.out hz2'.out rfl (by decide) _ ln (ents S.lg) (by rfl) oA.out ⟨w.heap.size, 0, none⟩ 1 1 [.int .i64 (j : Nat), .int .i64 x] (by rfl) rfl (cm_news w.drew _ _ _) (cm_two _ _) (by omega) (by unfold maxLen; omega) (by omega) ?_; intro gb ob cb w2 hown2 hgrow2 hat2 hlt2; have hown2' := Lib.hid hown2; have hB2 := grown_trans bA hgrow2; have hat2' := Lib.hid hat2; have hgrow2' := Lib.hid hgrow2; have f1 := mf.out _ hB2; have c1b := (mk.out _ hB2).2.1; have hAt := Lib.hid hbA'.out; clear hown2 hgrow2 hat2 hlt2))
    all_goals
      obtain ⟨hp, hm⟩ := h'.out.relog hAt.out (v' := .slice (some ⟨gb, ob, none⟩) (ln + 1) cb) (E := S.lg ++ [(j, x)]) (fun i e he => by
        rcases Nat.lt_or_ge i S.lg.length with h2 | h2
        · rw [List.getElem?_append_left h2] at he; exact h'.out.ok i e he
        · rw [List.getElem?_append_right h2] at he
          have h3 := (List.getElem?_eq_some_iff.1 he).1
          simp only [List.length_cons, List.length_nil] at h3
          rw [show i - S.lg.length = 0 by omega] at he
          cases he
          rw [hn'.out]; exact hj) (by rw [ents_append, List.length_append, hE'.out]; exact hown2'.out) hgrow2'.out (fun k hk => by
        rcases hat2'.out with h8 | h8
        · left; rw [h8]; simpa [Value.ownBlock] using hk
        · right; rw [← show gb = k by simpa [Value.ownBlock] using hk, h8]; exact hAt.out.size)
      clear hown2' hgrow2' hat2' hB2 f1 c1b hAt c0 c1 c2 f2 fb
      generalize w2.setCell ⟨b, 1, none⟩ (.slice (some ⟨gb, ob, none⟩) (ln + 1) cb) = V at *
      have c0 := hp.at0
      obtain ⟨c2, f2⟩ := hp.cell (show (⟨S.cs, S.base, S.lg ++ [(j, x)]⟩ : Me).cs[j]? = some x from hx'.out)
      obtain ⟨hp2, hm2⟩ := hp.store rfl (show j < (⟨S.cs, S.base, S.lg ++ [(j, x)]⟩ : Me).cs.length from by rw [hn'.out]; exact hj) v
      have hp2' := Lib.hid hp2
      have hm2' := Lib.hid (hm.trans hm2)
      clear hp hm hp2 hm2
      go_wp2
      go_end0
      exact ⟨rfl, _, by rw [hy.out, hgd.out]; exact ⟨_, _, hp2'.out⟩, hm2'.out⟩
end Go.Proofs.Ytlpacihkmfgegaa
