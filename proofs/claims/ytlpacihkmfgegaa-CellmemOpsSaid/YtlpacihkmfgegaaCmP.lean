/- The reference of package cellmem: New, Discard, Undo. -/
import Derived.Test.YtlpacihkmfgegaaCmO
namespace Go.Proofs.Ytlpacihkmfgegaa
open Go.ChangeShapes Go.WideShapes Go.ChangeAt Go.RowKit
open Cm
set_option linter.unusedSimpArgs false
set_option linter.unusedVariables false

theorem h_over {W W' : World} (hb : Below W.heap.size W W') {k : Nat} {o : Obj} (h : W.heap[k]? = some o) : W'.heap[k]? = some o := (hb.block _ (Array.getElem?_eq_some_iff.1 h).1).trans h
theorem obj3 {W : World} {k : Nat} {a b c : Value} {t : TypeId} (h : W.heap[k]? = some (.cells #[a, b, c] t)) : W.cell? ⟨k, 0, none⟩ = some a ∧ W.cell? ⟨k, 1, none⟩ = some b ∧ W.cell? ⟨k, 2, none⟩ = some c ∧ W.frozen? ⟨k, 0, none⟩ = false ∧ W.frozen? ⟨k, 1, none⟩ = false ∧ W.frozen? ⟨k, 2, none⟩ = false ∧ k < W.heap.size :=
  ⟨heap_cell h 0, heap_cell h 1, heap_cell h 2, heap_frozen h 0, heap_frozen h 1, heap_frozen h 2, (Array.getElem?_eq_some_iff.1 h).1⟩
/-- A struct of three cells is stored whole. -/
theorem store3 {W : World} {k : Nat} {x y z : Value} {t : TypeId} (h : W.heap[k]? = some (.cells #[x, y, z] t)) (a b c : Value) :
    (((W.setCell ⟨k, 0, none⟩ a).setCell ⟨k, 1, none⟩ b).setCell ⟨k, 2, none⟩ c).heap[k]? = some (.cells #[a, b, c] t) ∧ (((W.setCell ⟨k, 0, none⟩ a).setCell ⟨k, 1, none⟩ b).setCell ⟨k, 2, none⟩ c).heap.size = W.heap.size ∧
    Moves (fun i => i = k) W (fun i => i = k) (((W.setCell ⟨k, 0, none⟩ a).setCell ⟨k, 1, none⟩ b).setCell ⟨k, 2, none⟩ c) :=
  ⟨heap_setCell (heap_setCell (heap_setCell h 0 a) 1 b) 2 c, by simp [World.setCell], (((Moves.refl (fun i => i = k) W).set (p := ⟨k, 0, none⟩) rfl a).set (p := ⟨k, 1, none⟩) rfl b).set (p := ⟨k, 2, none⟩) rfl c⟩
theorem row_one {W : World} {n : Nat} (x : Value) (t : TypeId) (hn : W.heap.size = n) : VL (W.alloc (.cells #[x] t)) (.slice (some ⟨n, 0, none⟩) 1 1) [x] := by
  subst hn
  refine ⟨_, 1, rfl, Nat.le_refl _, by decide, .inr ⟨W.heap.size, 0, rfl, by simp, fun i u hu => ?_⟩⟩
  rw [Nat.zero_add, World.cell?_alloc_new]
  simpa using hu
set_option maxHeartbeats 2000000 in
theorem refNew_any (v : Value) (l : List Int) (w : World) (h : IL w v l) (hz : Noz v) (hn : l.length ≤ 10000) :
    Calls Try.prog 14 #[v] w fun e w' => ∃ sv xs, e = .returned (refV sv (.slice none 0 0) (Rf.new l)) ∧ Rv w' sv (.slice none 0 0) xs (Rf.new l) ∧ (∀ g, Rown sv (.slice none 0 0) xs g → w.heap.size ≤ g ∧ g < w'.heap.size) ∧ Below w.heap.size w w' := by
  have hb := alloc_below w (.cells #[.slice none 0 0, .slice none 0 0, .int .i64 0] 28)
  have ko := Lib.hid (own_any v l _ (h.carry hb) hz hn)
  have hbv := Lib.hid hb
  obtain ⟨V, hV⟩ : ∃ V, V = w.alloc (.cells #[.slice none 0 0, .slice none 0 0, .int .i64 0] 28) := ⟨_, rfl⟩
  have hq := heap_alloc_new w (.cells #[.slice none 0 0, .slice none 0 0, .int .i64 0] 28)
  rw [← hV] at hbv ko hq
  have hV' := Lib.hid hV
  have hq' := Lib.hid hq
  clear h hz hb hV hq
  go_enter Try.func14, Try.ntmps14
  go_upto_region 1 with fail
  rw [show w.alloc (.cells #[.slice none 0 0, .slice none 0 0, .int .i64 0] 28) = V from hV'.out.symm]
  go_wp2_with (first | (go_at_call 40; with_reducible refine ko.out.mono ?_; rintro e y1 ⟨⟨vo, rfl, hr⟩, hb⟩; obtain ⟨oa, on, oc, rfl⟩ := own_shape hr; have hr1 := Lib.hid hr; have hq1 := h_over hb hq'.out; obtain ⟨c0, c1, c2, f0, f1, f2, hlt⟩ := obj3 hq1; have hq2 := Lib.hid hq1; have hb1 := Lib.hid hb; clear hr hb hq1))
  obtain ⟨hs, hsz, hm⟩ := store3 hq2.out (.slice (some ⟨y1.heap.size, 0, none⟩) 1 1) (.slice none 0 0) (.int .i64 0)
  have hqv : w.heap.size < V.heap.size := (Array.getElem?_eq_some_iff.1 hq'.out).1
  have hI := (own_il hr1.out).moves hm (fun g hg e => by have h1 := (hr1.out.lt g hg).1; have h2 : g = w.heap.size := e; omega)
  have hB := hm.toBelow (below_step hbv.out hb1.out) (fun i hi => by have h2 : i = w.heap.size := hi; omega)
  generalize ((y1.setCell ⟨w.heap.size, 0, none⟩ _).setCell ⟨w.heap.size, 1, none⟩ _).setCell ⟨w.heap.size, 2, none⟩ _ = Wz at *
  have h4 := h_over (alloc_below Wz (.cells #[.slice oa on oc] 22)) hs
  have hI4 := hI.carry (alloc_below Wz (.cells #[.slice oa on oc] 22))
  have hv4 := row_one (.slice oa on oc) 22 hsz
  have hB4 := below_step hB (alloc_below Wz (.cells #[.slice oa on oc] 22))
  have hsz4 : (Wz.alloc (.cells #[.slice oa on oc] 22)).heap.size = y1.heap.size + 1 := by rw [World.size_alloc, hsz]
  generalize Wz.alloc (.cells #[.slice oa on oc] 22) = W4 at *
  obtain ⟨e0, e1, e2, _⟩ := obj3 h4
  refine bodyPost_ret (v := .agg #[.slice (some ⟨y1.heap.size, 0, none⟩) 1 1, .slice none 0 0, .int .i64 0]) (by simp [results, Try.results14, go_sem, e0, e1, e2]) rfl ⟨_, [.slice oa on oc], rfl, ⟨hv4, rfl, fun i x l' hx hl => ?_, fun i x hx => ?_, IL.nil _, fun n c _ => rfl⟩, fun g hg => ?_, hB4⟩
  · have hi := (List.getElem?_eq_some_iff.1 hx).1
    simp only [List.length_cons, List.length_nil] at hi
    obtain rfl : i = 0 := by omega
    cases hx
    cases hl
    exact hI4
  · have hi := (List.getElem?_eq_some_iff.1 hx).1
    simp only [List.length_cons, List.length_nil] at hi
    obtain rfl : i = 0 := by omega
    cases hx
    exact noz_owned hr1.out
  · have hyv := hb1.out.size
    have hbs := hbv.out.size
    rcases hg with h1 | h1 | ⟨x, h1, h2⟩
    · have h3 : y1.heap.size = g := by simpa [Value.ownBlock] using h1
      omega
    · simp [Value.ownBlock] at h1
    · simp only [List.mem_singleton] at h1
      rw [h1] at h2
      have := hr1.out.lt g h2
      omega
end Go.Proofs.Ytlpacihkmfgegaa
