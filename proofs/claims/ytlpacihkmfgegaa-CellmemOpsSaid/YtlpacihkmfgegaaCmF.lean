/- Package cellmem: Discard. -/
import Derived.Test.YtlpacihkmfgegaaCmD
namespace Go.Proofs.Ytlpacihkmfgegaa
open Go.ChangeShapes Go.WideShapes Go.ChangeAt Go.RowKit
open Cm
set_option linter.unusedSimpArgs false
set_option linter.unusedVariables false

section
variable {w : World} {b : Nat} {O : Nat → Prop} {S : Me} {cv lv : Value}
/-- The log from a mark on, its value fixed. -/
theorem Cm.Par.sinceV (h : Par w b O S cv lv) (hP : S.pos ≤ 10000) {m : Int} (hm : S.err m = 0) : ∃ va vc, SRow w 69 2 (.slice va (S.lg.drop (m.toNat - S.base)).length vc) (S.lg.drop (m.toNat - S.base)).length (ents (S.lg.drop (m.toNat - S.base))) ∧
    (∀ g, (Value.slice va (S.lg.drop (m.toNat - S.base)).length vc).ownBlock = some g → lv.ownBlock = some g) ∧
    ∀ W, Below w.heap.size w W → Calls Try.prog 45 #[.pointer (some ⟨b, 0, none⟩), .int .i64 m] W fun e w' => e = .returned (.slice va (S.lg.drop (m.toNat - S.base)).length vc) ∧ Below W.heap.size W w' := by
  obtain ⟨h1, _, h3, h4, h5⟩ := Me.undo_pos hm
  obtain ⟨a, cap, hlv, hc1, hc2, hc3, _⟩ := h.log.shape (by decide)
  have hl := h.log
  rw [hlv] at hl
  obtain ⟨k, hk⟩ : ∃ k, k = m.toNat - S.base := ⟨_, rfl⟩
  have hkn : k ≤ S.lg.length := by unfold Me.pos at h4; omega
  have hd := hl.drop hkn
  rw [ents_drop, ← List.length_drop] at hd
  rw [← hk]
  refine ⟨if cap = k then a else a.map (·.add (k * 2)), cap - k, hd.1, by rw [hlv]; exact hd.2, fun W hb => ?_⟩
  have hW := h.carry hb
  have c1 := hW.at1
  have c2 := hW.at2
  rw [hlv] at c1
  have hsub : m - (S.base : Int) = (k : Int) := sub_mark h5 hk h3
  have hmb : 0 ≤ m ∧ m ≤ 10000 := ⟨h5, by omega⟩
  have hbb : S.base ≤ 10000 := by omega
  unfold maxLen at hc2
  rw [List.length_drop]
  clear hd hl h h1 h3 h4 h5 hP hm hk hW hlv hb
  generalize S.base = r at *
  generalize S.lg.length = n at *
  have i0 : (0 : Int) ≤ (k : Int) := by omega
  have i1 : (k : Int) ≤ (n : Int) := by omega
  have i2 : (n : Int) ≤ (cap : Int) := by omega
  have e2 : Try.prog.underlying 63 = some (.slice 69) := Try.underlying63
  go_enter Try.func45, Try.ntmps45
  go_wp2_with fail
  go_quiet (fail)
  by_cases hck : cap = k
  · go_wp2
    refine bodyPost_ret (v := .slice a (n - k) 0) (by simp [results, Try.results45, go_sem]) rfl ⟨?_, below_drewN _ _⟩
    rfl
  · go_wp2
    refine bodyPost_ret (v := .slice (a.map (·.add (k * 2))) (n - k) (cap - k)) (by simp [results, Try.results45, go_sem]) rfl ⟨?_, below_drewN _ _⟩
    rfl
end
set_option maxHeartbeats 4000000 in
theorem cmDiscard_par {w : World} {b : Nat} {O : Nat → Prop} {S : Me} {cv lv : Value} (h : Par w b O S cv lv) (hP : S.pos ≤ 10000) (m : Int) :
    Calls Try.prog 37 #[.pointer (some ⟨b, 0, none⟩), .int .i64 m] w fun e w' => e = .returned (.int .i64 (S.err m)) ∧ ∃ O', Mo w' b O' (S.discard m) ∧ Moves O w O' w' := by
  have kc := Lib.hid (h.check hP m)
  have h' := Lib.hid h
  clear h
  by_cases hz : S.err m = 0
  · obtain ⟨h1, _, h3, h4, h5⟩ := Me.undo_pos hz
    obtain ⟨va, vc, hs1, hs2, ks⟩ := h'.out.sinceV hP hz
    have hy := Lib.hid (show S.discard m = ⟨S.cs, m.toNat, S.lg.drop (m.toNat - S.base)⟩ from by unfold Me.discard; rw [if_pos hz])
    rw [hz] at kc ⊢
    obtain ⟨k, hk⟩ : ∃ k, k = m.toNat - S.base := ⟨_, rfl⟩
    have hsub : m - (S.base : Int) = (k : Int) := sub_mark h5 hk h3
    obtain ⟨r, rfl⟩ : ∃ r : Nat, m = (r : Int) := ⟨m.toNat, by omega⟩
    rw [Int.toNat_natCast] at *
    rw [← hk] at hs1 hs2 ks hy
    have hok := Lib.hid (show ∀ (j : Nat) (e : Nat × Int), (S.lg.drop k)[j]? = some e → e.1 < S.cs.length from fun j e he => by rw [List.getElem?_drop] at he; exact h'.out.ok _ e he)
    have hs1' := Lib.hid hs1
    have hs2' := Lib.hid hs2
    have ks' := Lib.hid ks
    have hkl : k ≤ 10000 := by omega
    have hEl : (S.lg.drop k).length ≤ 10000 := by rw [List.length_drop]; unfold Me.pos at hP; omega
    have hb0 : S.base ≤ 10000 := by omega
    have hr0 : r ≤ 10000 := by omega
    have c2 := h'.out.at2
    clear hs1 hs2 ks hz h1 h3 h4 h5 hk hP
    obtain ⟨E, hE⟩ : ∃ E, E = S.lg.drop k := ⟨_, rfl⟩
    rw [← hE] at hs1' hs2' ks' hy hok hEl
    clear hE
    have kcl := Lib.hid (fun W (hb : Below w.heap.size w W) => cloneE_any _ E.length (ents E) W (hs1'.out.carry hb) (ents_one E) (by omega))
    generalize hn : E.length = n at *
    have hn' := Lib.hid hn
    clear hn
    generalize S.base = q at *
    go_enter Try.func37, Try.ntmps37
    go_upto_region 4 with (first
      | (go_at_call 43; with_reducible refine kc.out.mono ?_; rintro e w1 ⟨rfl, hb1⟩; have c2 := carry hb1 c2; have hb1' := Lib.hid hb1; clear hb1))
    have kss := fun W (hb : Below w1.heap.size w1 W) => ks'.out W (below_step hb1'.out hb)
    refine wp_region_made (by kernel_rfl) (by kernel_rfl) ?_
    intro W hK
    have g_c2 := fun x => carry ((hK.below x)) c2
    repeat (go_big_quiet_step ((go_at_call 45; with_reducible exact met_made (kss _ (hK.below _)))))
    refine wpQuiet_nil ?_
    intro wq hw'
    have hbq := kept_in hK hw'
    clear g_c2
    clear hw' hK W
    replace c2 := carry (hbq) c2
    have hbq' := Lib.hid (below_step hb1'.out hbq)
    clear hbq kss
    have hend := Lib.hid (show ∀ (w3 : World) (a : Option Addr) (c : Nat), Below w.heap.size w w3 → SRow w3 69 2 (.slice a n c) n (ents E) → (∀ g, (Value.slice a n c).ownBlock = some g → lv.ownBlock = some g ∨ w.heap.size ≤ g) →
        ∃ O', Mo ((w3.setCell ⟨b, 1, none⟩ (.slice a n c)).setCell ⟨b, 2, none⟩ (.int .i64 (r : Nat))) b O' (S.discard r) ∧ Moves O w O' ((w3.setCell ⟨b, 1, none⟩ (.slice a n c)).setCell ⟨b, 2, none⟩ (.int .i64 (r : Nat))) from fun w3 a c hb hs ho => by
      obtain ⟨hp, hm⟩ := h'.out.relog hb (w2 := w3) (v' := .slice a n c) (E := E) hok.out (by rw [hn'.out]; exact hs) ⟨rfl, rfl, rfl, Nat.le_refl _, fun _ _ _ => rfl⟩ ho
      obtain ⟨hp2, hm2⟩ := hp.rebase r
      refine ⟨_, ?_, hm.trans hm2⟩
      rw [hy.out]
      exact ⟨_, _, hp2⟩)
    by_cases hkn : n ≤ k
    · have c1 := (h'.out.carry hbq'.out).at1
      have f1 := (h'.out.carry hbq'.out).frozen 1
      have f2 := (h'.out.carry hbq'.out).frozen 2
      clear c1 c2 f1 f2
      go_upto_region 7 with (first
        | (go_at_call 44; with_reducible refine (kcl.out _ hbq'.out).mono ?_; rintro e w3 ⟨v', rfl, hr, hb3⟩; obtain ⟨a', n', c', rfl⟩ := own_shape hr; have hr' := Lib.hid hr; have hb3' := Lib.hid (below_step hbq'.out hb3); clear hr hb3))
      have hlt := Lib.hid hr'.out.lt
      obtain ⟨a9, c9, e9, _⟩ := (SRow.owned hr'.out).shape (by decide)
      simp only [Value.slice.injEq] at e9
      obtain ⟨rfl, rfl, rfl⟩ := e9
      have hw := hbq'.out.size
      have c1 := (h'.out.carry hb3'.out).at1
      have c2 := (h'.out.carry hb3'.out).at2
      have f1 := (h'.out.carry hb3'.out).frozen 1
      have f2 := (h'.out.carry hb3'.out).frozen 2
      have hsr := Lib.hid (SRow.owned hr'.out)
      have hfin := Lib.hid (hend.out w3 a' c' hb3'.out hsr.out (fun g hg => .inr (Nat.le_trans hbq'.out.size (hlt.out g hg).1)))
      go_wp2_with fail
      go_ret
      exact ⟨rfl, hfin.out⟩
    · have c1 := (h'.out.carry hbq'.out).at1
      have f1 := (h'.out.carry hbq'.out).frozen 1
      have f2 := (h'.out.carry hbq'.out).frozen 2
      have hfin := Lib.hid (hend.out wq va vc hbq'.out (hs1'.out.carry hbq'.out) (fun g hg => .inl (hs2'.out g hg)))
      go_wp2_with fail
      go_ret
      exact ⟨rfl, hfin.out⟩
  · have hy := Lib.hid (Me.discard_bad hz)
    have hne : (S.err m == 0) = false := by simpa using hz
    generalize S.err m = er at *
    clear hz
    go_enter Try.func37, Try.ntmps37
    go_wp2_with (first
      | (go_at_call 43; with_reducible refine kc.out.mono ?_; rintro e w1 ⟨rfl, hb1⟩; have hb1' := Lib.hid hb1; clear hb1))
    go_ret
    exact ⟨rfl, O, by rw [hy.out]; exact ⟨_, _, h'.out.carry hb1'.out⟩, Moves.below O hb1'.out⟩
end Go.Proofs.Ytlpacihkmfgegaa
