/- Package cellmem: Undo. -/
import Derived.Test.YtlpacihkmfgegaaCmD
namespace Go.Proofs.Ytlpacihkmfgegaa
open Go.ChangeShapes Go.WideShapes Go.ChangeAt Go.RowKit
open Cm
set_option linter.unusedSimpArgs false
set_option linter.unusedVariables false

/-- The memory when t entries of the log have been taken back. -/
def Cm.mid (S : Me) (t : Nat) : Me := ⟨restore (S.lg.drop (S.lg.length - t)) S.cs, S.base, S.lg.take (S.lg.length - t)⟩
theorem Cm.mid_zero (S : Me) : mid S 0 = S := by
  unfold mid
  rw [Nat.sub_zero, List.drop_eq_nil_of_le (Nat.le_refl _), List.take_of_length_le (Nat.le_refl _)]
  rfl
theorem Cm.mid_succ {S : Me} {t q : Nat} (hq : S.lg.length - t = q + 1) {e : Nat × Int} (he : S.lg[q]? = some e) : mid S (t + 1) = ⟨(mid S t).cs.set e.1 e.2, S.base, (mid S t).lg.take q⟩ := by
  unfold mid
  rw [show S.lg.length - (t + 1) = q by omega, hq]
  have hl := (List.getElem?_eq_some_iff.1 he).1
  have hd : S.lg.drop q = e :: S.lg.drop (q + 1) := by rw [List.drop_eq_getElem_cons hl]; congr 1; exact (List.getElem?_eq_some_iff.1 he).2
  rw [hd, List.take_take, Nat.min_eq_left (by omega)]
  rfl
theorem Cm.mid_at {S : Me} {t q : Nat} (hq : S.lg.length - t = q + 1) : (mid S t).lg[q]? = S.lg[q]? ∧ (mid S t).lg.length = q + 1 := by
  unfold mid
  rw [hq]
  exact ⟨by rw [List.getElem?_take, if_pos (by omega)], by rw [List.length_take]; omega⟩
theorem Cm.mid_undo {S : Me} {m : Int} (h : S.err m = 0) : mid S (S.pos - m.toNat) = S.undo m := by
  obtain ⟨_, _, h3, h4, h5⟩ := Me.undo_pos h
  unfold Me.undo mid
  rw [if_pos h, show S.lg.length - (S.pos - m.toNat) = m.toNat - S.base by unfold Me.pos at *; omega]
theorem Cm.mid_len (S : Me) (t : Nat) : (mid S t).cs.length = S.cs.length := restore_len _ _
theorem mark_minus {S : Me} {m : Int} (h : S.err m = 0) : (S.pos : Int) - m = ((S.pos - m.toNat : Nat) : Int) ∧ S.pos - m.toNat ≤ S.lg.length ∧ 0 ≤ m ∧ m ≤ S.pos := by
  obtain ⟨_, _, h3, h4, h5⟩ := Me.undo_pos h
  unfold Me.pos at *
  omega

set_option maxHeartbeats 8000000 in
theorem cmUndo_par {w : World} {b : Nat} {O : Nat → Prop} {S : Me} {cv lv : Value} (h : Par w b O S cv lv) (hN : S.cs.length ≤ 10000) (hP : S.pos ≤ 10000) (m : Int) :
    Calls Try.prog 34 #[.pointer (some ⟨b, 0, none⟩), .int .i64 m] w fun e w' => e = .returned (.int .i64 (S.err m)) ∧ ∃ O', Mo w' b O' (S.undo m) ∧ Moves O w O' w' := by
  have kc := Lib.hid (h.check hP m)
  have h' := Lib.hid h
  clear h
  by_cases hz : S.err m = 0
  · obtain ⟨m1, m2, m3, m4⟩ := mark_minus hz
    have hy := Lib.hid (mid_undo hz)
    rw [hz] at kc ⊢
    have km := Lib.hid (fun W (hb : Below w.heap.size w W) => (h'.out.carry hb).mark hP)
    obtain ⟨cnt, hcnt⟩ : ∃ cnt, cnt = S.pos - m.toNat := ⟨_, rfl⟩
    rw [← hcnt] at m1 m2 hy
    obtain ⟨p, hp⟩ : ∃ p, p = S.pos := ⟨_, rfl⟩
    have hLL : S.lg.length ≤ 10000 := by unfold Me.pos at hP; omega
    rw [← hp] at m1 m4 km hP
    clear hcnt hp hz
    have hcp : cnt ≤ p := by omega
    go_enter Try.func34, Try.ntmps34
    go_wp2_with (first
      | (go_at_call 43; with_reducible refine kc.out.mono ?_; rintro e w1 ⟨rfl, hb1⟩; have hb1' := Lib.hid hb1; clear hb1)
      | (go_at_call 24; with_reducible refine (km.out _ hb1'.out).mono ?_; rintro e w2 ⟨rfl, hb2⟩; have hb2' := Lib.hid (below_step hb1'.out hb2); clear hb2))
    go_loopw [6, 17] (fun nv i wr => ∃ t : Nat, t ≤ cnt ∧ i = .int .i64 (t : Nat) ∧ ∃ O', Mo wr b O' (mid S t) ∧ Moves O w O' wr) (fun _ i _ => cnt - (intOf i).toNat)
    case atStart => exact ⟨0, Nat.zero_le _, rfl, O, by rw [mid_zero]; exact ⟨_, _, h'.out.carry hb2'.out⟩, Moves.below O hb2'.out⟩
    case round =>
      obtain ⟨t, ht, rfl, O', hpo, hm⟩ := hrel
      by_cases hlt : t < cnt
      · obtain ⟨cv', lv', hp⟩ := hpo
        obtain ⟨q, hq⟩ : ∃ q, S.lg.length - t = q + 1 := ⟨S.lg.length - t - 1, by omega⟩
        obtain ⟨q1, q2⟩ := mid_at hq
        obtain ⟨e, he⟩ : ∃ e, S.lg[q]? = some e := ⟨_, List.getElem?_eq_getElem (by omega)⟩
        rw [he] at q1
        have hstep := Lib.hid (mid_succ hq he)
        have hok := hp.ok _ _ q1
        obtain ⟨la, lcap, hlv, hl1, hl2, _, hl3⟩ := hp.log.shape (by decide)
        obtain ⟨h0, off, rfl, _, _⟩ := hl3 (by omega)
        subst hlv
        obtain ⟨ca, ccap, hcv, hc1, hc2, _, hc3⟩ := hp.cells.shape (by decide)
        obtain ⟨g, goff, rfl, _, _⟩ := hc3 (by omega)
        subst hcv
        obtain ⟨x, hx⟩ : ∃ x, (mid S t).cs[e.1]? = some x := ⟨_, List.getElem?_eq_getElem hok⟩
        obtain ⟨d0, d1⟩ := hp.entry q1
        obtain ⟨d2, f2⟩ := hp.cell hx
        have c0 := hp.at0
        have c1 := hp.at1
        have fb := hp.frozen 1
        have hp' := Lib.hid hp
        have hm' := Lib.hid hm
        have hmid : (mid S t).cs.length ≤ 10000 := by rw [mid_len]; exact hN
        have hokl := Lib.hid hok
        have hx' := Lib.hid hx
        have q2' := Lib.hid q2
        rw [q2] at c1 hl1
        clear hp hm hl3 hc3 q1 he hx fb
        obtain ⟨e0, e1⟩ := e
        simp only at *
        have hql : q + 1 ≤ 10000 := by rw [← hq]; omega
        clear q2 hq
        generalize hn : (mid S t).cs.length = n at *
        have hn' := Lib.hid hn
        clear hn
        have i1 : ((q + 1 : Nat) : Int) - 1 = (q : Int) := by omega
        go_wp2_with fail
        refine wp_region_tail 21 (by kernel_rfl) (by kernel_rfl) ?_
        intro W hK
        have g_c0 := fun x => carry ((hK.below x)) c0
        have g_c1 := fun x => carry ((hK.below x)) c1
        have g_d0 := fun x => carry ((hK.below x)) d0
        have g_d1 := fun x => carry ((hK.below x)) d1
        have g_d2 := fun x => carry ((hK.below x)) d2
        simp only [List.take_succ_cons, List.take_zero, List.drop_succ_cons, List.drop_zero]
        repeat (go_big_quiet_step (fail))
        refine wpQuiet_nil ?_
        intro wq hw'
        have hbq := kept_in hK hw'
        clear g_c0 g_c1 g_d0 g_d1 g_d2
        clear hw' hK W
        replace c0 := carry (hbq) c0
        replace c1 := carry (hbq) c1
        replace d0 := carry (hbq) d0
        replace d1 := carry (hbq) d1
        replace d2 := carry (hbq) d2
        have hp2 := hp'.out.carry hbq
        have f2 := (hp2.cell hx'.out).2
        have hm2 := Lib.hid (hm'.out.step hbq)
        go_upto_region 8 with fail
        obtain ⟨hp3, hm3⟩ := hp2.store rfl (show e0 < (mid S t).cs.length from by rw [hn'.out]; exact hokl.out) e1
        have hm3' := Lib.hid (hm2.out.trans hm3)
        clear hp2 hm2 hm3 c0 c1 d0 d1 d2 f2 hbq hp' hm' hx'
        generalize World.setCell _ ⟨g, goff + e0, none⟩ (.int .i64 e1) = V at *
        have c1 := hp3.at1
        have fb := hp3.frozen 1
        rw [q2'.out] at c1
        have hp3' := Lib.hid hp3
        clear hp3
        have j0 : (0 : Int) ≤ (q : Int) := by omega
        have j1 : (q : Int) ≤ (lcap : Int) := by omega
        have j2 : ¬ lcap = 0 := by omega
        go_wp2_with fail
        have hlog := hp3'.out.log
        simp only at hlog
        rw [q2'.out] at hlog
        have hlt2 := hlog.take (m := q) (by omega)
        have hlen : ((mid S t).lg.take q).length = q := by rw [List.length_take, q2'.out]; omega
        rw [ents_take] at hlt2
        obtain ⟨hp4, hm4⟩ := hp3'.out.relog (Below.refl _ _) (w2 := V) (v' := .slice (some ⟨h0, off, none⟩) q lcap) (E := (mid S t).lg.take q) (fun i e he => hp3'.out.ok i e (by
            rw [List.getElem?_take] at he
            split at he
            · exact he
            · cases he)) (by rw [hlen]; exact hlt2) ⟨rfl, rfl, rfl, Nat.le_refl _, fun _ _ _ => rfl⟩ (fun k hk => .inl (by simpa [Value.ownBlock] using hk))
        refine ⟨⟨t + 1, by omega, by go_num, _, ?_, hm3'.out.trans hm4⟩, ?_⟩
        · rw [hstep.out]; exact ⟨_, _, hp4⟩
        · simp [intOf]; omega
      · obtain rfl : t = cnt := by omega
        have hp' := Lib.hid hpo
        have hm' := Lib.hid hm
        clear hpo hm
        go_wp2
        go_ret
        exact ⟨rfl, O', by rw [← hy.out]; exact hp'.out, hm'.out⟩
  · have hy := Lib.hid (Me.undo_bad hz)
    have hne : (S.err m == 0) = false := by simpa using hz
    generalize S.err m = er at *
    clear hz
    go_enter Try.func34, Try.ntmps34
    go_wp2_with (first
      | (go_at_call 43; with_reducible refine kc.out.mono ?_; rintro e w1 ⟨rfl, hb1⟩; have hb1' := Lib.hid hb1; clear hb1))
    go_ret
    exact ⟨rfl, O, by rw [hy.out]; exact ⟨_, _, h'.out.carry hb1'.out⟩, Moves.below O hb1'.out⟩
end Go.Proofs.Ytlpacihkmfgegaa
