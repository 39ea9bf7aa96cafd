/- For UnionfindMerge: edges that may be nil, appended; how many groups are lost; SameInts and Has on groups. -/
import Derived.Test.YtalglkeabppabaaUfX
import Derived.Laws.AppendOwnNone
namespace Go.Proofs.Ytalglkeabppabaa
open Go.ChangeShapes Go.WideShapes Go.ChangeAt Go.RowKit
open Uf
set_option linter.unusedSimpArgs false
set_option linter.unusedVariables false

set_option maxHeartbeats 2000000 in
theorem edges0_any (v : Value) (Z : Nat → Int) (w : World) (h : IntsAt w v 1 Z 0) :
    Calls Try.prog 14 #[v] w fun e w' => e = .returned (.slice none 0 0) ∧ w = w' := by
  obtain ⟨a, cap, rfl, h1, h2, hZ, h3⟩ := h
  clear h1 h2 hZ h3
  have hd : decide (((0 : Nat) : Int) < ((0 : Nat) : Int)) = false := by decide
  go_enter Try.func14, Try.ntmps14
  go_wp2_with fail
  refine wp_loop_rounds 1 ?_
  rw [rounds_succ]
  go_wp2
  go_ret
  exact ⟨rfl, rfl⟩
/-- Edges, with what an empty list is. -/
theorem edgesM_any (v : Value) (Z : Nat → Int) (l : Nat) (w : World) (h : IntsAt w v 1 Z l) :
    Calls Try.prog 14 #[v] w fun e w' => ∃ v', e = .returned v' ∧ PL w' v' (edgesL Z l) ∧ ((edgesL Z l).length = 0 → v' = .slice none 0 0) ∧ Below w.heap.size w w' := by
  cases l with
  | zero =>
    refine (edges0_any v Z w h).mono ?_
    rintro e w' ⟨rfl, rfl⟩
    exact ⟨_, rfl, PL.nil _, fun _ => rfl, Below.refl _ _⟩
  | succ l =>
    refine (edges_any v Z _ w h).mono ?_
    rintro e w' ⟨v', rfl, h1, h2, h3⟩
    refine ⟨v', rfl, h1, fun h0 => ?_, h3⟩
    rw [edgesL_len] at h0
    omega

theorem wpList_append_own_opt {P : Program} {w : World} {ops : Array Oper} {rest : List Oper} {o : Oper} {a : Act} {Q : Exit → Act → World → Prop} (hgd : o.guard = none) (s x : Operand) (t : TypeId)
    (ho : o.op = .call { callee := .builtin .append, args := #[s, x], argTypes := #[t, t] })
    (base : Nat) (e : TypeId) (i : TypeInfo) (z : Value) (size bytes : Nat) (ht : P.underlying t = some (.slice e)) (hi : P.info? e = some i) (hz : i.zero = some z)
    (hsize : i.size = size) (hby : i.bytes = bytes) (hzs : z.cells.size = size) (hsz : 0 < size)
    (v : Value) (n : Nat) (xs : List Value) (hs : a.eval s = v) (hown : w.ownsRow base e size v n xs)
    (ax : Option Addr) (m c : Nat) (news : List Value) (hx : a.eval x = .slice ax m c) (hl : news.length = m * size) (h0 : m = 0 → ax = none ∧ c = 0) (hnews : 0 < m → ∃ ad, ax = some ad ∧ ∀ j u, news[j]? = some u → w.cell? (ad.add j) = some u) (h1 : ∀ u ∈ news, u.oneCell' = true)
    (h63 : n + m ≤ maxLen) (hbytes : (n + m) * bytes ≤ 140737488355328) (hbase : base ≤ w.heap.size)
    (h : ∀ v' w', w'.ownsRow base e size v' (n + m) (xs ++ news) → w.grownBy w' v.ownBlock → wpList P ops Q rest (a.put o.dst v') w') : wpList P ops Q (o :: rest) a w := by
  rcases Nat.eq_zero_or_pos m with hm | hm
  · obtain ⟨rfl, rfl⟩ := h0 hm
    subst hm
    have hn : news = [] := List.length_eq_zero_iff.1 (by rw [hl, Nat.zero_mul])
    subst hn
    refine wpList_append_own_none hgd s x t ho base e i size ht hi v n xs hs hown hx (h v w ?_ (grown_refl _ _))
    rw [List.append_nil]; exact hown
  · obtain ⟨ad, rfl, hN⟩ := hnews hm
    exact wpList_append_own w hgd s x t ho base e i z size bytes ht hi hz hsize hby hzs hsz v n xs hs hown ad m c news hx hl hN h1 h63 hbytes hbase (fun v' w' h2 h3 _ => h v' w' h2 h3)

theorem flatP_one (E : List (Int × Int)) : ∀ u ∈ flatP E, u.oneCell' = true := fun u hu => by
  unfold flatP at hu
  obtain ⟨p, _, hp⟩ := List.mem_flatMap.1 hu
  simp only [List.mem_cons, List.not_mem_nil, or_false] at hp
  rcases hp with rfl | rfl <;> rfl
/-- The cells of a row of pairs. -/
theorem flatP_news {w : World} {g off : Nat} {E : List (Int × Int)} (h : ∀ (i : Nat) (p : Int × Int), E[i]? = some p → w.cell? ⟨g, off + i * 2, none⟩ = some (.int .i64 p.1) ∧ w.cell? ⟨g, off + i * 2 + 1, none⟩ = some (.int .i64 p.2)) :
    ∀ (j : Nat) (u : Value), (flatP E)[j]? = some u → w.cell? ((⟨g, off, none⟩ : Addr).add j) = some u := fun j u hu => by
  have hj : j < E.length * 2 := by rw [← flatP_length]; exact (List.getElem?_eq_some_iff.1 hu).1
  obtain ⟨p, hp⟩ : ∃ p, E[j / 2]? = some p := ⟨_, List.getElem?_eq_getElem (by omega)⟩
  obtain ⟨h1, h2⟩ := flatP_at hp
  obtain ⟨c1, c2⟩ := h _ p hp
  have e : (⟨g, off, none⟩ : Addr).add j = ⟨g, off + j, none⟩ := by simp [Addr.add]
  rw [e]
  rcases Nat.mod_two_eq_zero_or_one j with h3 | h3
  · have h4 : j / 2 * 2 = j := by omega
    rw [h4] at h1 c1
    rw [h1] at hu
    cases hu
    exact c1
  · have h4 : j / 2 * 2 + 1 = j := by omega
    rw [Nat.add_assoc, h4] at c2
    rw [h4] at h2
    rw [h2] at hu
    cases hu
    exact c2
theorem lostN_le (k : Nat) (f : Nat → Int) (G : List (List Nat)) (t : Nat) : lostN k f G t ≤ t := by
  unfold lostN
  have := List.length_filter_le (fun g => !decide (g ∈ G)) ((grps k f).take t)
  rw [List.length_take] at this
  omega
theorem mem_natI_nat {l : List Nat} {a : Nat} : ((a : Nat) : Int) ∈ natI l ↔ a ∈ l := by
  rw [mem_natI]
  simp
theorem natI_dec (l m : List Nat) : decide (natI l = natI m) = decide (l = m) := by
  rw [Bool.eq_iff_iff, decide_eq_true_iff, decide_eq_true_iff]
  exact ⟨natI_inj, fun h => by rw [h]⟩
theorem take_mem_succ {G : List (List Nat)} {j : Nat} {h : List Nat} (g : List Nat) (hj : G[j]? = some h) : decide (g ∈ G.take (j + 1)) = (decide (g ∈ G.take j) || decide (g = h)) := by
  rw [List.take_add_one, hj, Option.toList_some, Bool.eq_iff_iff, decide_eq_true_iff, List.mem_append, List.mem_singleton, Bool.or_eq_true, decide_eq_true_iff, decide_eq_true_iff]
/-- What the law says of the groups behind one more edge. -/
theorem merge_end (k : Nat) (f : Nat → Int) (x y : Int) : (canU k f x y = false ∧ grps k (uniF k f x y) = grps k f ∧ lostN k f (grps k (uniF k f x y)) (grps k f).length = 0) ∨
    (canU k f x y = true ∧ (grps k (uniF k f x y)).length + 1 = (grps k f).length ∧ lostN k f (grps k (uniF k f x y)) (grps k f).length = 2 ∧
      ∀ (t : Nat) (g : List Nat), (grps k f)[t]? = some g → g ∉ grps k (uniF k f x y) → decide (x ∈ natI g) ≠ decide (y ∈ natI g)) := by
  cases h : canU k f x y with
  | false => exact .inl ⟨rfl, by rw [uniF_none h], by rw [uniF_none h]; exact lost_none k f⟩
  | true =>
    have h' := canU_iff.1 h
    have ha := inB_lt h'.1
    have hb := inB_lt h'.2.1
    have ex : x = (x.toNat : Nat) := by have := (inB_iff.1 h'.1).1; omega
    have ey : y = (y.toNat : Nat) := by have := (inB_iff.1 h'.2.1).1; omega
    have hu : uniF k f x y = mrg f x.toNat y.toNat := by unfold uniF; rw [if_pos h]
    refine .inr ⟨rfl, ?_, ?_, fun t g hg hn => ?_⟩
    · rw [hu, grps_length, grps_length]; exact heads_mrg ha hb h'.2.2
    · rw [hu]; exact lost_mrg ha hb h'.2.2
    · rw [hu] at hn
      have := lost_one ha hb h'.2.2 hg hn
      have e1 : decide (x ∈ natI g) = decide (x.toNat ∈ g) := by
        rw [Bool.eq_iff_iff, decide_eq_true_iff, decide_eq_true_iff]
        conv => lhs; rw [ex]
        exact mem_natI_nat
      have e2 : decide (y ∈ natI g) = decide (y.toNat ∈ g) := by
        rw [Bool.eq_iff_iff, decide_eq_true_iff, decide_eq_true_iff]
        conv => lhs; rw [ey]
        exact mem_natI_nat
      rw [e1, e2]; exact this
theorem play_snoc (k : Nat) (E : List (Int × Int)) (p : Int × Int) : playF k idL (E ++ [p]) = uniF k (playF k idL E) p.1 p.2 := by
  unfold playF; rw [List.foldl_append]; rfl
end Go.Proofs.Ytalglkeabppabaa
