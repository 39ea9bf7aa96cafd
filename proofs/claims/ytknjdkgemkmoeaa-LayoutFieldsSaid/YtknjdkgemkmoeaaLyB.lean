/- Package layout: the numbers, the bodies, the rooms and the doors of a setup. -/
import Derived.Test.YtknjdkgemkmoeaaLyA
namespace Go.Proofs.Ytknjdkgemkmoeaa
open Go.ChangeShapes Go.WideShapes Go.ChangeAt Go.RowKit
set_option linter.unusedSimpArgs false
set_option linter.unusedVariables false

/-- A slice of structs, each enc x as cells (sz of them). -/
def SR {α : Type} (enc : α → List Value) (sz : Nat) (w : World) (a : Option Addr) (n c : Nat) (L : List α) : Prop :=
  n = L.length ∧ n ≤ c ∧ c ≤ maxLen ∧ (0 < n → ∃ g, a = some ⟨g, 0, none⟩ ∧ g < w.heap.size ∧ ∀ (k : Nat) (x : α), L[k]? = some x → ∀ (j : Nat) (u : Value), (enc x)[j]? = some u → w.cell? ⟨g, k * sz + j, none⟩ = some u)
theorem SR.carry {α : Type} {enc : α → List Value} {sz : Nat} {w w' : World} {a : Option Addr} {n c : Nat} {L : List α} (h : SR enc sz w a n c L) (hb : Below w.heap.size w w') : SR enc sz w' a n c L := by
  obtain ⟨h1, h2, h3, h4⟩ := h
  refine ⟨h1, h2, h3, fun hp => ?_⟩
  obtain ⟨g, e, hg, hc⟩ := h4 hp
  exact ⟨g, e, Nat.lt_of_lt_of_le hg hb.size, fun k x hk j u hu => Proofs.Ytknjdkgemkmoeaa.carry hb (hc k x hk j u hu)⟩
theorem SR.nil {α : Type} {enc : α → List Value} {sz : Nat} (w : World) (a : Option Addr) (c : Nat) (hc : c ≤ maxLen) : SR enc sz w a 0 c ([] : List α) := ⟨rfl, Nat.zero_le _, hc, fun h => absurd h (Nat.lt_irrefl 0)⟩

/-- A body. -/
structure Bod where
  r : Int
  pa : Option Addr
  pn : Nat
  pc : Nat
  x : Int
  y : Int
  vx : Int
  vy : Int
  im : Int
  a : Int
  b : Int
def Bod.enc (b : Bod) : List Value := [.int .i64 b.r, .slice b.pa b.pn b.pc, .int .i64 b.x, .int .i64 b.y, .int .i64 b.vx, .int .i64 b.vy, .int .i64 b.im, .int .i64 b.a, .int .i64 b.b]
abbrev R4 := Int × Int × Int × Int
def encR (r : R4) : List Value := [.int .i64 r.1, .int .i64 r.2.1, .int .i64 r.2.2.1, .int .i64 r.2.2.2]
def encD (d : Int × Int) : List Value := [.int .i64 d.1, .int .i64 d.2]

def numB (S : Su) : Bool := btw S.fog 0 4194304 && (wthB S.gx S.gy && (btw S.push 0 16384 && (btw S.drag 0 1024 && (btw S.rest 0 1024 && (btw S.rounds 1 4 && btw S.fuel 0 1000)))))

set_option maxHeartbeats 4000000 in
theorem hasValidNumbers_any (S : Su) (w : World) : Calls Try.prog 71 #[(.agg #[.int .i64 S.pl, .slice S.ba S.bn S.bc, .int .i64 S.x0, .int .i64 S.y0, .int .i64 S.x1, .int .i64 S.y1, .slice S.ra S.rn S.rc, .slice S.da S.dn S.dc, .int .i64 S.fog, .int .i64 S.gx, .int .i64 S.gy, .int .i64 S.push, .int .i64 S.drag, .int .i64 S.rest, .int .i64 S.rounds, .int .i64 S.fuel])] w fun e w' => e = .returned (.bool (numB S)) ∧ Below w.heap.size w w' := by
  have hb0 := Lib.hid (alloc_below w (.cells #[.int .i64 S.pl, .slice S.ba S.bn S.bc, .int .i64 S.x0, .int .i64 S.y0, .int .i64 S.x1, .int .i64 S.y1, .slice S.ra S.rn S.rc, .slice S.da S.dn S.dc, .int .i64 S.fog, .int .i64 S.gx, .int .i64 S.gy, .int .i64 S.push, .int .i64 S.drag, .int .i64 S.rest, .int .i64 S.rounds, .int .i64 S.fuel] 54))
  have hS := SuC.new w S
  have k1 := Lib.hid (between_any S.fog 0 4194304)
  have k2 := Lib.hid (isWithin_any S.gx S.gy)
  have k3 := Lib.hid (between_any S.push 0 16384)
  have k4 := Lib.hid (between_any S.drag 0 1024)
  have k5 := Lib.hid (between_any S.rest 0 1024)
  have k6 := Lib.hid (between_any S.rounds 1 4)
  have k7 := Lib.hid (between_any S.fuel 0 1000)
  unfold numB
  generalize btw S.fog 0 4194304 = p1 at *
  generalize wthB S.gx S.gy = p2 at *
  generalize btw S.push 0 16384 = p3 at *
  generalize btw S.drag 0 1024 = p4 at *
  generalize btw S.rest 0 1024 = p5 at *
  generalize btw S.rounds 1 4 = p6 at *
  generalize btw S.fuel 0 1000 = p7 at *
  go_enter Try.func71, Try.ntmps71
  go_upto_region 1 with fail
  have hS' := Lib.hid hS
  have hs0 : w.heap.size < (w.alloc (.cells #[.int .i64 S.pl, .slice S.ba S.bn S.bc, .int .i64 S.x0, .int .i64 S.y0, .int .i64 S.x1, .int .i64 S.y1, .slice S.ra S.rn S.rc, .slice S.da S.dn S.dc, .int .i64 S.fog, .int .i64 S.gx, .int .i64 S.gy, .int .i64 S.push, .int .i64 S.drag, .int .i64 S.rest, .int .i64 S.rounds, .int .i64 S.fuel] 54)).heap.size := by rw [World.size_alloc]; omega
  generalize w.alloc (.cells #[.int .i64 S.pl, .slice S.ba S.bn S.bc, .int .i64 S.x0, .int .i64 S.y0, .int .i64 S.x1, .int .i64 S.y1, .slice S.ra S.rn S.rc, .slice S.da S.dn S.dc, .int .i64 S.fog, .int .i64 S.gx, .int .i64 S.gy, .int .i64 S.push, .int .i64 S.drag, .int .i64 S.rest, .int .i64 S.rounds, .int .i64 S.fuel] 54) = W at *
  obtain ⟨h0, h1, ⟨h2, h3, h4, h5⟩, h6, h7, h8, h9, h10, h11, h12, h13, h14, h15⟩ := hS
  clear h0 h1 h2 h3 h4 h5 h6 h7 hS'
  cases p1
  · go_wp2_with fail
    with_reducible refine (k1.out _).mono ?_
    rintro e w1 ⟨rfl, rfl⟩
    go_wp2
    go_ret
    exact ⟨rfl, hb0.out⟩
  · go_wp2_with fail
    with_reducible refine (k1.out _).mono ?_
    rintro e w1 ⟨rfl, rfl⟩
    go_wp2_with fail
    with_reducible refine (k2.out _).mono ?_
    rintro e w2 ⟨rfl, hb2⟩
    have hB := Lib.hid (below_step hb0.out hb2)
    have h11 := carry hb2 h11
    have h12 := carry hb2 h12
    have h13 := carry hb2 h13
    have h14 := carry hb2 h14
    have h15 := carry hb2 h15
    have hs0 := Nat.lt_of_lt_of_le hs0 hb2.size
    clear hb2 h8 h9 h10
    cases p2
    · go_wp2
      go_ret
      exact ⟨rfl, hB.out⟩
    · go_wp2_with fail
      with_reducible refine (k3.out _).mono ?_
      rintro e w1 ⟨rfl, rfl⟩
      cases p3
      · go_wp2
        go_ret
        exact ⟨rfl, hB.out⟩
      · go_wp2_with fail
        with_reducible refine (k4.out _).mono ?_
        rintro e w1 ⟨rfl, rfl⟩
        cases p4
        · go_wp2
          go_ret
          exact ⟨rfl, hB.out⟩
        · go_wp2_with fail
          with_reducible refine (k5.out _).mono ?_
          rintro e w1 ⟨rfl, rfl⟩
          cases p5
          · go_wp2
            go_ret
            exact ⟨rfl, hB.out⟩
          · go_wp2_with fail
            with_reducible refine (k6.out _).mono ?_
            rintro e w1 ⟨rfl, rfl⟩
            cases p6
            · go_wp2
              go_ret
              exact ⟨rfl, hB.out⟩
            · go_wp2_with fail
              with_reducible refine (k7.out _).mono ?_
              rintro e w1 ⟨rfl, rfl⟩
              go_wp2
              go_ret
              exact ⟨rfl, hB.out⟩

def bodyB (S : Su) (b : Bod) : Bool := (insB b.x b.y S.x0 S.y0 S.x1 S.y1 && (wthB b.vx b.vy && btw b.im 0 4096)) && (btw b.a (-2147483647) 2147483647 && btw b.b (-2147483647) 2147483647)
def headB (S : Su) : Bool := btw S.pl 1 8 && (btw S.bn S.pl 24 && prpB S.x0 S.y0 S.x1 S.y1)
def bodsB (S : Su) (bs : List Bod) : Bool := headB S && bs.all (bodyB S)
theorem all_snoc {α : Type} {f : α → Bool} {L : List α} {k : Nat} {x : α} (h : L[k]? = some x) (hk : ∀ (j : Nat) (y : α), j < k → L[j]? = some y → f y = true) (hx : f x = true) : ∀ (j : Nat) (y : α), j < k + 1 → L[j]? = some y → f y = true := fun j y hj hy => by
  rcases Nat.lt_or_ge j k with h1 | h1
  · exact hk j y h1 hy
  · obtain rfl : j = k := by omega
    rw [h] at hy; cases hy; exact hx
theorem all_no {α : Type} {f : α → Bool} {L : List α} {k : Nat} {x : α} (h : L[k]? = some x) (hx : f x = false) : L.all f = false := by
  rw [List.all_eq_false]; exact ⟨x, List.mem_of_getElem? h, by rw [hx]; decide⟩
theorem all_yes {α : Type} {f : α → Bool} {L : List α} {n : Nat} (hn : n = L.length) (hk : ∀ (j : Nat) (y : α), j < n → L[j]? = some y → f y = true) : L.all f = true := by
  rw [List.all_eq_true]; intro x hx
  obtain ⟨k, hk'⟩ := List.getElem?_of_mem hx
  exact hk k x (by rw [hn]; exact (List.getElem?_eq_some_iff.1 hk').1) hk'
end Go.Proofs.Ytknjdkgemkmoeaa
