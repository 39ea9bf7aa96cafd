/- Package resolve: what it says, as functions of integers, and the plain facts that the laws of stage 7 ask. Written before the package landed: nothing here speaks of its code. -/
import Derived.Test.YtihoanoanoaneaaFixMath
import Derived.Test.YtihoanoanoaneaaFixed
namespace Go.Proofs.Ytihoanoanoaneaa
open Fxm
set_option linter.unusedSimpArgs false
set_option linter.unusedVariables false

/-- A motion. -/
structure Mo where
  p0 : Int
  p1 : Int
  v0 : Int
  v1 : Int
  m : Int
/-- Of the domain. -/
structure Mo.Dom (a : Mo) : Prop where
  p0 : -1048576 ≤ a.p0 ∧ a.p0 ≤ 1048576
  p1 : -1048576 ≤ a.p1 ∧ a.p1 ≤ 1048576
  v0 : -16384 ≤ a.v0 ∧ a.v0 ≤ 16384
  v1 : -16384 ≤ a.v1 ∧ a.v1 ≤ 16384
  m : 0 ≤ a.m ∧ a.m ≤ 4096
structure Mo.Slow (a : Mo) : Prop where
  p0 : -262144 ≤ a.p0 ∧ a.p0 ≤ 262144
  p1 : -262144 ≤ a.p1 ∧ a.p1 ≤ 262144
  v0 : -2000 ≤ a.v0 ∧ a.v0 ≤ 2000
  v1 : -2000 ≤ a.v1 ∧ a.v1 ≤ 2000
  m : 0 ≤ a.m ∧ a.m ≤ 4096
theorem Mo.Slow.dom {a : Mo} (h : a.Slow) : a.Dom := ⟨by have := h.p0; omega, by have := h.p1; omega, by have := h.v0; omega, by have := h.v1; omega, h.m⟩

/-- The relative velocity along the normal. -/
def rvn (a b : Mo) (n0 n1 : Int) : Int := flr ((b.v0 - a.v0) * n0 + (b.v1 - a.v1) * n1) 1024
/-- The impulse: none where the bodies part. -/
def rj (a b : Mo) (n0 n1 e : Int) : Int := if rvn a b n0 n1 < 0 then flr (-rvn a b n0 n1 * (1024 + e)) (a.m + b.m) else 0
/-- How much of a normal's component a body gets. -/
def rsc (n f : Int) : Int := flr (n * f) 1024
/-- The impulse's and the position's factor for a body of inverse mass m. -/
def rfv (j m : Int) : Int := flr (j * m) 1024
def rfp (d m t : Int) : Int := flr (d * m) t
def cp (x : Int) : Int := clampV x (-1048576) 1048576
def cv (x : Int) : Int := clampV x (-16384) 16384
def resA (a b : Mo) (n0 n1 d e : Int) : Mo :=
  if a.m + b.m = 0 then a else
    ⟨cp (a.p0 - rsc n0 (rfp d a.m (a.m + b.m))), cp (a.p1 - rsc n1 (rfp d a.m (a.m + b.m))), cv (a.v0 - rsc n0 (rfv (rj a b n0 n1 e) a.m)), cv (a.v1 - rsc n1 (rfv (rj a b n0 n1 e) a.m)), a.m⟩
def resB (a b : Mo) (n0 n1 d e : Int) : Mo :=
  if a.m + b.m = 0 then b else
    ⟨cp (b.p0 + rsc n0 (rfp d b.m (a.m + b.m))), cp (b.p1 + rsc n1 (rfp d b.m (a.m + b.m))), cv (b.v0 + rsc n0 (rfv (rj a b n0 n1 e) b.m)), cv (b.v1 + rsc n1 (rfv (rj a b n0 n1 e) b.m)), b.m⟩

theorem cp_in {x : Int} (h : -1048576 ≤ x ∧ x ≤ 1048576) : cp x = x := by
  unfold cp clampV; rw [if_neg (by omega), if_neg (by omega)]
theorem cv_in {x : Int} (h : -16384 ≤ x ∧ x ≤ 16384) : cv x = x := by
  unfold cv clampV; rw [if_neg (by omega), if_neg (by omega)]
theorem rsc_zero (n : Int) : rsc n 0 = 0 := by unfold rsc; rw [Int.mul_zero]; exact flr_pos (by omega) (by omega)
theorem zero_rsc (f : Int) : rsc 0 f = 0 := by unfold rsc; rw [Int.zero_mul]; exact flr_pos (by omega) (by omega)
theorem rsc_one (f : Int) : rsc 1024 f = f := by unfold rsc; exact flr_pos (by omega) (by omega)
theorem rsc_neg (f : Int) : rsc (-1024) f = -f := by unfold rsc; exact flr_pos (by omega) (by omega)
theorem rfv_zero (j : Int) : rfv j 0 = 0 := by unfold rfv; rw [Int.mul_zero]; exact flr_pos (by omega) (by omega)
theorem zero_rfv (m : Int) : rfv 0 m = 0 := by unfold rfv; rw [Int.zero_mul]; exact flr_pos (by omega) (by omega)
theorem rfp_zero (d : Int) {t : Int} (ht : 0 < t) : rfp d 0 t = 0 := by unfold rfp; rw [Int.mul_zero]; exact flr_pos (by omega) (by omega)
theorem zero_rfp (m : Int) {t : Int} (ht : 0 < t) : rfp 0 m t = 0 := by unfold rfp; rw [Int.zero_mul]; exact flr_pos (by omega) (by omega)

/-! ## Bounds: what a walk of the code asks -/
theorem rvn_bd {a b : Mo} {n0 n1 N V : Int} (hN : 0 ≤ N ∧ N ≤ 1024) (hV : 0 ≤ V) (h0 : -N ≤ n0 ∧ n0 ≤ N) (h1 : -N ≤ n1 ∧ n1 ≤ N)
    (a0 : -V ≤ a.v0 ∧ a.v0 ≤ V) (a1 : -V ≤ a.v1 ∧ a.v1 ≤ V) (b0 : -V ≤ b.v0 ∧ b.v0 ≤ V) (b1 : -V ≤ b.v1 ∧ b.v1 ≤ V) :
    1024 * rvn a b n0 n1 ≤ 4 * (V * N) ∧ -(4 * (V * N)) - 1024 < 1024 * rvn a b n0 n1 := by
  have p := prod_bd (a := b.v0 - a.v0) (b := n0) (A := 2 * V) (B := N) (by omega) (by omega) (by omega) (by omega) h0.1 h0.2
  have q := prod_bd (a := b.v1 - a.v1) (b := n1) (A := 2 * V) (B := N) (by omega) (by omega) (by omega) (by omega) h1.1 h1.2
  have s := flr_spec_pos (a := (b.v0 - a.v0) * n0 + (b.v1 - a.v1) * n1) (b := 1024) (by omega)
  have e : 2 * V * N = 2 * (V * N) := by rw [Int.mul_assoc]
  rw [e] at p q
  unfold rvn
  omega
/-- The impulse times the sum of the inverse masses is at most what was asked. -/
theorem rj_bd {a b : Mo} {n0 n1 e : Int} (he : 0 ≤ e) (ht : 0 < a.m + b.m) :
    0 ≤ rj a b n0 n1 e ∧ (rj a b n0 n1 e = 0 ∨ rvn a b n0 n1 < 0) ∧ (a.m + b.m) * rj a b n0 n1 e ≤ (if rvn a b n0 n1 < 0 then -rvn a b n0 n1 * (1024 + e) else 0) := by
  unfold rj
  by_cases h : rvn a b n0 n1 < 0
  · rw [if_pos h, if_pos h]
    have s := flr_spec_pos (a := -rvn a b n0 n1 * (1024 + e)) ht
    have hp : 0 ≤ -rvn a b n0 n1 * (1024 + e) := Int.mul_nonneg (by omega) (by omega)
    refine ⟨?_, .inr h, s.1⟩
    rcases Int.lt_or_le (flr (-rvn a b n0 n1 * (1024 + e)) (a.m + b.m)) 0 with hn | hn
    · have h2 : (a.m + b.m) * flr (-rvn a b n0 n1 * (1024 + e)) (a.m + b.m) + (a.m + b.m) ≤ 0 := by
        have : (a.m + b.m) * (flr (-rvn a b n0 n1 * (1024 + e)) (a.m + b.m) + 1) ≤ 0 := Int.mul_nonpos_of_nonneg_of_nonpos (by omega) (by omega)
        rwa [Int.mul_add, Int.mul_one] at this
      omega
    · exact hn
  · rw [if_neg h, if_neg h]
    exact ⟨Int.le_refl _, .inl rfl, by rw [Int.mul_zero]; exact Int.le_refl _⟩
/-- With a relative velocity of at most U and a restitution of at most One: the factor is at most twice U, and for equal masses at most U. -/
theorem rfv_bd {a b : Mo} {n0 n1 e U m : Int} (he : 0 ≤ e ∧ e ≤ 1024) (ht : 0 < a.m + b.m) (hU : 0 ≤ U) (hu : -U ≤ rvn a b n0 n1) (hm0 : 0 ≤ m) (hm : m ≤ a.m + b.m) :
    0 ≤ rfv (rj a b n0 n1 e) m ∧ rfv (rj a b n0 n1 e) m ≤ 2 * U ∧ (2 * m = a.m + b.m → rfv (rj a b n0 n1 e) m ≤ U ∧ (rvn a b n0 n1 < 0 → rfv (rj a b n0 n1 e) m ≤ -rvn a b n0 n1)) := by
  obtain ⟨j0, jc, jt⟩ := rj_bd (a := a) (b := b) (n0 := n0) (n1 := n1) he.1 ht
  have hz : 0 ≤ rvn a b n0 n1 → rj a b n0 n1 e = 0 := fun h => by unfold rj; rw [if_neg (by omega)]
  generalize rj a b n0 n1 e = j at *
  generalize rvn a b n0 n1 = v at *
  have hjm0 : 0 ≤ j * m := Int.mul_nonneg j0 hm0
  have hjm : j * m ≤ (a.m + b.m) * j := by rw [Int.mul_comm]; exact Int.mul_le_mul_of_nonneg_right hm j0
  generalize a.m + b.m = t at *
  have s := flr_spec_pos (a := j * m) (b := 1024) (by omega)
  unfold rfv
  generalize flr (j * m) 1024 = f at *
  by_cases h : v < 0
  · rw [if_pos h] at jt
    have e1 : -v * (1024 + e) ≤ -v * 2048 := Int.mul_le_mul_of_nonneg_left (by omega) (by omega)
    refine ⟨by omega, by omega, fun h2 => ?_⟩
    have e2 : t * j = 2 * (j * m) := by rw [← h2, Int.mul_assoc, Int.mul_comm m j]
    omega
  · rw [hz (by omega), Int.zero_mul] at s
    refine ⟨by omega, by omega, fun _ => ⟨by omega, fun h' => absurd h' h⟩⟩
theorem rfp_bd {d m t : Int} (hd : 0 ≤ d) (ht : 0 < t) (hm0 : 0 ≤ m) (hm : m ≤ t) : 0 ≤ rfp d m t ∧ rfp d m t ≤ d := by
  have s := flr_spec_pos (a := d * m) ht
  have h1 : 0 ≤ d * m := Int.mul_nonneg hd hm0
  have h2 : d * m ≤ t * d := by rw [Int.mul_comm]; exact Int.mul_le_mul_of_nonneg_right hm hd
  unfold rfp
  generalize flr (d * m) t = f at *
  constructor
  · rcases Int.lt_or_le f 0 with h | h
    · have : t * (f + 1) ≤ 0 := Int.mul_nonpos_of_nonneg_of_nonpos (by omega) (by omega)
      rw [Int.mul_add, Int.mul_one] at this
      omega
    · exact h
  · rcases Int.lt_or_le d f with h | h
    · have : t * (d + 1) ≤ t * f := Int.mul_le_mul_of_nonneg_left (by omega) (by omega)
      rw [Int.mul_add, Int.mul_one] at this
      omega
    · exact h
theorem rsc_bd {n f F : Int} (hn : -1024 ≤ n ∧ n ≤ 1024) (hf : 0 ≤ f ∧ f ≤ F) : -F ≤ rsc n f ∧ rsc n f ≤ F := by
  have p := prod_bd (a := n) (b := f) (A := 1024) (B := F) (by omega) (by omega) hn.1 hn.2 (by omega) hf.2
  exact flr_bd1024 p.1 p.2
theorem rsc_bd_half {n f F : Int} (hn : -512 ≤ n ∧ n ≤ 512) (hf : 0 ≤ f ∧ f ≤ 2 * F) : -F ≤ rsc n f ∧ rsc n f ≤ F := by
  have p := prod_bd (a := n) (b := f) (A := 512) (B := 2 * F) (by omega) (by omega) hn.1 hn.2 (by omega) hf.2
  exact flr_bd1024 (by omega) (by omega)

/-! ## ResolveStatic -/
theorem resA_still {a b : Mo} {n0 n1 d e : Int} (h : a.Dom) (hb : b.Dom) (hm : a.m = 0) : resA a b n0 n1 d e = a := by
  unfold resA
  by_cases ht : a.m + b.m = 0
  · rw [if_pos ht]
  · have := hb.m
    rw [if_neg ht, hm, rfp_zero d (by omega), rfv_zero, rsc_zero, rsc_zero, Int.sub_zero, Int.sub_zero, Int.sub_zero, Int.sub_zero, cp_in h.p0, cp_in h.p1, cv_in h.v0, cv_in h.v1, ← hm]
theorem resB_still {a b : Mo} {n0 n1 d e : Int} (h : a.Dom) (hb : b.Dom) (hm : b.m = 0) : resB a b n0 n1 d e = b := by
  unfold resB
  by_cases ht : a.m + b.m = 0
  · rw [if_pos ht]
  · have := h.m
    rw [if_neg ht, hm, rfp_zero d (by omega), rfv_zero, rsc_zero, rsc_zero, Int.add_zero, Int.add_zero, Int.add_zero, Int.add_zero, cp_in hb.p0, cp_in hb.p1, cv_in hb.v0, cv_in hb.v1, ← hm]
theorem res_parting {a b : Mo} {n0 n1 d e : Int} (h : a.Dom) (hb : b.Dom) (hv : 0 ≤ rvn a b n0 n1) :
    (resA a b n0 n1 d e).v0 = a.v0 ∧ (resA a b n0 n1 d e).v1 = a.v1 ∧ (resB a b n0 n1 d e).v0 = b.v0 ∧ (resB a b n0 n1 d e).v1 = b.v1 := by
  have hj : rj a b n0 n1 e = 0 := by unfold rj; rw [if_neg (by omega)]
  unfold resA resB
  by_cases ht : a.m + b.m = 0
  · rw [if_pos ht, if_pos ht]; exact ⟨rfl, rfl, rfl, rfl⟩
  · rw [if_neg ht, if_neg ht, hj, zero_rfv, zero_rfv, rsc_zero, rsc_zero, Int.sub_zero, Int.sub_zero, Int.add_zero, Int.add_zero]
    exact ⟨cv_in h.v0, cv_in h.v1, cv_in hb.v0, cv_in hb.v1⟩
theorem res_flat {a b : Mo} {n0 n1 e : Int} (h : a.Dom) (hb : b.Dom) :
    (resA a b n0 n1 0 e).p0 = a.p0 ∧ (resA a b n0 n1 0 e).p1 = a.p1 ∧ (resB a b n0 n1 0 e).p0 = b.p0 ∧ (resB a b n0 n1 0 e).p1 = b.p1 := by
  unfold resA resB
  have := h.m
  have := hb.m
  by_cases ht : a.m + b.m = 0
  · rw [if_pos ht, if_pos ht]; exact ⟨rfl, rfl, rfl, rfl⟩
  · rw [if_neg ht, if_neg ht, zero_rfp _ (by omega), zero_rfp _ (by omega), rsc_zero, rsc_zero, Int.sub_zero, Int.sub_zero, Int.add_zero, Int.add_zero]
    exact ⟨cp_in h.p0, cp_in h.p1, cp_in hb.p0, cp_in hb.p1⟩
theorem resA_m (a b : Mo) (n0 n1 d e : Int) : (resA a b n0 n1 d e).m = a.m := by unfold resA; split <;> rfl
theorem resB_m (a b : Mo) (n0 n1 d e : Int) : (resB a b n0 n1 d e).m = b.m := by unfold resB; split <;> rfl

theorem cp_bd (x : Int) : -1048576 ≤ cp x ∧ cp x ≤ 1048576 := by unfold cp clampV; split <;> (try split) <;> omega
theorem cv_bd (x : Int) : -16384 ≤ cv x ∧ cv x ≤ 16384 := by unfold cv clampV; split <;> (try split) <;> omega
theorem resA_dom {a b : Mo} {n0 n1 d e : Int} (ha : a.Dom) (hb : b.Dom) : (resA a b n0 n1 d e).Dom := by
  unfold resA
  split
  · exact ha
  · exact ⟨cp_bd _, cp_bd _, cv_bd _, cv_bd _, ha.m⟩
theorem resB_dom {a b : Mo} {n0 n1 d e : Int} (ha : a.Dom) (hb : b.Dom) : (resB a b n0 n1 d e).Dom := by
  unfold resB
  split
  · exact hb
  · exact ⟨cp_bd _, cp_bd _, cv_bd _, cv_bd _, hb.m⟩

/-! ## An axis -/
/-- One of the four unit vectors along the axes. -/
def Ax (n0 n1 : Int) : Prop := (n0 = 1024 ∧ n1 = 0) ∨ (n0 = 0 ∧ n1 = 1024) ∨ (n0 = -1024 ∧ n1 = 0) ∨ (n0 = 0 ∧ n1 = -1024)
theorem Ax.neg {n0 n1 : Int} (h : Ax n0 n1) : Ax (-n0) (-n1) := by unfold Ax at *; omega
theorem Ax.bd {n0 n1 : Int} (h : Ax n0 n1) : (-1024 ≤ n0 ∧ n0 ≤ 1024) ∧ (-1024 ≤ n1 ∧ n1 ≤ 1024) := by unfold Ax at h; omega
/-- A dot with an axis is a component, exactly. -/
theorem Ax.dot {n0 n1 : Int} (h : Ax n0 n1) (x y : Int) : flr (x * n0 + y * n1) 1024 = (if n0 = 1024 then x else if n1 = 1024 then y else if n0 = -1024 then -x else -y) := by
  rcases h with ⟨rfl, rfl⟩ | ⟨rfl, rfl⟩ | ⟨rfl, rfl⟩ | ⟨rfl, rfl⟩
  · rw [if_pos rfl]; exact flr_pos (by omega) (by omega)
  · rw [if_neg (by omega), if_pos rfl]; exact flr_pos (by omega) (by omega)
  · rw [if_neg (by omega), if_neg (by omega), if_pos rfl]; exact flr_pos (by omega) (by omega)
  · rw [if_neg (by omega), if_neg (by omega), if_neg (by omega)]; exact flr_pos (by omega) (by omega)
theorem Ax.rsc_neg {n0 n1 : Int} (h : Ax n0 n1) (f : Int) : rsc (-n0) f = -rsc n0 f ∧ rsc (-n1) f = -rsc n1 f := by
  rcases h with ⟨rfl, rfl⟩ | ⟨rfl, rfl⟩ | ⟨rfl, rfl⟩ | ⟨rfl, rfl⟩
  · exact ⟨by rw [Go.Proofs.Ytihoanoanoaneaa.rsc_neg, rsc_one], by rw [Int.neg_zero, zero_rsc]; rfl⟩
  · exact ⟨by rw [Int.neg_zero, zero_rsc]; rfl, by rw [Go.Proofs.Ytihoanoanoaneaa.rsc_neg, rsc_one]⟩
  · exact ⟨by show rsc 1024 f = _; rw [Go.Proofs.Ytihoanoanoaneaa.rsc_neg, rsc_one]; omega, by rw [Int.neg_zero, zero_rsc]; rfl⟩
  · exact ⟨by rw [Int.neg_zero, zero_rsc]; rfl, by show rsc 1024 f = _; rw [Go.Proofs.Ytihoanoanoaneaa.rsc_neg, rsc_one]; omega⟩
theorem Ax.rvn_neg {a b : Mo} {n0 n1 : Int} (h : Ax n0 n1) : rvn b a (-n0) (-n1) = rvn a b n0 n1 := by
  unfold rvn
  congr 1
  have e1 : (a.v0 - b.v0) * -n0 = (b.v0 - a.v0) * n0 := by rw [← Int.neg_mul_neg, Int.neg_sub, Int.neg_neg]
  have e2 : (a.v1 - b.v1) * -n1 = (b.v1 - a.v1) * n1 := by rw [← Int.neg_mul_neg, Int.neg_sub, Int.neg_neg]
  rw [e1, e2]

/-! ## ResolveSwapped -/
theorem res_swap {a b : Mo} {n0 n1 d e : Int} (h : Ax n0 n1) : resA a b n0 n1 d e = resB b a (-n0) (-n1) d e ∧ resB a b n0 n1 d e = resA b a (-n0) (-n1) d e := by
  have hj : rj b a (-n0) (-n1) e = rj a b n0 n1 e := by unfold rj; rw [h.rvn_neg, Int.add_comm b.m a.m]
  unfold resA resB
  rw [hj, Int.add_comm b.m a.m]
  simp only [(h.rsc_neg _).1, (h.rsc_neg _).2]
  exact ⟨by simp only [Int.sub_eq_add_neg], by simp only [Int.sub_neg]⟩

/-! ## ResolveMomentum -/
theorem res_momentum {a b : Mo} {n0 n1 d e : Int} (ha : a.Slow) (hb : b.Slow) (hm : b.m = a.m) (h0 : -512 ≤ n0 ∧ n0 ≤ 512) (h1 : -512 ≤ n1 ∧ n1 ≤ 512) (he : 0 ≤ e ∧ e ≤ 1024) :
    (resA a b n0 n1 d e).v0 + (resB a b n0 n1 d e).v0 = a.v0 + b.v0 ∧ (resA a b n0 n1 d e).v1 + (resB a b n0 n1 d e).v1 = a.v1 + b.v1 := by
  unfold resA resB
  by_cases ht : a.m + b.m = 0
  · rw [if_pos ht, if_pos ht]; exact ⟨rfl, rfl⟩
  · have ma := ha.m
    have r := rvn_bd (a := a) (b := b) (n0 := n0) (n1 := n1) (N := 512) (V := 2000) (by omega) (by omega) h0 h1 ha.v0 ha.v1 hb.v0 hb.v1
    have f := rfv_bd (a := a) (b := b) (n0 := n0) (n1 := n1) (e := e) (U := 4000) (m := a.m) he (by omega) (by omega) (by omega) (by omega) (by omega)
    have f' := f.2.2 (by omega)
    rw [if_neg ht, if_neg ht, hm]
    have s0 := rsc_bd (F := 4000) (n := n0) (f := rfv (rj a b n0 n1 e) a.m) (by omega) ⟨f.1, f'.1⟩
    have s1 := rsc_bd (F := 4000) (n := n1) (f := rfv (rj a b n0 n1 e) a.m) (by omega) ⟨f.1, f'.1⟩
    have a0 := ha.v0
    have a1 := ha.v1
    have b0 := hb.v0
    have b1 := hb.v1
    simp only
    rw [cv_in (by omega), cv_in (by omega), cv_in (by omega), cv_in (by omega)]
    exact ⟨by omega, by omega⟩
theorem energy {p q s u : Int} (hs : 0 ≤ s) (hu : s ≤ u) (h : u = p - q) : (p - s) * (p - s) + (q + s) * (q + s) ≤ p * p + q * q := by
  have h1 : 0 ≤ s * (u - s) := Int.mul_nonneg hs (by omega)
  subst h
  have e : (p - s) * (p - s) + (q + s) * (q + s) = p * p + q * q - 2 * (s * (p - q - s)) := by grind
  omega
theorem energy' {p q s u : Int} (hs : 0 ≤ s) (hu : s ≤ u) (h : u = q - p) : (p + s) * (p + s) + (q - s) * (q - s) ≤ p * p + q * q := by
  have := energy (p := q) (q := p) hs hu h
  omega
theorem res_energy {a b : Mo} {n0 n1 d e : Int} (ha : a.Slow) (hb : b.Slow) (hm : b.m = a.m) (hn : Ax n0 n1) (he : 0 ≤ e ∧ e ≤ 1024) :
    ((resA a b n0 n1 d e).v0 * (resA a b n0 n1 d e).v0 + (resA a b n0 n1 d e).v1 * (resA a b n0 n1 d e).v1) + ((resB a b n0 n1 d e).v0 * (resB a b n0 n1 d e).v0 + (resB a b n0 n1 d e).v1 * (resB a b n0 n1 d e).v1) ≤ (a.v0 * a.v0 + a.v1 * a.v1) + (b.v0 * b.v0 + b.v1 * b.v1) := by
  have ma := ha.m
  have a0 := ha.v0
  have a1 := ha.v1
  have b0 := hb.v0
  have b1 := hb.v1
  unfold resA resB
  by_cases ht : a.m + b.m = 0
  · rw [if_pos ht, if_pos ht]; exact Int.le_refl _
  · have hd : rvn a b n0 n1 = (if n0 = 1024 then b.v0 - a.v0 else if n1 = 1024 then b.v1 - a.v1 else if n0 = -1024 then -(b.v0 - a.v0) else -(b.v1 - a.v1)) := hn.dot _ _
    have hu : -4000 ≤ rvn a b n0 n1 := by rw [hd]; split <;> (try split) <;> (try split) <;> omega
    have f := rfv_bd (a := a) (b := b) (n0 := n0) (n1 := n1) (e := e) (U := 4000) (m := a.m) he (by omega) (by omega) hu (by omega) (by omega)
    obtain ⟨f1, f2⟩ := f.2.2 (by omega)
    have f0 := f.1
    have hz : 0 ≤ rvn a b n0 n1 → rfv (rj a b n0 n1 e) a.m = 0 := fun h => by
      unfold rj; rw [if_neg (by omega), zero_rfv]
    rw [if_neg ht, if_neg ht, hm]
    generalize rfv (rj a b n0 n1 e) a.m = s at *
    generalize rvn a b n0 n1 = v at *
    simp only
    have hsv : s = 0 ∨ (v < 0 ∧ s ≤ -v) := by
      rcases Int.lt_or_le v 0 with h | h
      · exact .inr ⟨h, f2 h⟩
      · exact .inl (hz h)
    rcases hn with ⟨rfl, rfl⟩ | ⟨rfl, rfl⟩ | ⟨rfl, rfl⟩ | ⟨rfl, rfl⟩
    · rw [if_pos rfl] at hd
      rw [rsc_one, zero_rsc, cv_in (by omega), cv_in (by omega), cv_in (by omega), cv_in (by omega), Int.sub_zero, Int.add_zero]
      rcases hsv with rfl | ⟨h1, h2⟩
      · simp
      · have := energy (p := a.v0) (q := b.v0) f0 h2 (by omega)
        omega
    · rw [if_neg (by omega), if_pos rfl] at hd
      rw [rsc_one, zero_rsc, cv_in (by omega), cv_in (by omega), cv_in (by omega), cv_in (by omega), Int.sub_zero, Int.add_zero]
      rcases hsv with rfl | ⟨h1, h2⟩
      · simp
      · have := energy (p := a.v1) (q := b.v1) f0 h2 (by omega)
        omega
    · rw [if_neg (by omega), if_neg (by omega), if_pos rfl] at hd
      rw [rsc_neg, zero_rsc, cv_in (by omega), cv_in (by omega), cv_in (by omega), cv_in (by omega), Int.sub_zero, Int.add_zero, Int.sub_neg, ← Int.sub_eq_add_neg]
      rcases hsv with rfl | ⟨h1, h2⟩
      · simp
      · have := energy' (p := a.v0) (q := b.v0) f0 h2 (by omega)
        omega
    · rw [if_neg (by omega), if_neg (by omega), if_neg (by omega)] at hd
      rw [rsc_neg, zero_rsc, cv_in (by omega), cv_in (by omega), cv_in (by omega), cv_in (by omega), Int.sub_zero, Int.add_zero, Int.sub_neg, ← Int.sub_eq_add_neg]
      rcases hsv with rfl | ⟨h1, h2⟩
      · simp
      · have := energy' (p := a.v1) (q := b.v1) f0 h2 (by omega)
        omega

/-! ## ResolveShifted -/
def Mo.shift (a : Mo) (x y : Int) : Mo := ⟨a.p0 + x, a.p1 + y, a.v0, a.v1, a.m⟩
theorem resA_at {a b : Mo} {n0 n1 d e : Int} (ht : ¬ a.m + b.m = 0) : resA a b n0 n1 d e =
    ⟨cp (a.p0 - rsc n0 (rfp d a.m (a.m + b.m))), cp (a.p1 - rsc n1 (rfp d a.m (a.m + b.m))), cv (a.v0 - rsc n0 (rfv (rj a b n0 n1 e) a.m)), cv (a.v1 - rsc n1 (rfv (rj a b n0 n1 e) a.m)), a.m⟩ := by unfold resA; rw [if_neg ht]
theorem resB_at {a b : Mo} {n0 n1 d e : Int} (ht : ¬ a.m + b.m = 0) : resB a b n0 n1 d e =
    ⟨cp (b.p0 + rsc n0 (rfp d b.m (a.m + b.m))), cp (b.p1 + rsc n1 (rfp d b.m (a.m + b.m))), cv (b.v0 + rsc n0 (rfv (rj a b n0 n1 e) b.m)), cv (b.v1 + rsc n1 (rfv (rj a b n0 n1 e) b.m)), b.m⟩ := by unfold resB; rw [if_neg ht]
theorem resA_none {a b : Mo} {n0 n1 d e : Int} (ht : a.m + b.m = 0) : resA a b n0 n1 d e = a := by unfold resA; rw [if_pos ht]
theorem resB_none {a b : Mo} {n0 n1 d e : Int} (ht : a.m + b.m = 0) : resB a b n0 n1 d e = b := by unfold resB; rw [if_pos ht]
theorem res_shift {a b : Mo} {n0 n1 d e x y : Int} (ha : a.Slow) (hb : b.Slow) (h0 : -1024 ≤ n0 ∧ n0 ≤ 1024) (h1 : -1024 ≤ n1 ∧ n1 ≤ 1024) (hd : 0 ≤ d ∧ d ≤ 131072) (hx : -262144 ≤ x ∧ x ≤ 262144) (hy : -262144 ≤ y ∧ y ≤ 262144) :
    resA (a.shift x y) (b.shift x y) n0 n1 d e = (resA a b n0 n1 d e).shift x y ∧ resB (a.shift x y) (b.shift x y) n0 n1 d e = (resB a b n0 n1 d e).shift x y := by
  have hj : rj (a.shift x y) (b.shift x y) n0 n1 e = rj a b n0 n1 e := rfl
  have ma := ha.m
  have mb := hb.m
  have e1 : (a.shift x y).m = a.m := rfl
  have e2 : (b.shift x y).m = b.m := rfl
  by_cases ht : a.m + b.m = 0
  · rw [resA_none ht, resB_none ht, resA_none (by rw [e1, e2]; exact ht), resB_none (by rw [e1, e2]; exact ht)]; exact ⟨rfl, rfl⟩
  · have fa := rfp_bd (d := d) (m := a.m) (t := a.m + b.m) hd.1 (by omega) (by omega) (by omega)
    have fb := rfp_bd (d := d) (m := b.m) (t := a.m + b.m) hd.1 (by omega) (by omega) (by omega)
    have s0 := rsc_bd (F := 131072) (n := n0) h0 ⟨fa.1, by omega⟩
    have s1 := rsc_bd (F := 131072) (n := n1) h1 ⟨fa.1, by omega⟩
    have t0 := rsc_bd (F := 131072) (n := n0) h0 ⟨fb.1, by omega⟩
    have t1 := rsc_bd (F := 131072) (n := n1) h1 ⟨fb.1, by omega⟩
    have a0 := ha.p0
    have a1 := ha.p1
    have b0 := hb.p0
    have b1 := hb.p1
    rw [resA_at ht, resB_at ht, resA_at (by rw [e1, e2]; exact ht), resB_at (by rw [e1, e2]; exact ht), hj, e1, e2]
    simp only [Mo.shift]
    generalize rsc n0 (rfp d a.m (a.m + b.m)) = x0 at *
    generalize rsc n1 (rfp d a.m (a.m + b.m)) = x1 at *
    generalize rsc n0 (rfp d b.m (a.m + b.m)) = y0 at *
    generalize rsc n1 (rfp d b.m (a.m + b.m)) = y1 at *
    rw [cp_in (x := a.p0 + x - x0) (by omega), cp_in (x := a.p1 + y - x1) (by omega), cp_in (x := a.p0 - x0) (by omega), cp_in (x := a.p1 - x1) (by omega), cp_in (x := b.p0 + x + y0) (by omega), cp_in (x := b.p1 + y + y1) (by omega), cp_in (x := b.p0 + y0) (by omega), cp_in (x := b.p1 + y1) (by omega)]
    rw [show a.p0 + x - x0 = a.p0 - x0 + x by omega, show a.p1 + y - x1 = a.p1 - x1 + y by omega, show b.p0 + x + y0 = b.p0 + y0 + x by omega, show b.p1 + y + y1 = b.p1 + y1 + y by omega]
    exact ⟨rfl, rfl⟩

/-! ## ResolveSeparates -/
theorem rfp_half {d m : Int} (hm : 0 < m) : rfp d m (m + m) = d / 2 := by
  unfold rfp
  have e : (m + m) * (d / 2) = m * (2 * (d / 2)) := by rw [← Int.two_mul, Int.mul_assoc, Int.mul_left_comm]
  have e2 : d * m = m * d := Int.mul_comm _ _
  refine flr_pos ?_ ?_
  · rw [e, e2]; exact Int.mul_le_mul_of_nonneg_left (by omega) (by omega)
  · rw [e, e2]
    have : m * d < m * (2 * (d / 2) + 2) := Int.mul_lt_mul_of_pos_left (by omega) hm
    rw [Int.mul_add] at this
    omega
theorem res_apart {a b : Mo} {n0 n1 d e : Int} (ha : a.Slow) (hb : b.Slow) (hm : b.m = a.m) (hm0 : 0 < a.m) (hn : Ax n0 n1) (hd : 0 ≤ d ∧ d ≤ 131072) :
    flr (((resB a b n0 n1 d e).p0 - (resA a b n0 n1 d e).p0) * n0 + ((resB a b n0 n1 d e).p1 - (resA a b n0 n1 d e).p1) * n1) 1024 = flr ((b.p0 - a.p0) * n0 + (b.p1 - a.p1) * n1) 1024 + d - d % 2 := by
  have a0 := ha.p0
  have a1 := ha.p1
  have b0 := hb.p0
  have b1 := hb.p1
  have ht : ¬ a.m + b.m = 0 := by omega
  rw [resA_at ht, resB_at ht, hm, rfp_half hm0]
  simp only
  rcases hn with ⟨rfl, rfl⟩ | ⟨rfl, rfl⟩ | ⟨rfl, rfl⟩ | ⟨rfl, rfl⟩
  · have e : ∀ x y : Int, flr (x * 1024 + y * 0) 1024 = x := fun x y => flr_pos (by omega) (by omega)
    rw [e, e, rsc_one, cp_in (by omega), cp_in (by omega)]; omega
  · have e : ∀ x y : Int, flr (x * 0 + y * 1024) 1024 = y := fun x y => flr_pos (by omega) (by omega)
    rw [e, e, rsc_one, cp_in (x := b.p1 + d / 2) (by omega), cp_in (x := a.p1 - d / 2) (by omega)]; omega
  · have e : ∀ x y : Int, flr (x * -1024 + y * 0) 1024 = -x := fun x y => flr_pos (by omega) (by omega)
    rw [e, e, rsc_neg, cp_in (by omega), cp_in (by omega)]; omega
  · have e : ∀ x y : Int, flr (x * 0 + y * -1024) 1024 = -y := fun x y => flr_pos (by omega) (by omega)
    rw [e, e, rsc_neg, cp_in (x := b.p1 + -(d / 2)) (by omega), cp_in (x := a.p1 - -(d / 2)) (by omega)]; omega
end Go.Proofs.Ytihoanoanoaneaa
