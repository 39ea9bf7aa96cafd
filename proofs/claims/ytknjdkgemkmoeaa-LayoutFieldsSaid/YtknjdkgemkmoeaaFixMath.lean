/- Plain integer mathematics for package fixed: floor division and integer square roots. No program is named here. -/
namespace Fxm

/-- The floor of a / b; 0 where b is 0. -/
def flr (a b : Int) : Int := Int.fdiv a b

theorem flr_zero (a : Int) : flr a 0 = 0 := by unfold flr; exact Int.fdiv_zero a

theorem flr_pos {a b q : Int} (h1 : b * q ≤ a) (h2 : a < b * q + b) : flr a b = q := by
  unfold flr
  have hb : 0 < b := by omega
  rw [Int.fdiv_eq_ediv_of_nonneg _ (by omega)]
  exact ((Int.ediv_emod_unique (r := a - b * q) hb).2 ⟨by omega, by omega, by omega⟩).1

theorem flr_neg_neg (a b : Int) : flr (-a) (-b) = flr a b := by
  unfold flr; simp

theorem flr_neg {a b q : Int} (h1 : a ≤ b * q) (h2 : b * q + b < a) : flr a b = q := by
  rw [← flr_neg_neg]
  have e : -b * q = -(b * q) := Int.neg_mul b q
  exact flr_pos (by rw [e]; omega) (by rw [e]; omega)

theorem flr_spec_pos {a b : Int} (hb : 0 < b) : b * flr a b ≤ a ∧ a < b * flr a b + b := by
  unfold flr
  have h := Int.fmod_add_mul_fdiv a b
  have h0 := Int.fmod_nonneg_of_pos a hb
  have h1 := Int.fmod_lt_of_pos a hb
  omega

theorem flr_spec_neg {a b : Int} (hb : b < 0) : a ≤ b * flr a b ∧ b * flr a b + b < a := by
  have h := flr_spec_pos (a := -a) (b := -b) (by omega)
  rw [flr_neg_neg] at h
  have e : -b * flr a b = -(b * flr a b) := Int.neg_mul b _
  rw [e] at h
  omega

/-! Go's truncated quotient and remainder against the floor. -/
theorem tparts (n d : Int) : d * n.tdiv d + n.tmod d = n := by
  have := Int.tmod_add_mul_tdiv n d; omega
theorem tmod_lt_p (n : Int) {d : Int} (hd : 0 < d) : n.tmod d < d := Int.tmod_lt_of_pos n hd
theorem tmod_gt_p (n : Int) {d : Int} (hd : 0 < d) : -d < n.tmod d := by
  have h := tmod_lt_p (-n) hd
  rw [Int.neg_tmod] at h; omega
theorem tmod_lt_n (n : Int) {d : Int} (hd : d < 0) : n.tmod d < -d := by
  have h := tmod_lt_p n (d := -d) (by omega)
  rw [Int.tmod_neg] at h; omega
theorem tmod_gt_n (n : Int) {d : Int} (hd : d < 0) : d < n.tmod d := by
  have h := tmod_gt_p n (d := -d) (by omega)
  rw [Int.tmod_neg] at h; omega
theorem tmod_nn {n : Int} (d : Int) (h : 0 ≤ n) : 0 ≤ n.tmod d := Int.tmod_nonneg d h
theorem tmod_np {n : Int} (d : Int) (h : n ≤ 0) : n.tmod d ≤ 0 := by
  have := Int.tmod_nonneg d (a := -n) (by omega)
  rw [Int.neg_tmod] at this; omega

theorem flr_down_p {n d : Int} (hd : 0 < d) (hr : n.tmod d < 0) : flr n d = n.tdiv d - 1 := by
  have h := tparts n d
  have h1 := tmod_gt_p n hd
  have e : d * (n.tdiv d - 1) = d * n.tdiv d - d := by rw [Int.mul_sub, Int.mul_one]
  exact flr_pos (by rw [e]; omega) (by rw [e]; omega)
theorem flr_same_p {n d : Int} (hd : 0 < d) (hr : 0 ≤ n.tmod d) : flr n d = n.tdiv d := by
  have h := tparts n d
  have h1 := tmod_lt_p n hd
  exact flr_pos (by omega) (by omega)
theorem flr_down_n {n d : Int} (hd : d < 0) (hr : 0 < n.tmod d) : flr n d = n.tdiv d - 1 := by
  have h := tparts n d
  have h1 := tmod_lt_n n hd
  have e : d * (n.tdiv d - 1) = d * n.tdiv d - d := by rw [Int.mul_sub, Int.mul_one]
  exact flr_neg (by rw [e]; omega) (by rw [e]; omega)
theorem flr_same_n {n d : Int} (hd : d < 0) (hr : n.tmod d ≤ 0) : flr n d = n.tdiv d := by
  have h := tparts n d
  have h1 := tmod_gt_n n hd
  exact flr_neg (by omega) (by omega)

/-- The truncated quotient is no larger than the dividend. -/
theorem tdiv_bd (n d M : Int) (h1 : -M ≤ n) (h2 : n ≤ M) : -M ≤ n.tdiv d ∧ n.tdiv d ≤ M := by
  have h := Int.natAbs_tdiv_le_natAbs n d
  omega

/-! ### Integer square roots -/
def nsq : Nat → Nat
  | 0 => 0
  | n + 1 => if (nsq n + 1) * (nsq n + 1) ≤ n + 1 then nsq n + 1 else nsq n

theorem nsq_spec (n : Nat) : nsq n * nsq n ≤ n ∧ n < (nsq n + 1) * (nsq n + 1) := by
  induction n with
  | zero => simp [nsq]
  | succ n ih =>
    unfold nsq
    split
    · rename_i h
      refine ⟨h, ?_⟩
      have e : (nsq n + 1 + 1) * (nsq n + 1 + 1) = (nsq n + 1) * (nsq n + 1) + 2 * (nsq n + 1) + 1 := by
        simp only [Nat.add_mul, Nat.mul_add, Nat.one_mul, Nat.mul_one]; omega
      omega
    · rename_i h
      exact ⟨by omega, by omega⟩

/-- The largest r with r * r at most n; 0 where n is negative. -/
def isq (n : Int) : Int := (nsq n.toNat : Nat)

theorem isq_neg {n : Int} (h : n < 0) : isq n = 0 := by
  unfold isq; have : n.toNat = 0 := by omega
  rw [this]; rfl
theorem isq_nonneg (n : Int) : 0 ≤ isq n := by unfold isq; omega
theorem isq_spec {n : Int} (h : 0 ≤ n) : isq n * isq n ≤ n ∧ n < (isq n + 1) * (isq n + 1) := by
  have s := nsq_spec n.toNat
  unfold isq
  have h1 : ((nsq n.toNat * nsq n.toNat : Nat) : Int) ≤ (n.toNat : Int) := Int.ofNat_le.2 s.1
  have h2 : ((n.toNat : Nat) : Int) < (((nsq n.toNat + 1) * (nsq n.toNat + 1) : Nat) : Int) := Int.ofNat_lt.2 s.2
  push_cast at h1 h2
  rw [Int.toNat_of_nonneg h] at h1 h2
  exact ⟨by simpa using h1, by simpa using h2⟩

theorem sq_le {a b : Int} (ha : 0 ≤ a) (h : a ≤ b) : a * a ≤ b * b := Int.mul_le_mul h h ha (by omega)
theorem sq_lt {a b : Int} (ha : 0 ≤ a) (h : a < b) : a * a < b * b := by
  have h1 := sq_le (a := a + 1) (b := b) (by omega) (by omega)
  have e : (a + 1) * (a + 1) = a * a + 2 * a + 1 := by
    simp only [Int.add_mul, Int.mul_add, Int.one_mul, Int.mul_one]; omega
  omega
theorem sq_succ (a : Int) : (a + 1) * (a + 1) = a * a + 2 * a + 1 := by
  simp only [Int.add_mul, Int.mul_add, Int.one_mul, Int.mul_one]; omega
theorem lt_of_sq {a b : Int} (hb : 0 ≤ b) (h : a * a < b * b) : a < b := by
  by_cases hc : a < b
  · exact hc
  · have := sq_le hb (show b ≤ a by omega); omega

theorem isq_unique {n r : Int} (hr : 0 ≤ r) (h1 : r * r ≤ n) (h2 : n < (r + 1) * (r + 1)) : isq n = r := by
  have hn : 0 ≤ n := by have := Int.mul_nonneg hr hr; omega
  have s := isq_spec hn
  have h0 := isq_nonneg n
  have a := lt_of_sq (a := isq n) (b := r + 1) (by omega) (by omega)
  have b := lt_of_sq (a := r) (b := isq n + 1) (by omega) (by omega)
  omega

theorem isq_mono {a b : Int} (h : a ≤ b) : isq a ≤ isq b := by
  by_cases ha : a < 0
  · rw [isq_neg ha]; exact isq_nonneg b
  · have s := isq_spec (n := a) (by omega)
    have t := isq_spec (n := b) (by omega)
    have h0 := isq_nonneg a
    have h1 := isq_nonneg b
    have := lt_of_sq (a := isq a) (b := isq b + 1) (by omega) (by omega)
    omega

theorem isq_le {n r : Int} (hr : 0 ≤ r) (h : n < (r + 1) * (r + 1)) : isq n ≤ r := by
  by_cases hn : n < 0
  · rw [isq_neg hn]; exact hr
  · have s := isq_spec (n := n) (by omega)
    have h0 := isq_nonneg n
    have := lt_of_sq (a := isq n) (b := r + 1) (by omega) (by omega)
    omega

/-! ### Facts of the laws -/
theorem prod_bd {a b A B : Int} (hA : 0 ≤ A) (hB : 0 ≤ B) (a1 : -A ≤ a) (a2 : a ≤ A) (b1 : -B ≤ b) (b2 : b ≤ B) : -(A * B) ≤ a * b ∧ a * b ≤ A * B := by
  by_cases ha : 0 ≤ a
  · by_cases hb : 0 ≤ b
    · have := Int.mul_le_mul a2 b2 hb hA
      have := Int.mul_nonneg ha hb
      have := Int.mul_nonneg hA hB
      omega
    · have h1 := Int.mul_le_mul a2 (show -b ≤ B by omega) (by omega) hA
      have h2 := Int.mul_nonneg ha (show 0 ≤ -b by omega)
      have := Int.mul_nonneg hA hB
      rw [Int.mul_neg] at h1 h2
      omega
  · by_cases hb : 0 ≤ b
    · have h1 := Int.mul_le_mul (show -a ≤ A by omega) b2 hb hA
      have h2 := Int.mul_nonneg (show 0 ≤ -a by omega) hb
      have := Int.mul_nonneg hA hB
      rw [Int.neg_mul] at h1 h2
      omega
    · have h1 := Int.mul_le_mul (show -a ≤ A by omega) (show -b ≤ B by omega) (by omega) hA
      have h2 := Int.mul_nonneg (show 0 ≤ -a by omega) (show 0 ≤ -b by omega)
      have := Int.mul_nonneg hA hB
      rw [Int.neg_mul_neg] at h1 h2
      omega
theorem prod31 {a b : Int} (a1 : -2147483648 ≤ a) (a2 : a ≤ 2147483648) (b1 : -2147483648 ≤ b) (b2 : b ≤ 2147483648) : -4611686018427387904 ≤ a * b ∧ a * b ≤ 4611686018427387904 := by
  have h := prod_bd (A := 2147483648) (B := 2147483648) (by omega) (by omega) a1 a2 b1 b2
  omega
theorem flr_mul_self (a : Int) {c : Int} (h : c ≠ 0) : flr (a * c) c = a := by
  unfold flr; exact Int.mul_fdiv_cancel a h
theorem flr_mono {a b c : Int} (hc : 0 < c) (h : a ≤ b) : flr a c ≤ flr b c := by
  have h1 := flr_spec_pos (a := a) hc
  have h2 := flr_spec_pos (a := b) hc
  by_cases hh : flr a c ≤ flr b c
  · exact hh
  · have : c * (flr b c + 1) ≤ c * flr a c := Int.mul_le_mul_of_nonneg_left (by omega) (by omega)
    rw [Int.mul_add, Int.mul_one] at this
    omega
theorem flr_add_mul (a q : Int) {c : Int} (hc : 0 < c) : flr (a + c * q) c = flr a c + q := by
  have h1 := flr_spec_pos (a := a) hc
  exact flr_pos (by rw [Int.mul_add]; omega) (by rw [Int.mul_add]; omega)
theorem flr_bd1024 {a M : Int} (h1 : -(1024 * M) ≤ a) (h2 : a ≤ 1024 * M) : -M ≤ flr a 1024 ∧ flr a 1024 ≤ M := by
  have h := flr_spec_pos (a := a) (b := 1024) (by omega)
  omega
theorem flr_neg1024 (a : Int) : flr (-a) 1024 = -flr a 1024 - (if a.tmod 1024 = 0 then 0 else 1) := by
  have h := flr_spec_pos (a := a) (b := 1024) (by omega)
  have p := tparts a 1024
  have l := tmod_lt_p a (d := 1024) (by omega)
  have g := tmod_gt_p a (d := 1024) (by omega)
  split
  · exact flr_pos (by omega) (by omega)
  · exact flr_pos (by omega) (by omega)
theorem isq_sq {r : Int} (h : 0 ≤ r) : isq (r * r) = r := isq_unique h (by omega) (by rw [sq_succ]; omega)
theorem isq_sq2 {r : Int} (h : 0 ≤ r) : isq (r * r + 2 * r) = r := isq_unique h (by omega) (by rw [sq_succ]; omega)
theorem isq_sq1 {r : Int} (h : 0 < r) : isq (r * r - 1) = r - 1 := by
  have e := sq_succ (r - 1)
  have e2 : r - 1 + 1 = r := by omega
  rw [e2] at e
  exact isq_unique (by omega) (by omega) (by rw [e2]; omega)
end Fxm
