/- Words of 64 bits: mixing, its two inverses; sums of lists that differ in one word; bytes in groups of eight. Nothing of the code. -/
import Derived.Test.YtknjdkgemkmoeaaRows
namespace Go.Proofs.Ytknjdkgemkmoeaa
set_option linter.unusedSimpArgs false
set_option linter.unusedVariables false

/-! ## Mixing -/
abbrev W64 := BitVec 64
def hK : W64 := 0x9E3779B97F4A7C15#64
def hKi : W64 := 0xF1DE83E19937733D#64
theorem hK_inv : hK * hKi = 1#64 := by decide
/-- What closes a step: a word with its upper half laid over the lower. -/
def fold32 (m : W64) : W64 := m ^^^ (m >>> 32)
def mix (s w : W64) : W64 := fold32 ((s ^^^ w) * hK)
theorem fold32_back (m : W64) : fold32 (fold32 m) = m := by
  unfold fold32
  ext i hi
  simp only [BitVec.getElem_xor, BitVec.getElem_ushiftRight, BitVec.getLsbD_xor, BitVec.getLsbD_ushiftRight]
  have h1 : m.getLsbD (32 + (32 + i)) = false := BitVec.getLsbD_of_ge _ _ (by omega)
  rw [h1, Bool.xor_false, Bool.xor_assoc, Bool.xor_self, Bool.xor_false]
theorem fold32_inj {a b : W64} (h : fold32 a = fold32 b) : a = b := by
  have := congrArg fold32 h
  rwa [fold32_back, fold32_back] at this
theorem hK_inj {a b : W64} (h : a * hK = b * hK) : a = b := by
  have := congrArg (· * hKi) h
  simp only [BitVec.mul_assoc, hK_inv, BitVec.mul_one] at this
  exact this
theorem xor_inj_left {s a b : W64} (h : s ^^^ a = s ^^^ b) : a = b := by
  have := congrArg (s ^^^ ·) h
  simp only [← BitVec.xor_assoc, BitVec.xor_self, BitVec.zero_xor] at this
  exact this
theorem xor_inj_right {w a b : W64} (h : a ^^^ w = b ^^^ w) : a = b := by
  rw [BitVec.xor_comm a, BitVec.xor_comm b] at h; exact xor_inj_left h
theorem mix_word {s a b : W64} : mix s a = mix s b ↔ a = b := ⟨fun h => xor_inj_left (hK_inj (fold32_inj h)), fun h => by rw [h]⟩
theorem mix_state {w a b : W64} : mix a w = mix b w ↔ a = b := ⟨fun h => xor_inj_right (hK_inj (fold32_inj h)), fun h => by rw [h]⟩
/-- A list of words, one behind the other. -/
def mixes (s : W64) (l : List W64) : W64 := l.foldl mix s
theorem mixes_append (s : W64) (l m : List W64) : mixes s (l ++ m) = mixes (mixes s l) m := List.foldl_append ..
theorem mixes_snoc (s : W64) (l : List W64) (x : W64) : mixes s (l ++ [x]) = mix (mixes s l) x := by rw [mixes_append]; rfl
theorem mixes_state (l : List W64) : ∀ {a b : W64}, mixes a l = mixes b l ↔ a = b := by
  induction l with
  | nil => exact fun {a b} => Iff.rfl
  | cons x l ih => exact fun {a b} => (ih (a := mix a x) (b := mix b x)).trans mix_state
/-- Two lists that differ in one place at most. -/
theorem mixes_one (s : W64) (p q : List W64) (a b : W64) : mixes s (p ++ a :: q) = mixes s (p ++ b :: q) ↔ a = b := by
  rw [mixes_append, mixes_append]
  exact (mixes_state q).trans mix_word
theorem mixes_set (s : W64) (l : List W64) {i : Nat} (hi : i < l.length) (a b : W64) : mixes s (l.set i a) = mixes s (l.set i b) ↔ a = b := by
  rw [List.set_eq_take_append_cons_drop, List.set_eq_take_append_cons_drop, if_pos hi, if_pos hi]
  exact mixes_one ..
theorem mixes_end (s : W64) (l : List W64) (x y : W64) : mixes s (l ++ [x]) = mixes s (l ++ [y]) ↔ x = y := mixes_one s l [] x y

/-! ## Words as the program's numbers -/
theorem u64_wrap_toNat (a : W64) : IntKind.u64.wrap (a.toNat : Int) = (a.toNat : Int) := by
  have := a.isLt
  simp only [IntKind.wrap, IntKind.bits, IntKind.signed, Bool.false_and, Bool.false_eq_true, if_false]
  omega
theorem ofInt_toNat (a : W64) : BitVec.ofInt 64 (a.toNat : Int) = a := by
  apply BitVec.eq_of_toNat_eq
  rw [BitVec.toNat_ofInt]
  have := a.isLt
  omega
theorem u64_wrap (n : Int) : IntKind.u64.wrap n = ((BitVec.ofInt 64 n).toNat : Int) := by
  rw [BitVec.toNat_ofInt]
  have h := Int.emod_nonneg n (show ((2 ^ 64 : Nat) : Int) ≠ 0 by decide)
  simp only [IntKind.wrap, IntKind.bits, IntKind.signed, Bool.false_and, Bool.false_eq_true, if_false]
  omega
theorem u64_xor (a b : W64) : IntKind.u64.wrap (((BitVec.ofInt 64 (a.toNat : Int)) ^^^ (BitVec.ofInt 64 (b.toNat : Int))).toNat : Int) = ((a ^^^ b).toNat : Int) := by
  rw [ofInt_toNat, ofInt_toNat, u64_wrap_toNat]
theorem u64_mul (a b : W64) : IntKind.u64.wrap ((a.toNat : Int) * (b.toNat : Int)) = ((a * b).toNat : Int) := by
  rw [BitVec.toNat_mul, ← Int.natCast_mul]
  generalize a.toNat * b.toNat = n
  simp only [IntKind.wrap, IntKind.bits, IntKind.signed, Bool.false_and, Bool.false_eq_true, if_false]
  omega
theorem hK_nat : (hK.toNat : Int) = 11400714819323198485 := by decide
theorem u64_mulK (a : W64) : IntKind.u64.wrap ((a.toNat : Int) * 11400714819323198485) = ((a * hK).toNat : Int) := by
  rw [← hK_nat]; exact u64_mul a hK
theorem u64_shr (a : W64) : (a.toNat : Int).fdiv 4294967296 = ((a >>> 32).toNat : Int) := by
  rw [BitVec.toNat_ushiftRight, Nat.shiftRight_eq_div_pow, Int.fdiv_eq_ediv_of_nonneg _ (by decide)]
  omega
theorem u64_quo (a : W64) : (a.toNat : Int).tdiv 4294967296 = ((a >>> 32).toNat : Int) := by
  rw [BitVec.toNat_ushiftRight, Nat.shiftRight_eq_div_pow, Int.tdiv_eq_ediv_of_nonneg (by omega)]
  omega
/-- A word written as an int, and back. -/
theorem i64_of_word (a : W64) : IntKind.i64.wrap (a.toNat : Int) = a.toInt := by
  have h := a.isLt
  rw [BitVec.toInt_eq_toNat_cond]
  simp only [IntKind.wrap, IntKind.bits, IntKind.signed, Bool.true_and]
  split <;> split <;> simp_all <;> omega
theorem word_of_int (a : W64) : IntKind.u64.wrap a.toInt = (a.toNat : Int) := by
  rw [u64_wrap, BitVec.ofInt_toInt]
theorem word_of_i64 (a : W64) : BitVec.ofInt 64 a.toInt = a := BitVec.ofInt_toInt
theorem toNat_inj' {a b : W64} : (a.toNat : Int) = (b.toNat : Int) ↔ a = b := ⟨fun h => BitVec.eq_of_toNat_eq (by omega), fun h => by rw [h]⟩
/-- An int's word: different ints of 64 bits have different words. -/
theorem ofInt_inj {x y : Int} (hx : -9223372036854775808 ≤ x ∧ x ≤ 9223372036854775807) (hy : -9223372036854775808 ≤ y ∧ y ≤ 9223372036854775807) : BitVec.ofInt 64 x = BitVec.ofInt 64 y ↔ x = y := by
  refine ⟨fun h => ?_, fun h => by rw [h]⟩
  have h1 := congrArg BitVec.toInt h
  rw [BitVec.toInt_ofInt, BitVec.toInt_ofInt] at h1
  simp only [Int.bmod] at h1
  omega

/-! ## Bytes in groups of eight -/
/-- Little-endian. -/
def le : List Nat → Nat
  | [] => 0
  | b :: l => b + 256 * le l
def Byt (l : List Nat) : Prop := ∀ b, b ∈ l → b < 256
theorem le_lt : ∀ {l : List Nat}, Byt l → le l < 256 ^ l.length
  | [], _ => by simp [le]
  | b :: l, h => by
    have h1 := le_lt (l := l) fun c hc => h c (List.mem_cons_of_mem _ hc)
    have h2 := h b List.mem_cons_self
    show b + 256 * le l < 256 ^ (l.length + 1)
    rw [Nat.pow_succ]
    omega
theorem le_inj : ∀ {l m : List Nat}, Byt l → Byt m → l.length = m.length → (le l = le m ↔ l = m)
  | [], [], _, _, _ => by simp
  | b :: l, c :: m, h, k, e => by
    have h1 := le_inj (l := l) (m := m) (fun x hx => h x (List.mem_cons_of_mem _ hx)) (fun x hx => k x (List.mem_cons_of_mem _ hx)) (by simpa using e)
    have h2 := h b List.mem_cons_self
    have h3 := k c List.mem_cons_self
    show b + 256 * le l = c + 256 * le m ↔ _
    rw [List.cons.injEq, ← h1]
    omega
/-- Group k. -/
def grp (l : List Nat) (k : Nat) : List Nat := (l.drop (8 * k)).take 8
theorem grp_len (l : List Nat) (k : Nat) : (grp l k).length = min 8 (l.length - 8 * k) := by unfold grp; simp
theorem grp_at (l : List Nat) (k i : Nat) (hi : i < 8) : (grp l k)[i]? = l[8 * k + i]? := by
  unfold grp; rw [List.getElem?_take, if_pos hi, List.getElem?_drop]
theorem Byt.grp {l : List Nat} (h : Byt l) (k : Nat) : Byt (grp l k) := fun b hb => h b (List.mem_of_mem_drop (List.mem_of_mem_take hb))
def word (l : List Nat) (k : Nat) : W64 := BitVec.ofNat 64 (le (grp l k))
theorem word_nat {l : List Nat} (h : Byt l) (k : Nat) : (word l k).toNat = le (grp l k) := by
  have h1 := le_lt (h.grp k)
  have h2 : (grp l k).length ≤ 8 := by rw [grp_len]; omega
  have h3 : 256 ^ (grp l k).length ≤ 256 ^ 8 := Nat.pow_le_pow_right (by decide) h2
  unfold word
  rw [BitVec.toNat_ofNat]
  exact Nat.mod_eq_of_lt (Nat.lt_of_lt_of_le h1 (Nat.le_trans h3 (by decide)))
theorem word_eq {l m : List Nat} (h : Byt l) (h' : Byt m) (e : l.length = m.length) (k : Nat) : word l k = word m k ↔ ∀ i, i / 8 = k → l[i]? = m[i]? := by
  have h1 : word l k = word m k ↔ grp l k = grp m k := by
    rw [← le_inj (h.grp k) (h'.grp k) (by rw [grp_len, grp_len, e]), ← word_nat h, ← word_nat h']
    exact ⟨fun h => by rw [h], BitVec.eq_of_toNat_eq⟩
  rw [h1]
  constructor
  · intro h2 i hi
    have h3 := grp_at l k (i % 8) (by omega)
    have h4 := grp_at m k (i % 8) (by omega)
    rw [show 8 * k + i % 8 = i by omega] at h3 h4
    rw [← h3, ← h4, h2]
  · intro h2
    refine List.ext_getElem? fun i => ?_
    by_cases hi : i < 8
    · rw [grp_at l k i hi, grp_at m k i hi]; exact h2 _ (by omega)
    · rw [List.getElem?_eq_none (by rw [grp_len]; omega), List.getElem?_eq_none (by rw [grp_len]; omega)]
def nw (n : Nat) : Nat := (n + 7) / 8
/-- The first t words. -/
def wordsN (l : List Nat) (t : Nat) : List W64 := (List.range t).map (word l)
def words (l : List Nat) : List W64 := wordsN l (nw l.length)
theorem wordsN_zero (l : List Nat) : wordsN l 0 = [] := rfl
theorem wordsN_succ (l : List Nat) (t : Nat) : wordsN l (t + 1) = wordsN l t ++ [word l t] := by unfold wordsN; rw [List.range_succ, List.map_append]; rfl
theorem wordsN_len (l : List Nat) (t : Nat) : (wordsN l t).length = t := by unfold wordsN; simp
theorem words_len (l : List Nat) : (words l).length = nw l.length := wordsN_len ..
theorem wordsN_at (l : List Nat) {t i : Nat} (h : i < t) : (wordsN l t)[i]? = some (word l i) := by unfold wordsN; simp [h]
/-- Two lists of bytes of one length that differ in one group at most. -/
theorem words_set {l m : List Nat} (h : Byt l) (h' : Byt m) (e : l.length = m.length) {k : Nat} (hk : ∀ i, i / 8 ≠ k → l[i]? = m[i]?) : words m = (words l).set k (word m k) := by
  refine List.ext_getElem? fun i => ?_
  unfold words
  rw [← e, List.getElem?_set, wordsN_len]
  by_cases hi : i < nw l.length
  · rw [wordsN_at m hi]
    by_cases hik : k = i
    · rw [if_pos hik, if_pos (by omega), hik]
    · rw [if_neg hik, wordsN_at l hi, (word_eq h h' e i).2 fun j hj => hk j (by omega)]
  · rw [List.getElem?_eq_none (by rw [wordsN_len]; omega)]
    by_cases hik : k = i
    · rw [if_pos hik, if_neg (by omega)]
    · rw [if_neg hik, List.getElem?_eq_none (by rw [wordsN_len]; omega)]
theorem words_mixes {l m : List Nat} (h : Byt l) (h' : Byt m) (e : l.length = m.length) {k : Nat} (hl : 8 * k < l.length) (hk : ∀ i, i / 8 ≠ k → l[i]? = m[i]?) (s : W64) (tail : List W64) :
    mixes s (words l ++ tail) = mixes s (words m ++ tail) ↔ l = m := by
  have hn : k < (words l).length := by rw [words_len]; unfold nw; omega
  have h0 : words l = (words l).set k (word l k) := words_set h h rfl fun _ _ => rfl
  rw [mixes_append, mixes_append, mixes_state, words_set h h' e hk]
  have h2 : mixes s (words l) = mixes s ((words l).set k (word l k)) := congrArg _ h0
  rw [h2, mixes_set s (words l) hn, word_eq h h' e]
  constructor
  · intro h3
    refine List.ext_getElem? fun i => ?_
    by_cases hi : i / 8 = k
    · exact h3 i hi
    · exact hk i hi
  · intro h3 i _; rw [h3]
/-- A zero behind a list whose length is no multiple of eight leaves its words. -/
theorem words_zero {l : List Nat} (h : Byt l) (hn : ¬ l.length % 8 = 0) : words (l ++ [0]) = words l := by
  have hle : ∀ p : List Nat, le (p ++ [0]) = le p := fun p => by
    induction p with
    | nil => rfl
    | cons b p ih => show b + 256 * le (p ++ [0]) = b + 256 * le p; rw [ih]
  have hnw : nw (l ++ [0]).length = nw l.length := by unfold nw; rw [List.length_append]; simp only [List.length_singleton]; omega
  unfold words
  rw [hnw]
  refine List.ext_getElem? fun i => ?_
  by_cases hi : i < nw l.length
  · rw [wordsN_at _ hi, wordsN_at _ hi]
    refine congrArg some (congrArg (BitVec.ofNat 64) ?_)
    unfold nw at hi
    unfold grp
    rw [List.drop_append_of_le_length (by omega), List.take_append]
    by_cases h8 : 8 ≤ (l.drop (8 * i)).length
    · rw [show 8 - (l.drop (8 * i)).length = 0 by omega, List.take_zero, List.append_nil]
    · rw [List.take_of_length_le (l := [0]) (by simp only [List.length_singleton]; omega)]
      exact hle _
  · rw [List.getElem?_eq_none (by rw [wordsN_len]; omega), List.getElem?_eq_none (by rw [wordsN_len]; omega)]
/-- What Sum leaves: the label's bytes, the ints' words. -/
def sumW (lab : List Nat) (l : List W64) : W64 := mixes 0 (words lab ++ ([BitVec.ofNat 64 lab.length, BitVec.ofNat 64 l.length] ++ (l ++ [0])))
theorem sumW_set (lab : List Nat) (l : List W64) {i : Nat} (hi : i < l.length) (a b : W64) : sumW lab (l.set i a) = sumW lab (l.set i b) ↔ a = b := by
  unfold sumW
  rw [List.length_set, List.length_set, mixes_append, mixes_append, mixes_append, mixes_append, mixes_append, mixes_append, mixes_state]
  exact mixes_set _ l hi a b
theorem sumW_label {p q : List Nat} (h : Byt p) (h' : Byt q) (e : p.length = q.length) {k : Nat} (hl : 8 * k < p.length) (hk : ∀ i, i / 8 ≠ k → p[i]? = q[i]?) (l : List W64) : sumW p l = sumW q l ↔ p = q := by
  unfold sumW
  rw [← e]
  exact words_mixes h h' e hl hk 0 _
def bytesW (lab l : List Nat) : W64 := sumW lab (words l ++ [BitVec.ofNat 64 l.length])
theorem bytesW_group (lab : List Nat) {l m : List Nat} (h : Byt l) (h' : Byt m) (e : l.length = m.length) {k : Nat} (hl : 8 * k < l.length) (hk : ∀ i, i / 8 ≠ k → l[i]? = m[i]?) : bytesW lab l = bytesW lab m ↔ l = m := by
  unfold bytesW sumW
  rw [List.length_append, List.length_append, words_len, words_len, ← e, mixes_append, mixes_append 0 (words lab), mixes_append, mixes_append (mixes 0 (words lab)), List.append_assoc, List.append_assoc]
  exact words_mixes h h' e hl hk _ _
/-- A zero more, and the hash is another, though the words are not. -/
theorem bytesW_zero (lab : List Nat) {l : List Nat} (h : Byt l) (hn : ¬ l.length % 8 = 0) (hb : l.length < 1000) : bytesW lab (l ++ [0]) ≠ bytesW lab l := by
  unfold bytesW
  rw [words_zero h hn]
  intro e
  have h1 := fun (x : W64) => show (words l ++ [x]) = ((words l) ++ [0#64]).set (words l).length x from by rw [List.set_append_right _ _ (Nat.le_refl _), Nat.sub_self]; rfl
  rw [h1, h1 (BitVec.ofNat 64 l.length), sumW_set lab _ (by simp)] at e
  have e2 := congrArg BitVec.toNat e
  rw [BitVec.toNat_ofNat, BitVec.toNat_ofNat, List.length_append, List.length_singleton] at e2
  omega
def pairW (a b : W64) : W64 := sumW [112, 97, 105, 114] [a, b]
theorem pairW_left (a b c : W64) : pairW a c = pairW b c ↔ a = b := sumW_set [112, 97, 105, 114] [0, c] (i := 0) (by simp) a b
theorem pairW_right (a b c : W64) : pairW c a = pairW c b ↔ a = b := sumW_set [112, 97, 105, 114] [c, 0] (i := 1) (by simp) a b
end Go.Proofs.Ytknjdkgemkmoeaa
