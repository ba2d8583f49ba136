/- Plain facts on sets of numbers that lie as bits in words of 64: a word's bits, how many there are, the least from a place on; no condition but those that each statement names. -/
import Derived.Lib.TrailingZeros
import Derived.Laws.BitsAllLaws
namespace Go.Proofs.YtoamabmnbldgkaaDoor.Bm
set_option linter.unusedVariables false

/-- The number whose bits below k are f's. -/
def bitsTo (f : Nat → Bool) : Nat → Nat
  | 0 => 0
  | k + 1 => bitsTo f k + (if f k then 2 ^ k else 0)
theorem bitsTo_lt (f : Nat → Bool) : ∀ k, bitsTo f k < 2 ^ k
  | 0 => by simp [bitsTo]
  | k + 1 => by
    have := bitsTo_lt f k
    rw [Nat.pow_succ]
    unfold bitsTo
    split <;> omega
theorem bitsTo_bit (f : Nat → Bool) : ∀ k t, (bitsTo f k).testBit t = (decide (t < k) && f t)
  | 0, t => by simp [bitsTo]
  | k + 1, t => by
    have hl := bitsTo_lt f k
    have ih := bitsTo_bit f k t
    unfold bitsTo
    by_cases hf : f k = true
    · rw [if_pos hf, Nat.add_comm]
      by_cases h1 : t < k
      · rw [Nat.testBit_two_pow_add_gt h1, ih, decide_eq_true h1, decide_eq_true (by omega : t < k + 1)]
      · by_cases h2 : t = k
        · subst h2
          rw [Nat.testBit_two_pow_add_eq, ih, decide_eq_false h1, decide_eq_true (by omega : t < t + 1), hf]; rfl
        · rw [decide_eq_false (by omega : ¬ t < k + 1), Bool.false_and]
          refine Nat.testBit_lt_two_pow (Nat.lt_of_lt_of_le (m := 2 ^ (k + 1)) ?_ (Nat.pow_le_pow_right (by decide) (by omega)))
          rw [Nat.pow_succ]; omega
    · rw [if_neg hf, Nat.add_zero, ih]
      by_cases ht : t = k
      · subst ht; simp at hf; simp [hf]
      · have : decide (t < k + 1) = decide (t < k) := decide_eq_decide.2 (by omega)
        rw [this]
/-- Word j of a set. -/
def word (M : Nat → Bool) (j : Nat) : Nat := bitsTo (fun t => M (64 * j + t)) 64
theorem word_lt (M : Nat → Bool) (j : Nat) : word M j < 18446744073709551616 := bitsTo_lt _ 64
theorem word_bit (M : Nat → Bool) (j t : Nat) : (word M j).testBit t = (decide (t < 64) && M (64 * j + t)) := bitsTo_bit _ 64 t
def upd (M : Nat → Bool) (i : Nat) (b : Bool) : Nat → Bool := fun k => if k = i then b else M k
theorem word_upd_far (M : Nat → Bool) (i : Nat) (b : Bool) {j : Nat} (h : j ≠ i / 64) : word (upd M i b) j = word M j := by
  apply Nat.eq_of_testBit_eq
  intro t
  rw [word_bit, word_bit]
  by_cases ht : t < 64
  · have : 64 * j + t ≠ i := by omega
    simp [upd, this]
  · simp [ht]
theorem word_set (M : Nat → Bool) (i : Nat) : word M (i / 64) ||| 2 ^ (i % 64) = word (upd M i true) (i / 64) := by
  apply Nat.eq_of_testBit_eq
  intro t
  rw [Nat.testBit_or, word_bit, word_bit, Nat.testBit_two_pow]
  by_cases ht : t < 64
  · by_cases e : i % 64 = t
    · have : 64 * (i / 64) + t = i := by omega
      simp [upd, this, e, ht]
    · have : 64 * (i / 64) + t ≠ i := by omega
      simp [upd, this, e, ht]
  · have : i % 64 ≠ t := by omega
    simp [ht, this]
theorem not_bit (x t : Nat) (h : x < 18446744073709551616) : (18446744073709551615 - x).testBit t = (decide (t < 64) && !x.testBit t) := by
  have := Nat.testBit_two_pow_sub_succ (n := 64) (x := x) h t
  rw [show 2 ^ 64 - (x + 1) = 18446744073709551615 - x by omega] at this
  exact this
theorem word_clear (M : Nat → Bool) (i : Nat) : word M (i / 64) &&& (18446744073709551615 - 2 ^ (i % 64)) = word (upd M i false) (i / 64) := by
  apply Nat.eq_of_testBit_eq
  intro t
  have h2 : 2 ^ (i % 64) < 18446744073709551616 := (Nat.pow_lt_pow_right (by decide) (Nat.mod_lt _ (by decide)) : 2 ^ (i % 64) < 2 ^ 64)
  rw [Nat.testBit_and, word_bit, word_bit, not_bit _ _ h2, Nat.testBit_two_pow]
  by_cases ht : t < 64
  · by_cases e : i % 64 = t
    · have : 64 * (i / 64) + t = i := by omega
      simp [upd, this, e, ht]
    · have : 64 * (i / 64) + t ≠ i := by omega
      simp [upd, this, e, ht]
  · simp [ht]
theorem word_has (M : Nat → Bool) (i : Nat) : word M (i / 64) &&& 2 ^ (i % 64) = if M i then 2 ^ (i % 64) else 0 := by
  apply Nat.eq_of_testBit_eq
  intro t
  rw [Nat.testBit_and, word_bit, Nat.testBit_two_pow]
  by_cases e : i % 64 = t
  · have h1 : 64 * (i / 64) + t = i := by omega
    have h2 : t < 64 := by omega
    cases hM : M i <;> simp [h1, h2, e, hM]
  · cases hM : M i <;> simp [e]
/-- The bits of a number x from which those below place t are struck. -/
theorem mask_bit (x t s : Nat) (ht : t < 64) : (x &&& (18446744073709551615 - (2 ^ t - 1))).testBit s = (x.testBit s && decide (s < 64) && decide (t ≤ s)) := by
  have h1 : 0 < 2 ^ t := Nat.two_pow_pos t
  have h2 : 2 ^ t < 18446744073709551616 := (Nat.pow_lt_pow_right (by decide) ht : 2 ^ t < 2 ^ 64)
  rw [Nat.testBit_and, not_bit _ _ (by omega), Nat.testBit_two_pow_sub_one]
  by_cases hs : s < t
  · simp [hs]
  · simp [hs]; cases x.testBit s <;> simp <;> omega
/-- The lowest bit of a number that is not 0. -/
theorem ctz_bit (x : Nat) (h0 : x ≠ 0) (h : x < 18446744073709551616) : Lib.ctz 64 x < 64 ∧ x.testBit (Lib.ctz 64 x) = true ∧ ∀ t, t < Lib.ctz 64 x → x.testBit t = false := by
  obtain ⟨m, hm, hk⟩ := Lib.ctzFrom_spec 64 x (by omega) h
  have e : Lib.ctz 64 x = Lib.ctzFrom 64 x := by simp [Lib.ctz, h0]
  rw [e]
  generalize Lib.ctzFrom 64 x = k at *
  refine ⟨hk, ?_, fun t ht => ?_⟩
  · rw [hm, Nat.mul_comm, Nat.testBit_mul_two_pow]
    simp
  · rw [hm, Nat.mul_comm, Nat.testBit_mul_two_pow]
    simp; omega
/-- How many of the numbers below k are in a set. -/
def cnt (M : Nat → Bool) : Nat → Nat
  | 0 => 0
  | k + 1 => cnt M k + (if M k then 1 else 0)
theorem cnt_le (M : Nat → Bool) : ∀ k, cnt M k ≤ k
  | 0 => Nat.le_refl _
  | k + 1 => by have := cnt_le M k; unfold cnt; split <;> omega
theorem cnt_add (M : Nat → Bool) (a : Nat) : ∀ k, cnt M (a + k) = cnt M a + cnt (fun t => M (a + t)) k
  | 0 => rfl
  | k + 1 => by
    have := cnt_add M a k
    have e1 : cnt M (a + (k + 1)) = cnt M (a + k) + (if M (a + k) then 1 else 0) := rfl
    have e2 : cnt (fun t => M (a + t)) (k + 1) = cnt (fun t => M (a + t)) k + (if M (a + k) then 1 else 0) := rfl
    rw [e1, e2, this]; omega
theorem cnt_congr {M N : Nat → Bool} : ∀ {k : Nat}, (∀ i, i < k → M i = N i) → cnt M k = cnt N k
  | 0, _ => rfl
  | k + 1, h => by
    unfold cnt
    rw [cnt_congr (k := k) fun i hi => h i (by omega), h k (by omega)]
theorem cnt_false {M : Nat → Bool} {a : Nat} (h : ∀ i, a ≤ i → M i = false) : ∀ k, cnt M (a + k) = cnt M a
  | 0 => rfl
  | k + 1 => by
    have e1 : cnt M (a + (k + 1)) = cnt M (a + k) + (if M (a + k) then 1 else 0) := rfl
    rw [e1, cnt_false h k, if_neg (by rw [h (a + k) (by omega)]; decide)]; rfl
theorem cnt_none {M : Nat → Bool} : ∀ {k : Nat}, (∀ i, i < k → M i = false) → cnt M k = 0
  | 0, _ => rfl
  | k + 1, h => by
    unfold cnt
    rw [cnt_none (k := k) fun i hi => h i (by omega), h k (by omega)]; rfl
theorem cnt_all {M : Nat → Bool} : ∀ {k : Nat}, (∀ i, i < k → M i = true) → cnt M k = k
  | 0, _ => rfl
  | k + 1, h => by
    unfold cnt
    rw [cnt_all (k := k) fun i hi => h i (by omega), h k (by omega)]; rfl
theorem cnt_upd_in {M : Nat → Bool} {i : Nat} {k : Nat} (hi : i < k) (b : Bool) : cnt (upd M i b) k + (if M i then 1 else 0) = cnt M k + (if b then 1 else 0) := by
  induction k with
  | zero => omega
  | succ k ih =>
    unfold cnt
    by_cases e : i = k
    · subst e
      have h1 : cnt (upd M i b) i = cnt M i := cnt_congr fun q hq => by unfold upd; rw [if_neg (by omega)]
      have h2 : upd M i b i = b := by unfold upd; rw [if_pos rfl]
      rw [h1, h2]; omega
    · have h2 : upd M i b k = M k := by unfold upd; rw [if_neg (by omega)]
      rw [h2]
      have := ih (by omega)
      omega
/-- The least number from i on that is in the set (is not, if not has), below n; or -1. -/
def nextFrom (M : Nat → Bool) (has : Bool) : Nat → Nat → Int
  | 0, _ => -1
  | f + 1, q => if M q = has then (q : Int) else nextFrom M has f (q + 1)
def nextI (M : Nat → Bool) (n : Nat) (i : Nat) (has : Bool) : Int := nextFrom M has (n - i) i
theorem next_none {M : Nat → Bool} {has : Bool} : ∀ (f i : Nat), (∀ q, i ≤ q → q < i + f → M q ≠ has) → nextFrom M has f i = -1
  | 0, _, _ => rfl
  | f + 1, i, h => by
    unfold nextFrom
    rw [if_neg (h i (by omega) (by omega)), next_none f (i + 1) fun q h1 h2 => h q (by omega) (by omega)]
theorem next_some {M : Nat → Bool} {has : Bool} : ∀ (f i k : Nat), i ≤ k → k < i + f → M k = has → (∀ q, i ≤ q → q < k → M q ≠ has) → nextFrom M has f i = (k : Int)
  | 0, i, k, h1, h2, _, _ => by omega
  | f + 1, i, k, h1, h2, h3, h4 => by
    unfold nextFrom
    by_cases e : i = k
    · subst e; rw [if_pos h3]
    · rw [if_neg (h4 i (by omega) (by omega))]
      exact next_some f (i + 1) k (by omega) (by omega) h3 fun q h5 h6 => h4 q (by omega) (by omega)
theorem next_is {M : Nat → Bool} {n i k : Nat} {has : Bool} (h1 : i ≤ k) (h2 : k < n) (h3 : M k = has) (h4 : ∀ q, i ≤ q → q < k → M q ≠ has) : nextI M n i has = (k : Int) :=
  next_some _ _ _ h1 (by omega) h3 h4
theorem next_not {M : Nat → Bool} {n i : Nat} {has : Bool} (h : ∀ q, i ≤ q → q < n → M q ≠ has) : nextI M n i has = -1 :=
  next_none _ _ fun q h1 h2 => h q h1 (by omega)
theorem next_way (M : Nat → Bool) (has : Bool) : ∀ (f i : Nat), (nextFrom M has f i = -1 ∧ ∀ q, i ≤ q → q < i + f → M q ≠ has) ∨ ∃ k : Nat, nextFrom M has f i = (k : Int) ∧ i ≤ k ∧ k < i + f ∧ M k = has ∧ ∀ q, i ≤ q → q < k → M q ≠ has
  | 0, i => Or.inl ⟨rfl, fun q h1 h2 => by omega⟩
  | f + 1, i => by
    unfold nextFrom
    by_cases h : M i = has
    · rw [if_pos h]; exact Or.inr ⟨i, rfl, by omega, by omega, h, fun q h1 h2 => by omega⟩
    · rw [if_neg h]
      rcases next_way M has f (i + 1) with ⟨e, h2⟩ | ⟨k, e, h2, h3, h4, h5⟩
      · refine Or.inl ⟨e, fun q h1 h3 => ?_⟩
        by_cases hq : q = i
        · subst hq; exact h
        · exact h2 q (by omega) (by omega)
      · refine Or.inr ⟨k, e, by omega, by omega, h4, fun q h1 h3 => ?_⟩
        by_cases hq : q = i
        · subst hq; exact h
        · exact h5 q (by omega) (by omega)
theorem next_ways (M : Nat → Bool) (n i : Nat) (has : Bool) : (nextI M n i has = -1 ∧ ∀ q, i ≤ q → q < n → M q ≠ has) ∨ ∃ k : Nat, nextI M n i has = (k : Int) ∧ i ≤ k ∧ k < n ∧ M k = has ∧ ∀ q, i ≤ q → q < k → M q ≠ has := by
  rcases next_way M has (n - i) i with ⟨e, h⟩ | ⟨k, e, h1, h2, h3, h4⟩
  · exact Or.inl ⟨e, fun q h1 h2 => h q h1 (by omega)⟩
  · exact Or.inr ⟨k, e, h1, by omega, h3, h4⟩
end Go.Proofs.YtoamabmnbldgkaaDoor.Bm
