/- Floats of whole numbers: their sums are exact. -/
import Derived.Test.YtinlbenifmcgaaaDoorRateOps
namespace Go.Proofs.YtinlbenifmcgaaaDoor
open Go.RowKit Go.Lib Fx Ho Gr Ieee
set_option linter.unusedVariables false
namespace Pr
open Fk Fl
theorem norm_eq {m n e f : Nat} (hm : m < 9007199254740992) (hn : n < 9007199254740992) (h1 : 0 < e → 4503599627370496 ≤ m) (h2 : 0 < f → 4503599627370496 ≤ n) (h : m * 2 ^ e = n * 2 ^ f) : m = n ∧ e = f := by
  rcases Nat.lt_trichotomy e f with hl | rfl | hl
  · obtain ⟨c, rfl⟩ : ∃ c, f = e + (c + 1) := ⟨f - e - 1, by omega⟩
    rw [Nat.pow_add, Nat.mul_left_comm, Nat.mul_comm m] at h
    have h := Nat.eq_of_mul_eq_mul_left (Nat.two_pow_pos e) h
    have h3 := h2 (by omega)
    rw [Nat.pow_succ] at h
    have := Nat.two_pow_pos c
    have h4 : n * 2 ≤ n * (2 ^ c * 2) := Nat.mul_le_mul_left _ (by omega)
    omega
  · exact ⟨Nat.eq_of_mul_eq_mul_right (Nat.two_pow_pos e) h, rfl⟩
  · obtain ⟨c, rfl⟩ : ∃ c, e = f + (c + 1) := ⟨e - f - 1, by omega⟩
    rw [Nat.pow_add, Nat.mul_left_comm, Nat.mul_comm n] at h
    have h := Nat.eq_of_mul_eq_mul_left (Nat.two_pow_pos f) h
    have h3 := h1 (by omega)
    rw [Nat.pow_succ] at h
    have := Nat.two_pow_pos c
    have h4 : m * 2 ≤ m * (2 ^ c * 2) := Nat.mul_le_mul_left _ (by omega)
    omega
theorem read_parts {x : Nat} (hx : Wf x) {s : Bool} {m : Nat} {i : Int} (h : double.read x = .number s m i) : ∃ e : Nat, i = -1074 + (e : Int) ∧ m < 9007199254740992 ∧ (0 < e → 4503599627370496 ≤ m) ∧ x = (if s then 9223372036854775808 else 0) + (if m < 4503599627370496 then m else e * 4503599627370496 + m) := by
  unfold Wf at hx
  unfold Format.read at h
  simp only [leastPlace_eq, binade_eq, infRung_eq, signWeight_eq] at h
  have hs : (x / 9223372036854775808 % 2 == 1) = s → x / 9223372036854775808 = (if s then 1 else 0) := by
    intro e
    have : x / 9223372036854775808 < 2 := by omega
    cases s with
    | true => rw [beq_iff_eq] at e; simp only [if_true]; omega
    | false => rw [beq_eq_false_iff_ne] at e; simp only [Bool.false_eq_true, if_false]; omega
  split at h
  · rename_i h1
    injection h with a b c
    subst b
    refine ⟨0, by omega, by omega, fun h => by omega, ?_⟩
    have := hs a
    rw [if_pos h1]
    cases s <;> simp only [if_true, Bool.false_eq_true, if_false] at this ⊢ <;> omega
  · split at h
    · rename_i h1 h2
      injection h with a b c
      subst b
      refine ⟨x % 9223372036854775808 / 4503599627370496 - 1, by omega, by omega, fun h => by omega, ?_⟩
      have := hs a
      rw [if_neg (c := 4503599627370496 + x % 9223372036854775808 % 4503599627370496 < 4503599627370496) (by omega)]
      cases s <;> simp only [if_true, Bool.false_eq_true, if_false] at this ⊢ <;> omega
    · split at h <;> cases h
theorem word_eq {x y : Nat} (hx : Wf x) (hy : Wf y) {s : Bool} {m n : Nat} {i j : Int} (h1 : double.read x = .number s m i) (h2 : double.read y = .number s n j) (h : val s m i = val s n j) : x = y := by
  obtain ⟨e, rfl, a1, a2, a3⟩ := read_parts hx h1
  obtain ⟨f, rfl, b1, b2, b3⟩ := read_parts hy h2
  have hv : m * 2 ^ (e + 126) = n * 2 ^ (f + 126) := by
    unfold val at h
    rw [show (-1074 + (e : Int) + 1200).toNat = e + 126 by omega, show (-1074 + (f : Int) + 1200).toNat = f + 126 by omega] at h
    unfold sg at h
    cases s
    · simp only [Bool.false_eq_true, if_false] at h; omega
    · simp only [if_true] at h; omega
  rw [Nat.pow_add, Nat.pow_add, ← Nat.mul_assoc, ← Nat.mul_assoc] at hv
  have hv := Nat.eq_of_mul_eq_mul_right (Nat.two_pow_pos 126) hv
  obtain ⟨rfl, rfl⟩ := norm_eq a1 b1 a2 b2 hv
  rw [a3, b3]
theorem int_read {n : Int} (hn : n.natAbs < 9007199254740992) : ∃ m i, double.read (floatOfInt .f64 n) = .number (decide (n < 0)) m i ∧ val (decide (n < 0)) m i = n * (TT : Int) :=
  int_word (k := n.natAbs) (p := 0) hn (by omega) (by omega) (by rw [pow_TT])
theorem up_val {s : Bool} {m : Nat} {i b : Int} (hb : -1074 ≤ b) (hi : b ≤ i) : signed s m (i - b).toNat * ((2 ^ (b + 1200).toNat : Nat) : Int) = val s m i := by
  rw [signed_eq]
  unfold val
  rw [Int.mul_assoc, ← Int.natCast_mul, Nat.mul_assoc, ← Nat.pow_add]
  congr 4
  omega
theorem sum_int {a b : Int} (ha : a.natAbs < 9007199254740992) (hb : b.natAbs < 9007199254740992) (hab : (a + b).natAbs < 9007199254740992) : floatBits .add .f64 (floatOfInt .f64 a) (floatOfInt .f64 b) = some (floatOfInt .f64 (a + b)) := by
  obtain ⟨m, i, h1, h2⟩ := int_read ha
  obtain ⟨n, j, h3, h4⟩ := int_read hb
  obtain ⟨m0, i0, h5, h6⟩ := int_read hab
  have b1 := read_bounds h1
  have b2 := read_bounds h3
  obtain ⟨base, hbase⟩ : ∃ base : Int, min i j = base := ⟨_, rfl⟩
  obtain ⟨t, ht⟩ : ∃ t : Int, signed (decide (a < 0)) m (i - base).toNat + signed (decide (b < 0)) n (j - base).toNat = t := ⟨_, rfl⟩
  have e0 : floatBits .add .f64 (floatOfInt .f64 a) (floatOfInt .f64 b) = some (double.write (.number (if t = 0 then decide (a < 0) && decide (b < 0) else decide (t < 0)) t.natAbs base)) := by
    show double.add _ _ = _
    unfold Format.add
    rw [h1, h3]
    simp only [Datum.sum, Option.map, hbase, ht]
  have hT := TT_pos
  have hp : 0 < 2 ^ (base + 1200).toNat := Nat.two_pow_pos _
  obtain ⟨P, hP⟩ : ∃ P : Nat, 2 ^ (base + 1200).toNat = P := ⟨_, rfl⟩
  have et : t * (P : Int) = (a + b) * (TT : Int) := by
    rw [← ht, ← hP, Int.add_mul, up_val (by omega) (by omega), up_val (by omega) (by omega), h2, h4, Int.add_mul]
  rw [hP] at hp
  have hz : t = 0 ↔ a + b = 0 := by
    constructor
    · intro e
      rw [e, Int.zero_mul] at et
      rcases Int.mul_eq_zero.1 et.symm with h | h
      · exact h
      · omega
    · intro e
      rw [e, Int.zero_mul] at et
      rcases Int.mul_eq_zero.1 et with h | h
      · exact h
      · omega
  have hn : t < 0 ↔ a + b < 0 := by
    constructor
    · intro e
      have := Int.mul_neg_of_neg_of_pos e (show (0 : Int) < P by omega)
      rw [et] at this
      rcases Int.lt_or_le (a + b) 0 with h | h
      · exact h
      · have := Int.mul_nonneg h (show (0 : Int) ≤ TT by omega)
        omega
    · intro e
      have := Int.mul_neg_of_neg_of_pos e (show (0 : Int) < TT by omega)
      rw [← et] at this
      rcases Int.lt_or_le t 0 with h | h
      · exact h
      · have := Int.mul_nonneg h (show (0 : Int) ≤ P by omega)
        omega
  have hs : (if t = 0 then decide (a < 0) && decide (b < 0) else decide (t < 0)) = decide (a + b < 0) := by
    by_cases e : t = 0
    · rw [if_pos e]
      have := hz.1 e
      rw [decide_eq_false (show ¬ a + b < 0 by omega), Bool.and_eq_false_iff]
      simp only [decide_eq_false_iff_not]
      omega
    · rw [if_neg e]
      by_cases h : t < 0
      · rw [decide_eq_true h, decide_eq_true (hn.1 h)]
      · rw [decide_eq_false h, decide_eq_false (fun k => h (hn.2 k))]
  rw [hs] at e0
  have em : t.natAbs * 2 ^ (base + 1200).toNat = (a + b).natAbs * 2 ^ ((0 : Int) + 1200).toNat := by
    rw [hP, pow_TT]
    have := congrArg Int.natAbs et
    rw [Int.natAbs_mul, Int.natAbs_mul, Int.natAbs_natCast, Int.natAbs_natCast] at this
    exact this
  obtain ⟨m1, i1, h7, h8⟩ := write_exact (s := decide (a + b < 0)) (by omega) hab (by omega) (by omega) em
  have hw1 := floatBits_wf e0
  rw [e0]
  congr 1
  have hw := floatOfInt_wf .f64 (a + b)
  refine word_eq (by simpa [Lit.wf, Wf] using hw1) (by simpa [Lit.wf, Wf] using hw) h7 h5 ?_
  rw [h8, h6, pow_TT, Int.natCast_mul, ← Int.mul_assoc]
  congr 1
  unfold sg
  by_cases h : a + b < 0
  · rw [if_pos (by simpa using h)]; omega
  · rw [if_neg (by simpa using h)]; omega
end Pr
end Go.Proofs.YtinlbenifmcgaaaDoor
