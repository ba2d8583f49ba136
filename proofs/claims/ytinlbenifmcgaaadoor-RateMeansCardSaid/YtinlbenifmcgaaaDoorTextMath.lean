/- A float in hundredths, rounded: what math.Round does on the bits, and what the document's own Text reckons; plain mathematics. -/
import Derived.Test.YtinlbenifmcgaaaDoorFKey
import Derived.Test.YtinlbenifmcgaaaDoorConf
import Derived.Laws.BitsAllLaws
namespace Go.Proofs.YtinlbenifmcgaaaDoor
open Go.RowKit Go.Lib Fx
set_option linter.unusedVariables false
namespace Tm
open Fk Fl Ieee
/-- The lower k bits cleared. -/
theorem clear_low (x k : Nat) (hx : x < 18446744073709551616) (hk : k ≤ 64) : x &&& (18446744073709551615 - (2 ^ k - 1)) = x / 2 ^ k * 2 ^ k := by
  have e : 18446744073709551615 - (2 ^ k - 1) = (2 ^ (64 - k) - 1) <<< k := by
    rw [Nat.shiftLeft_eq, Nat.sub_mul, ← Nat.pow_add, show 64 - k + k = 64 by omega, Nat.one_mul]
    have h1 : 1 ≤ 2 ^ k := Nat.two_pow_pos _
    have h2 : (2 : Nat) ^ 64 = 18446744073709551616 := by decide
    have h3 : 2 ^ k ≤ 2 ^ 64 := Nat.pow_le_pow_right (by decide) hk
    omega
  rw [e, ← Nat.shiftRight_eq_div_pow, ← Nat.shiftLeft_eq]
  apply Nat.eq_of_testBit_eq
  intro i
  rw [Nat.testBit_and, Nat.testBit_shiftLeft, Nat.testBit_shiftLeft, Nat.testBit_two_pow_sub_one, Nat.testBit_shiftRight]
  by_cases h : k ≤ i
  · rw [show k + (i - k) = i by omega]
    by_cases h2 : i < 64
    · simp [h, show i - k < 64 - k by omega]
    · have : x.testBit i = false := Nat.testBit_lt_two_pow (Nat.lt_of_lt_of_le (show x < 2 ^ 64 by omega) (Nat.pow_le_pow_right (by decide) (by omega)))
      simp [this]
  · simp [h]
theorem and_low (x k : Nat) : x &&& (2 ^ k - 1) = x % 2 ^ k := Nat.and_two_pow_sub_one_eq_mod x k
theorem mask_shift (j : Nat) (hj : j ≤ 52) : 4503599627370495 / 2 ^ j = 2 ^ (52 - j) - 1 := by
  have h1 : 1 ≤ 2 ^ j := Nat.two_pow_pos _
  have h2 : 1 ≤ 2 ^ (52 - j) := Nat.two_pow_pos _
  have h3 : 2 ^ (52 - j) * 2 ^ j = 4503599627370496 := by rw [← Nat.pow_add, show 52 - j + j = 52 by omega]
  refine Nat.div_eq_of_lt_le ?_ ?_
  · rw [Nat.sub_mul, h3]; omega
  · rw [show 2 ^ (52 - j) - 1 + 1 = 2 ^ (52 - j) by omega, h3]; omega
theorem half_shift (j : Nat) (hj : j ≤ 51) : 2251799813685248 / 2 ^ j = 2 ^ (51 - j) := by
  rw [show 2251799813685248 = 2 ^ 51 by decide, Nat.pow_div hj (by decide)]
/-- What a word below infinity, without a sign, stands for. -/
theorem read_pos {h : Nat} (hh : h < 9218868437227405312) : double.read h = if h < 4503599627370496 then .number false h (-1074) else .number false (4503599627370496 + h % 4503599627370496) (-1074 + (h / 4503599627370496 - 1 : Nat)) := by
  have := read_word false h hh
  rw [show double.word false h = h from rfl] at this
  exact this
/-- Rounded, halves up. -/
def nOf (V : Int) : Int := (2 * V + (TT : Int)) / (2 * (TT : Int))
theorem pow_cut {k : Nat} (hk : k ≤ 1200) : TT = 2 ^ (1200 - k) * 2 ^ k := by
  unfold TT
  rw [← Nat.pow_add, show 1200 - k + k = NN by unfold NN; omega]
def N46 : Nat := 1146
def N98 : Nat := 1198
/-- The word that math.Round makes. -/
def rnd (h : Nat) : Nat :=
  if h / 4503599627370496 < 1022 then 0 else if h / 4503599627370496 = 1022 then 4607182418800017408
  else (h + 2 ^ (1074 - h / 4503599627370496)) / 2 ^ (1075 - h / 4503599627370496) * 2 ^ (1075 - h / 4503599627370496)
theorem nOf_nat {M k N : Nat} (hk : k ≤ 1200) (hk1 : 1 ≤ k) (hN : (M + 2 ^ (k - 1)) / 2 ^ k = N) : nOf ((M * 2 ^ (1200 - k) : Nat) : Int) = (N : Int) := by
  unfold nOf
  have e1 : 2 * ((M * 2 ^ (1200 - k) : Nat) : Int) + (TT : Int) = ((2 * (M * 2 ^ (1200 - k)) + TT : Nat) : Int) := by push_cast; rfl
  have e2 : 2 * (TT : Int) = ((2 * TT : Nat) : Int) := by push_cast; rfl
  rw [e1, e2, ← Int.natCast_ediv]
  refine congrArg (Nat.cast : Nat → Int) ?_
  rw [pow_cut hk]
  have hp : 2 ^ k = 2 * 2 ^ (k - 1) := by rw [show k = (k - 1) + 1 by omega, Nat.pow_succ]; simp; omega
  rw [hp] at hN ⊢
  have hT : 0 < 2 ^ (1200 - k) := Nat.two_pow_pos _
  generalize 2 ^ (1200 - k) = T at *
  generalize 2 ^ (k - 1) = P at *
  rw [show 2 * (M * T) + T * (2 * P) = (2 * T) * (M + P) by rw [Nat.mul_add, ← Nat.mul_assoc 2 M T, Nat.mul_comm 2 M, Nat.mul_assoc M 2 T, Nat.mul_comm M (2 * T), ← Nat.mul_assoc T 2 P, Nat.mul_comm T 2], show 2 * (T * (2 * P)) = (2 * T) * (2 * P) by rw [Nat.mul_assoc], Nat.mul_div_mul_left _ _ (by omega)]
  exact hN
theorem val_false {m : Nat} {i : Int} : val false m i = ((m * 2 ^ (i + 1200).toNat : Nat) : Int) := by unfold val sg; simp
/-- What math.Round's word stands for. -/
theorem rnd_ok {h M : Nat} {I : Int} (hh : double.read h = .number false M I) (hl : h < 9223372036854775808) (hV : val false M I < 1125899906842624 * (TT : Int)) : ∃ K L, double.read (rnd h) = .number false K L ∧ val false K L = nOf (val false M I) * (TT : Int) ∧ 0 ≤ nOf (val false M I) ∧ nOf (val false M I) ≤ 1125899906842624 := by
  have hT := TT_pos
  have hV0 : 0 ≤ val false M I := by rw [val_false]; omega
  have hb0 : 0 ≤ nOf (val false M I) := by unfold nOf; exact Int.ediv_nonneg (by omega) (by omega)
  have hb1 : nOf (val false M I) ≤ 1125899906842624 := by
    unfold nOf
    have : (2 * val false M I + (TT : Int)) / (2 * (TT : Int)) < 1125899906842625 := by
      refine Int.ediv_lt_of_lt_mul (by omega) ?_
      generalize (TT : Int) = T at *
      omega
    omega
  suffices h : ∃ K L, double.read (rnd h) = .number false K L ∧ val false K L = nOf (val false M I) * (TT : Int) by
    obtain ⟨K, L, k1, k2⟩ := h
    exact ⟨K, L, k1, k2, hb0, hb1⟩
  clear hb0 hb1
  have hr : h < 9218868437227405312 := by
    rcases Nat.lt_or_ge h 9218868437227405312 with h1 | h1
    · exact h1
    · exfalso
      unfold Format.read at hh
      simp only [leastPlace_eq, binade_eq, infRung_eq, signWeight_eq] at hh
      rw [if_neg (by omega), if_neg (by omega)] at hh
      by_cases e : h % 9223372036854775808 = 9218868437227405312
      · rw [if_pos e] at hh; exact Datum.noConfusion hh
      · rw [if_neg e] at hh; exact Datum.noConfusion hh
  have hrd := read_pos hr
  rw [hh] at hrd
  obtain ⟨E, hE⟩ : ∃ E, h / 4503599627370496 = E := ⟨_, rfl⟩
  unfold rnd
  rw [hE]
  by_cases h1 : E < 1022
  · rw [if_pos h1]
    refine ⟨0, -1074, by decide, ?_⟩
    rw [Fk.val_zero]
    have : nOf (val false M I) = 0 := by
      unfold nOf
      refine Int.ediv_eq_zero_of_lt (by omega) ?_
      have : 2 * val false M I < (TT : Int) := by
        rw [val_false]
        have hM : M < 9007199254740992 := (read_bounds hh).1
        have hI : I ≤ -54 := by
          by_cases h2 : h < 4503599627370496
          · rw [if_pos h2, Datum.number.injEq] at hrd; rw [hrd.2.2]; decide
          · rw [if_neg h2] at hrd
            rw [Datum.number.injEq] at hrd
            obtain ⟨_, _, c⟩ := hrd
            rw [c, hE]; omega
        have h3 : M * 2 ^ (I + 1200).toNat < 9007199254740992 * 2 ^ N46 := Nat.lt_of_lt_of_le (Nat.mul_lt_mul_of_pos_right hM (Nat.two_pow_pos _)) (Nat.mul_le_mul_left _ (Nat.pow_le_pow_right (by decide) (by unfold N46; omega)))
        have h4 : TT = 9007199254740992 * 2 ^ N46 * 2 := by
          unfold TT
          rw [show NN = 53 + N46 + 1 from rfl, Nat.pow_succ, Nat.pow_add]
        generalize 2 ^ N46 = X at *
        generalize M * 2 ^ (I + 1200).toNat = Y at *
        omega
      omega
    rw [this, Int.zero_mul]
  · rw [if_neg h1]
    have h2 : ¬ h < 4503599627370496 := by omega
    rw [if_neg h2] at hrd
    rw [Datum.number.injEq] at hrd
    obtain ⟨_, hM, hI⟩ := hrd
    obtain ⟨f, hf⟩ : ∃ f, h % 4503599627370496 = f := ⟨_, rfl⟩
    have hfl : f < 4503599627370496 := by omega
    rw [hf] at hM
    rw [hE] at hI
    have hhE : h = E * 4503599627370496 + f := by omega
    have hEb : E < 1073 := by
      rcases Nat.lt_or_ge E 1073 with h3 | h3
      · exact h3
      · exfalso
        rw [val_false] at hV
        have h4 : 4503599627370496 * 2 ^ N98 ≤ M * 2 ^ (I + 1200).toNat := Nat.mul_le_mul (by omega) (Nat.pow_le_pow_right (by decide) (by unfold N98; omega))
        have h5 : 4503599627370496 * 2 ^ N98 = 1125899906842624 * TT := by
          unfold TT
          rw [show NN = 2 + N98 from rfl, Nat.pow_add, ← Nat.mul_assoc]
        generalize 2 ^ N98 = X at *
        generalize M * 2 ^ (I + 1200).toNat = Y at *
        omega
    by_cases h3 : E = 1022
    · rw [if_pos h3]
      refine ⟨4503599627370496, -52, by decide, ?_⟩
      have e1 : val false 4503599627370496 (-52) = (TT : Int) := val_one
      rw [e1]
      have : nOf (val false M I) = 1 := by
        have hI2 : (I + 1200).toNat = 1200 - 53 := by omega
        rw [val_false, hI2]
        obtain ⟨q, hq⟩ : ∃ q, q = 53 := ⟨_, rfl⟩
        rw [← hq]
        refine nOf_nat (N := 1) (by omega) (by omega) ?_
        subst hq
        rw [show (2 : Nat) ^ (53 - 1) = 4503599627370496 from by decide, show (2 : Nat) ^ 53 = 9007199254740992 from by decide]
        omega
      rw [this, Int.one_mul]
    · rw [if_neg h3]
      obtain ⟨k, hk⟩ : ∃ k, 1075 - E = k := ⟨_, rfl⟩
      have hk1 : 3 ≤ k := by omega
      have hk2 : k ≤ 52 := by omega
      rw [hk, show 1074 - E = k - 1 by omega]
      have hI2 : (I + 1200).toNat = 1200 - k := by omega
      obtain ⟨N, hN⟩ : ∃ N, (M + 2 ^ (k - 1)) / 2 ^ k = N := ⟨_, rfl⟩
      have hn := nOf_nat (by omega) (by omega) hN
      rw [val_false, hI2, hn]
      have hp : 2 ^ k = 2 * 2 ^ (k - 1) := by rw [show k = (k - 1) + 1 by omega, Nat.pow_succ]; simp; omega
      have h52 : 4503599627370496 = 2 ^ (52 - k) * 2 ^ k := by rw [← Nat.pow_add, show 52 - k + k = 52 by omega]
      have hP : 0 < 2 ^ k := Nat.two_pow_pos _
      obtain ⟨c, hc⟩ : ∃ c, 2 ^ (52 - k) = c := ⟨_, rfl⟩
      rw [hc] at h52
      have hr2 : (h + 2 ^ (k - 1)) / 2 ^ k * 2 ^ k = (E - 1) * 4503599627370496 + N * 2 ^ k := by
        have e1 : h + 2 ^ (k - 1) = (M + 2 ^ (k - 1)) + (E - 1) * c * 2 ^ k := by
          rw [Nat.mul_assoc, ← h52]; omega
        rw [e1, Nat.add_mul_div_right _ _ hP, hN, Nat.add_mul, Nat.mul_assoc, ← h52]; omega
      rw [hr2]
      have hNlo : 4503599627370496 ≤ N * 2 ^ k := by
        have : c ≤ N := by
          rw [← hN]
          refine (Nat.le_div_iff_mul_le hP).2 ?_
          rw [← h52]; omega
        calc 4503599627370496 = c * 2 ^ k := h52
          _ ≤ N * 2 ^ k := Nat.mul_le_mul_right _ this
      have hNhi : N * 2 ^ k ≤ 9007199254740992 := by
        have h5 : N ≤ 2 * c := by
          have : N < 2 * c + 1 := by
            rw [← hN]
            refine (Nat.div_lt_iff_lt_mul hP).2 ?_
            rw [Nat.add_mul, Nat.mul_assoc, ← h52]; omega
          omega
        calc N * 2 ^ k ≤ 2 * c * 2 ^ k := Nat.mul_le_mul_right _ h5
          _ = 9007199254740992 := by rw [Nat.mul_assoc, ← h52]
      have hfin : (N : Int) * (TT : Int) = ((N * 2 ^ k * 2 ^ (1200 - k) : Nat) : Int) := by
        rw [pow_cut (k := k) (by omega), Nat.mul_comm (2 ^ (1200 - k)) (2 ^ k), Nat.mul_assoc]
        push_cast; rfl
      rw [hfin]
      by_cases h4 : N * 2 ^ k < 9007199254740992
      · refine ⟨N * 2 ^ k, -(k : Int), ?_, ?_⟩
        · rw [read_pos (by omega), if_neg (by omega)]
          congr 1 <;> omega
        · rw [val_false, show (-(k : Int) + 1200).toNat = 1200 - k by omega]
      · refine ⟨4503599627370496, -(k : Int) + 1, ?_, ?_⟩
        · rw [read_pos (by omega), if_neg (by omega)]
          congr 1 <;> omega
        · rw [val_false, show (-(k : Int) + 1 + 1200).toNat = (1200 - k) + 1 by omega, Nat.pow_succ]
          have : N * 2 ^ k = 9007199254740992 := by omega
          rw [this]
          generalize 2 ^ (1200 - k) = T
          congr 1; omega
end Tm
end Go.Proofs.YtinlbenifmcgaaaDoor
