/- Plain facts on binary floating point numbers of 64 bits: which number a word holds when it can hold it exactly; no condition but those that each statement names. -/
import Derived.Laws.FloatArith
namespace Go.Proofs.YtinlbenifmcgaaaDoor.Fl
open Ieee
set_option linter.unusedVariables false

theorem leastPlace_eq : double.leastPlace = -1074 := by decide
theorem binade_eq : double.binade = 4503599627370496 := by decide
theorem infRung_eq : double.infRung = 9218868437227405312 := by decide
theorem signWeight_eq : double.signWeight = 9223372036854775808 := by decide
theorem fraction_eq : double.fractionBits = 52 := rfl

/-- What a word of a sign and a rung below infinity's stands for. -/
theorem read_word (neg : Bool) (r : Nat) (h : r < 9218868437227405312) :
    double.read (double.word neg r) = if r < 4503599627370496 then .number neg r (-1074) else .number neg (4503599627370496 + r % 4503599627370496) (-1074 + (r / 4503599627370496 - 1 : Nat)) := by
  unfold Format.read Format.word
  simp only [leastPlace_eq, binade_eq, infRung_eq, signWeight_eq]
  cases neg with
  | true =>
    rw [if_pos rfl]
    have e1 : (9223372036854775808 + r) / 9223372036854775808 % 2 = 1 := by omega
    have e2 : (9223372036854775808 + r) % 9223372036854775808 = r := by omega
    rw [e1, e2, if_pos h]
    split <;> rfl
  | false =>
    rw [show (if false = true then 9223372036854775808 + r else r) = r from rfl]
    have e1 : r / 9223372036854775808 % 2 = 0 := by omega
    have e2 : r % 9223372036854775808 = r := by omega
    rw [e1, e2, if_pos h]
    split <;> rfl

theorem read_kept (neg : Bool) (K : Nat) (last : Int) (h1 : -1074 ≤ last) (h2 : last ≤ 971) (hK : K < 9007199254740992) (hn : -1074 < last → 4503599627370496 ≤ K) :
    double.read (double.word neg (min ((last + 1074).toNat * 4503599627370496 + K) 9218868437227405312)) = .number neg K last := by
  have hr : (last + 1074).toNat * 4503599627370496 + K < 9218868437227405312 := by omega
  rw [Nat.min_eq_left (by omega), read_word _ _ hr]
  by_cases h : (last + 1074).toNat * 4503599627370496 + K < 4503599627370496
  · rw [if_pos h]
    have : last = -1074 := by omega
    subst this
    congr 1; omega
  · rw [if_neg h]
    have hK' : 4503599627370496 ≤ K := by
      by_cases hl : -1074 < last
      · exact hn hl
      · omega
    congr 1 <;> omega

theorem cut_even_zero (neg : Bool) (n : Nat) : Toward.even.cut neg n 0 = n := by
  unfold Toward.cut
  simp [Nat.mod_one]
theorem cut_even_exact (neg : Bool) (n d : Nat) (hd : d ≤ n.log2 + 2) (h : 2 ^ d ∣ n) : Toward.even.cut neg n d = n / 2 ^ d := by
  unfold Toward.cut
  have hm : n % 2 ^ d = 0 := Nat.mod_eq_zero_of_dvd h
  have hp : 0 < 2 ^ d := Nat.two_pow_pos d
  simp only [Nat.min_eq_left hd, Nat.shiftLeft_eq, Nat.one_mul, hm]
  have : (2 ^ d == 0) = false := by rw [beq_eq_false_iff_ne]; omega
  simp [this]

theorem pow_split {a b c : Nat} (h : c = a + b) : (2 : Nat) ^ c = 2 ^ a * 2 ^ b := by subst h; exact Nat.pow_add _ _ _

/-- A number that some word holds is the number of the word that is nearest to it. -/
theorem nearest_exact (neg : Bool) (mag : Nat) (place : Int) (k : Nat) (p : Int) (hp : -1200 ≤ place) (hk : k < 9007199254740992) (hp1 : -1074 ≤ p) (hp2 : p ≤ 971) (e : mag * 2 ^ (place + 1200).toNat = k * 2 ^ (p + 1200).toNat) :
    ∃ m i, double.read (double.nearest neg mag place) = .number neg m i ∧ m < 9007199254740992 ∧ -1074 ≤ i ∧ i ≤ 971 ∧ m * 2 ^ (i + 1200).toNat = mag * 2 ^ (place + 1200).toNat := by
  by_cases h0 : mag = 0
  · subst h0
    refine ⟨0, -1074, ?_, by decide, by decide, by decide, by simp⟩
    unfold Format.nearest
    rw [if_pos rfl, read_word _ _ (by decide)]; rfl
  have h1 := Nat.log2_self_le h0
  have h2 := @Nat.lt_log2_self mag
  have e53 : (9007199254740992 : Nat) = 2 ^ 53 := by decide
  have e52 : (4503599627370496 : Nat) = 2 ^ 52 := by decide
  unfold Format.nearest
  rw [if_neg h0]
  simp only [leastPlace_eq, binade_eq, infRung_eq, fraction_eq]
  generalize hL : mag.log2 = L at *
  have hLp : (L : Int) + place ≤ p + 52 := by
    refine Int.not_lt.1 fun hlt => ?_
    have a1 : k * 2 ^ (p + 1200).toNat < 2 ^ 53 * 2 ^ (p + 1200).toNat := Nat.mul_lt_mul_of_pos_right (by rw [← e53]; exact hk) (Nat.two_pow_pos _)
    have a2 : 2 ^ L * 2 ^ (place + 1200).toNat ≤ mag * 2 ^ (place + 1200).toNat := Nat.mul_le_mul_right _ h1
    rw [← Nat.pow_add] at a1 a2
    have a3 : (2 : Nat) ^ (53 + (p + 1200).toNat) ≤ 2 ^ (L + (place + 1200).toNat) := Nat.pow_le_pow_right (by decide) (by omega)
    omega
  obtain ⟨last, hlast⟩ : ∃ z : Int, z = max (place + (L : Int) - 52) (-1074) := ⟨_, rfl⟩
  have hl1 : place + (L : Int) - 52 ≤ last := by rw [hlast]; exact Int.le_max_left _ _
  have hl2 : -1074 ≤ last := by rw [hlast]; exact Int.le_max_right _ _
  have hl3 : -1074 < last → last = place + (L : Int) - 52 := by omega
  have hl4 : last ≤ p := by omega
  have fin : ∀ K : Nat, K * 2 ^ (last + 1200).toNat = mag * 2 ^ (place + 1200).toNat → ∃ m i, double.read (double.word neg (min ((last - -1074).toNat * 4503599627370496 + K) 9218868437227405312)) = .number neg m i ∧ m < 9007199254740992 ∧ -1074 ≤ i ∧ i ≤ 971 ∧ m * 2 ^ (i + 1200).toNat = mag * 2 ^ (place + 1200).toNat := by
    intro K hK
    have hKlt : K < 9007199254740992 := by
      rw [e53]
      refine Nat.lt_of_mul_lt_mul_right (a := 2 ^ (last + 1200).toNat) ?_
      rw [hK, ← Nat.pow_add]
      have a1 : mag * 2 ^ (place + 1200).toNat < 2 ^ (L + 1) * 2 ^ (place + 1200).toNat := Nat.mul_lt_mul_of_pos_right h2 (Nat.two_pow_pos _)
      rw [← Nat.pow_add] at a1
      have a2 : (2 : Nat) ^ (L + 1 + (place + 1200).toNat) ≤ 2 ^ (53 + (last + 1200).toNat) := Nat.pow_le_pow_right (by decide) (by omega)
      omega
    refine ⟨K, last, ?_, hKlt, hl2, by omega, hK⟩
    rw [show last - -1074 = last + 1074 by omega]
    refine read_kept neg K last hl2 (by omega) hKlt fun hgt => ?_
    have he := hl3 hgt
    rw [e52]
    refine Nat.le_of_mul_le_mul_right (c := 2 ^ (last + 1200).toNat) ?_ (Nat.two_pow_pos _)
    rw [hK, ← Nat.pow_add, show 52 + (last + 1200).toNat = L + (place + 1200).toNat by omega, Nat.pow_add]
    exact Nat.mul_le_mul_right _ h1
  rw [show ((52 : Nat) : Int) = 52 from rfl, ← hlast]
  by_cases hc : last ≤ place
  · rw [show (last - place).toNat = 0 by omega, cut_even_zero, Nat.shiftLeft_eq]
    refine fin _ ?_
    rw [Nat.mul_assoc, ← Nat.pow_add]
    congr 2; omega
  · rw [show (place - last).toNat = 0 by omega, Nat.shiftLeft_zero]
    have em : mag = k * 2 ^ (p - place).toNat := by
      refine Nat.eq_of_mul_eq_mul_right (Nat.two_pow_pos (place + 1200).toNat) ?_
      rw [e, Nat.mul_assoc, ← Nat.pow_add]
      congr 2; omega
    have hdvd : 2 ^ (last - place).toNat ∣ mag := by
      rw [em]
      exact Nat.dvd_trans (Nat.pow_dvd_pow 2 (by omega)) (Nat.dvd_mul_left _ _)
    have hd : (last - place).toNat ≤ L := by
      have a1 := Nat.le_of_dvd (by omega) hdvd
      refine Nat.not_lt.1 fun hlt => ?_
      have a2 : (2 : Nat) ^ (L + 1) ≤ 2 ^ (last - place).toNat := Nat.pow_le_pow_right (by decide) hlt
      omega
    rw [cut_even_exact neg mag _ (by omega) hdvd]
    refine fin _ ?_
    obtain ⟨c, hcc⟩ := hdvd
    have : mag / 2 ^ (last - place).toNat = c := by rw [hcc, Nat.mul_div_cancel_left _ (Nat.two_pow_pos _)]
    rw [this, hcc, Nat.mul_comm (2 ^ (last - place).toNat) c, Nat.mul_assoc, ← Nat.pow_add]
    congr 2; omega
end Go.Proofs.YtinlbenifmcgaaaDoor.Fl
