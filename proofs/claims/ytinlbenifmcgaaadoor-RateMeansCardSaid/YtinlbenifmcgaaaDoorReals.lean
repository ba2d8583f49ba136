/- What the package fix's Float and Real, and the document's own Float, answer, told by the values of their numbers, for every float and every whole number of 64 bits. -/
import Derived.Test.YtinlbenifmcgaaaDoorKit
import Derived.Test.YtinlbenifmcgaaaDoorFloatOps
import Derived.WalkLawsBesides
namespace Go.Proofs.YtinlbenifmcgaaaDoor
open Go.RowKit Go.Lib Fx Fl
set_option linter.unusedVariables false

namespace Fl
open Ieee
/-- What a float comes to: not a number: 0; else rounded down, kept within 64 bits. -/
def floatI (x : Nat) : Int :=
  match double.read x with
  | .nan _ _ => 0
  | .infinity s => if s then -9223372036854775808 else 9223372036854775807
  | .number s m i => clampI (val s m i * 1048576 / (TT : Int))
theorem floatI_number {x : Nat} {s : Bool} {m : Nat} {i : Int} (h : double.read x = .number s m i) : floatI x = clampI (val s m i * 1048576 / (TT : Int)) := by
  unfold floatI; rw [h]
theorem pow_NN (a : Nat) : 2 ^ (a + NN) = 2 ^ a * TT := Nat.pow_add _ _ _
theorem small_place {s : Bool} {m : Nat} {i : Int} (hm : m < 9007199254740992) (hi : -1074 ≤ i) (h1 : val s m i < 8796093022208 * (TT : Int)) (h2 : -(8796093022208 * (TT : Int)) < val s m i) (h0 : m ≠ 0) : i ≤ 43 := by
  refine Int.not_lt.1 fun hlt => ?_
  have e : 1 * 2 ^ (43 + NN) ≤ m * 2 ^ (i + 1200).toNat := Nat.mul_le_mul (by omega) (Nat.pow_le_pow_right (by decide) (by unfold NN; omega))
  have e2 : (2 : Nat) ^ (43 + NN) = 8796093022208 * TT := by rw [pow_NN, show (2 : Nat) ^ 43 = 8796093022208 from by decide]
  rw [Nat.one_mul, e2] at e
  unfold val sg at h1 h2
  generalize m * 2 ^ (i + 1200).toNat = V at *
  cases s
  · rw [if_neg (by decide)] at h1; omega
  · rw [if_pos rfl] at h2; omega
/-- What stands between x and the answer, where x is less than 2^43 in size. -/
theorem mid_steps {x : Nat} {s : Bool} {m : Nat} {i : Int} (hx : double.read x = .number s m i) (h1 : val s m i < 8796093022208 * (TT : Int)) (h2 : -(8796093022208 * (TT : Int)) < val s m i) :
    ∃ y m' i' n z, double.mul x c20 = some y ∧ double.read y = .number s m' i' ∧ (double.read y).integral .down = .number s n 0 ∧ double.write (.number s n 0) = z ∧ floatToIntVal .f64 z .i64 = some (floatI x) := by
  obtain ⟨b1, b2, b3⟩ := read_bounds hx
  have hi : i ≤ 900 := by
    by_cases h0 : m = 0
    · have : i = -1074 := by
        unfold Format.read at hx
        simp only [leastPlace_eq, binade_eq, infRung_eq, signWeight_eq] at hx
        split at hx
        · cases hx; rfl
        · split at hx
          · cases hx; omega
          · split at hx <;> cases hx
      omega
    · have := small_place b1 b2 h1 h2 h0; omega
  obtain ⟨y, m', i', e1, e2, e3⟩ := mul_c20 hx hi
  obtain ⟨c1, c2, c3⟩ := read_bounds e2
  have hT : (0 : Int) < (TT : Int) := by have := TT_pos; omega
  have hi' : i' ≤ 900 := by
    by_cases h0 : m' = 0
    · have : i' = -1074 := by
        unfold Format.read at e2
        simp only [leastPlace_eq, binade_eq, infRung_eq, signWeight_eq] at e2
        split at e2
        · cases e2; rfl
        · split at e2
          · cases e2; omega
          · split at e2 <;> cases e2
      omega
    · refine Int.not_lt.1 fun hlt => ?_
      have e : 1 * 2 ^ (63 + NN) ≤ m' * 2 ^ (i' + 1200).toNat := Nat.mul_le_mul (by omega) (Nat.pow_le_pow_right (by decide) (by unfold NN; omega))
      have e4 : (2 : Nat) ^ (63 + NN) = 9223372036854775808 * TT := by rw [pow_NN, show (2 : Nat) ^ 63 = 9223372036854775808 from by decide]
      rw [Nat.one_mul, e4] at e
      generalize val s m i = V at *
      unfold val sg at e3
      generalize m' * 2 ^ (i' + 1200).toNat = V' at *
      cases s
      · rw [if_neg (by decide)] at e3; omega
      · rw [if_pos rfl] at e3; omega
  obtain ⟨n, m2, i2, f1, f2, f3, f4⟩ := floor_word e2 hi'
  refine ⟨y, m', i', n, _, e1, e2, f1, rfl, ?_⟩
  have f5 := toInt_val f2
  have f6 : (val s m2 i2).tdiv (TT : Int) = val s m i * 1048576 / (TT : Int) := by
    rw [f3, Int.natCast_mul, ← Int.mul_assoc, Int.mul_tdiv_cancel _ (by omega), f4, e3]
  have hin : inI (val s m i * 1048576 / (TT : Int)) := by
    unfold inI
    have g1 : -9223372036854775808 ≤ val s m i * 1048576 / (TT : Int) := Int.le_ediv_of_mul_le hT (by omega)
    have g2 : val s m i * 1048576 / (TT : Int) < 9223372036854775808 := Int.ediv_lt_of_lt_mul hT (by omega)
    omega
  rw [floatI_number hx, clampI_id hin]
  unfold floatToIntVal
  rw [show FloatKind.f64.decode (double.write (.number s n 0)) = double.read (double.write (.number s n 0)) from rfl, f5, f6]
  unfold inI at hin
  exact if_pos hin
end Fl

namespace Fl
open Ieee
theorem read_some (neg : Bool) (r : Nat) (h : r ≤ 9218868437227405312) : (∃ m i, double.read (double.word neg r) = .number neg m i) ∨ double.read (double.word neg r) = .infinity neg := by
  by_cases h1 : r < 9218868437227405312
  · left
    rw [read_word neg r h1]
    split <;> exact ⟨_, _, rfl⟩
  · right
    obtain rfl : r = 9218868437227405312 := by omega
    cases neg <;> decide
theorem nearest_some (neg : Bool) (mag : Nat) (place : Int) : (∃ m i, double.read (double.nearest neg mag place) = .number neg m i) ∨ double.read (double.nearest neg mag place) = .infinity neg := by
  unfold Format.nearest
  split
  · exact read_some neg 0 (by decide)
  · refine read_some neg _ ?_
    rw [infRung_eq]
    exact Nat.min_le_right _ _
/-- A whole number by 2^20, as a float. -/
def realF (a : Int) : Nat := (double.div (floatOfInt .f64 a) c20).getD 0
theorem realF_some (a : Int) : double.div (floatOfInt .f64 a) c20 = some (realF a) ∧ double.order (realF a) (realF a) = some .eq := by
  have key : ∃ r, double.div (floatOfInt .f64 a) c20 = some r ∧ double.order r r = some .eq := by
    have self : ∀ (neg : Bool) (mag : Nat) (place : Int), double.order (double.nearest neg mag place) (double.nearest neg mag place) = some .eq := by
      intro neg mag place
      rcases nearest_some neg mag place with ⟨m, i, h⟩ | h
      · rw [order_val h h, compare_eq rfl]
      · unfold Format.order; rw [h]; cases neg <;> rfl
    have hin : double.order (double.word (decide (a < 0)) double.infRung) (double.word (decide (a < 0)) double.infRung) = some .eq := by
      cases decide (a < 0) <;> decide
    unfold Format.div
    rw [read_c20]
    rcases nearest_some (decide (a < 0)) a.natAbs 0 with ⟨m, i, h⟩ | h
    · rw [show floatOfInt .f64 a = double.nearest (decide (a < 0)) a.natAbs 0 from rfl, h]
      exact ⟨_, rfl, self _ _ _⟩
    · rw [show floatOfInt .f64 a = double.nearest (decide (a < 0)) a.natAbs 0 from rfl, h]
      refine ⟨_, rfl, ?_⟩
      rw [Bool.xor_false]
      exact hin
  obtain ⟨r, h1, h2⟩ := key
  have : realF a = r := by unfold realF; rw [h1]; rfl
  rw [this]
  exact ⟨h1, h2⟩
/-- Up to 2^53 the quotient by 2^20 is exact. -/
theorem realF_val (a : Int) (ha : a.natAbs ≤ 9007199254740992) : ∃ s m i, double.read (realF a) = .number s m i ∧ val s m i * 1048576 = a * (TT : Int) := by
  have rep : ∃ (k : Nat) (p : Int), k < 9007199254740992 ∧ 0 ≤ p ∧ p ≤ 100 ∧ a.natAbs * TT = k * 2 ^ (p + 1200).toNat := by
    by_cases h : a.natAbs < 9007199254740992
    · exact ⟨a.natAbs, 0, h, by omega, by omega, by rw [pow_TT]⟩
    · refine ⟨1, 53, by decide, by omega, by omega, ?_⟩
      rw [show a.natAbs = 2 ^ 53 from by rw [show (2 : Nat) ^ 53 = 9007199254740992 from by decide]; omega, show ((53 : Int) + 1200).toNat = 53 + NN from rfl, pow_NN, Nat.one_mul]
  obtain ⟨k, p, k1, k2, k3, k4⟩ := rep
  obtain ⟨m, i, h1, h2⟩ := int_word (n := a) k1 (by omega) (by omega) k4
  obtain ⟨b1, b2, b3⟩ := read_bounds h1
  have hm : m * 2 ^ (i + 1200).toNat = a.natAbs * TT := by
    unfold val at h2
    have hs : sg (decide (a < 0)) * (a.natAbs : Int) = a := by
      unfold sg
      by_cases h : a < 0
      · rw [if_pos (by simpa using h)]; omega
      · rw [if_neg (by simpa using h)]; omega
    have : sg (decide (a < 0)) * ((m * 2 ^ (i + 1200).toNat : Nat) : Int) = sg (decide (a < 0)) * ((a.natAbs * TT : Nat) : Int) := by
      rw [h2, Int.natCast_mul, ← Int.mul_assoc, hs]
    have hne : sg (decide (a < 0)) ≠ 0 := by unfold sg; split <;> decide
    have := Int.eq_of_mul_eq_mul_left hne this
    omega
  obtain ⟨more, hmore⟩ : ∃ more, more = 52 + 2 + Nat.log2 4503599627370496 - m.log2 := ⟨_, rfl⟩
  have hl : Nat.log2 4503599627370496 = 52 := by decide
  have hlm : m.log2 ≤ 52 := by
    by_cases h0 : m = 0
    · subst h0; decide
    · have h3 : m.log2 < 53 := (Nat.log2_lt h0).2 (by rw [show (2 : Nat) ^ 53 = 9007199254740992 from by decide]; exact b1)
      omega
  rw [hl] at hmore
  have e1 : double.div (floatOfInt .f64 a) c20 = some (double.write (.number (decide (a < 0)) (2 * ((m <<< more) / 4503599627370496) + ((m <<< more) % 4503599627370496 != 0).toNat) (i - -32 - (more : Int) - 1))) := by
    unfold Format.div
    rw [h1, read_c20]
    simp only [Datum.quotient, Option.map, Bool.xor_false, fraction_eq, hl]
    rw [if_neg (by decide), ← hmore]
  have e2 : m <<< more = m * 2 ^ (more - 52) * 4503599627370496 := by
    rw [Nat.shiftLeft_eq, show (4503599627370496 : Nat) = 2 ^ 52 from by decide, Nat.mul_assoc, ← Nat.pow_add, show more - 52 + 52 = more by omega]
  have e3 : 2 * ((m <<< more) / 4503599627370496) + ((m <<< more) % 4503599627370496 != 0).toNat = m * 2 ^ (more - 51) := by
    rw [e2, Nat.mul_div_cancel _ (by decide), Nat.mul_mod_left]
    rw [show ((0 : Nat) != 0).toNat = 0 from rfl, Nat.add_zero, show more - 51 = (more - 52) + 1 by omega, Nat.pow_succ, ← Nat.mul_assoc m, Nat.mul_comm 2 (m * _)]
  rw [e3] at e1
  have e4 : m * 2 ^ (more - 51) * 2 ^ (i - -32 - (more : Int) - 1 + 1200).toNat = m * 2 ^ (i - 20 + 1200).toNat := by
    rw [Nat.mul_assoc, ← Nat.pow_add, show more - 51 + (i - -32 - (more : Int) - 1 + 1200).toNat = (i - 20 + 1200).toNat by omega]
  have e5 : m * 2 ^ (i - 20 + 1200).toNat = k * 2 ^ (p - 20 + 1200).toNat := by
    refine Nat.eq_of_mul_eq_mul_right (Nat.two_pow_pos 20) ?_
    rw [Nat.mul_assoc, Nat.mul_assoc, ← Nat.pow_add, ← Nat.pow_add, show (i - 20 + 1200).toNat + 20 = (i + 1200).toNat by omega, show (p - 20 + 1200).toNat + 20 = (p + 1200).toNat by omega, hm, k4]
  obtain ⟨m', i', f1, f2⟩ := write_exact (s := decide (a < 0)) (by omega) k1 (by omega) (by omega) (e4.trans e5)
  have hr : realF a = double.write (.number (decide (a < 0)) (m * 2 ^ (more - 51)) (i - -32 - (more : Int) - 1)) := by unfold realF; rw [e1]; rfl
  refine ⟨_, m', i', by rw [hr]; exact f1, ?_⟩
  rw [f2, ← h2]
  unfold val
  rw [Int.mul_assoc, show (1048576 : Int) = ((2 ^ 20 : Nat) : Int) from by decide, ← Int.natCast_mul, Nat.mul_assoc, ← Nat.pow_add, show (p - 20 + 1200).toNat + 20 = (p + 1200).toNat by omega, ← k4, ← hm]
end Fl

namespace Fl
theorem val_const (m : Nat) (i : Int) (a b : Nat) (hm : m = 2 ^ a) (e : a + (i + 1200).toNat = b + NN) : ((m * 2 ^ (i + 1200).toNat : Nat) : Int) = ((2 ^ b * TT : Nat) : Int) := by
  rw [hm, ← Nat.pow_add, e, pow_NN]
end Fl
namespace Fl
open Ieee
theorem zero_place {x : Nat} {s : Bool} {m : Nat} {i : Int} (hx : double.read x = .number s m i) (h0 : m = 0) : i = -1074 := by
  unfold Format.read at hx
  simp only [leastPlace_eq, binade_eq, infRung_eq, signWeight_eq] at hx
  split at hx
  · cases hx; rfl
  · split at hx
    · cases hx; omega
    · split at hx <;> cases hx
theorem place_le {s : Bool} {m : Nat} {i : Int} {k : Nat} {B : Int} (hB : B = ((2 ^ k : Nat) : Int) * (TT : Int)) (h1 : val s m i < B) (h2 : -B < val s m i) (h0 : m ≠ 0) : i < k := by
  refine Int.not_le.1 fun hle => ?_
  have e : 1 * 2 ^ (k + NN) ≤ m * 2 ^ (i + 1200).toNat := Nat.mul_le_mul (by omega) (Nat.pow_le_pow_right (by decide) (by unfold NN; omega))
  rw [Nat.one_mul, pow_NN] at e
  have e' : B ≤ ((m * 2 ^ (i + 1200).toNat : Nat) : Int) := by rw [hB, ← Int.natCast_mul]; exact Int.ofNat_le.2 e
  unfold val sg at h1 h2
  generalize ((m * 2 ^ (i + 1200).toNat : Nat) : Int) = V at *
  cases s
  · rw [if_neg (by decide)] at h1; omega
  · rw [if_pos rfl] at h2; omega
theorem mid_mul {x : Nat} {s : Bool} {m : Nat} {i : Int} (hx : double.read x = .number s m i) (h1 : val s m i < 8796093022208 * (TT : Int)) (h2 : -(8796093022208 * (TT : Int)) < val s m i) :
    ∃ y m' i', double.mul x c20 = some y ∧ double.read y = .number s m' i' ∧ val s m' i' = val s m i * 1048576 ∧ i' ≤ 900 := by
  have hi : i ≤ 900 := by
    by_cases h0 : m = 0
    · have := zero_place hx h0; omega
    · have := place_le (k := 43) (by rw [show (2 : Nat) ^ 43 = 8796093022208 from by decide]; rfl) h1 h2 h0; omega
  obtain ⟨y, m', i', e1, e2, e3⟩ := mul_c20 hx hi
  refine ⟨y, m', i', e1, e2, e3, ?_⟩
  by_cases h0 : m' = 0
  · have := zero_place e2 h0; omega
  · have := place_le (k := 63) (B := 9223372036854775808 * (TT : Int)) (by rw [show (2 : Nat) ^ 63 = 9223372036854775808 from by decide]; rfl) (by rw [e3]; generalize val s m i = V at *; omega) (by rw [e3]; generalize val s m i = V at *; omega) h0; omega
/-- What is cut off towards zero is a whole number that a word holds. -/
theorem trunc_word {y : Nat} {s : Bool} {m : Nat} {i : Int} (hy : double.read y = .number s m i) (hi : i ≤ 900) :
    ∃ m' i', double.read (floatOfInt .f64 ((val s m i).tdiv (TT : Int))) = .number (decide ((val s m i).tdiv (TT : Int) < 0)) m' i' ∧ val (decide ((val s m i).tdiv (TT : Int) < 0)) m' i' = (val s m i).tdiv (TT : Int) * (TT : Int) := by
  obtain ⟨b1, b2, b3⟩ := read_bounds hy
  have hv := (cut_val (s := s) (m := m) b2).2
  rw [(cut_low s (m <<< i.toNat) (-i).toNat).1] at hv
  obtain ⟨n, hn⟩ : ∃ n, n = m <<< i.toNat / 2 ^ (-i).toNat := ⟨_, rfl⟩
  rw [← hn] at hv
  have hab : ((val s m i).tdiv (TT : Int)).natAbs = n := by
    rw [← hv]; unfold sg; cases s
    · rw [if_neg (by decide)]; omega
    · rw [if_pos rfl]; omega
  by_cases h : 0 ≤ i
  · refine int_word (k := m) (p := i) b1 b2 hi ?_
    rw [hab, hn, show (-i).toNat = 0 by omega, Nat.pow_zero, Nat.div_one, Nat.shiftLeft_eq, show (i + 1200).toNat = i.toNat + NN by unfold NN; omega, pow_NN, Nat.mul_assoc]
  · refine int_word (k := n) (p := 0) ?_ (by omega) (by omega) (by rw [hab, pow_TT])
    rw [hn, show i.toNat = 0 by omega, Nat.shiftLeft_zero]
    exact Nat.lt_of_le_of_lt (Nat.div_le_self _ _) b1
theorem floor_of_trunc (v T : Int) (hT : 0 < T) : v / T = (if v < v.tdiv T * T then v.tdiv T - 1 else v.tdiv T) := by
  obtain ⟨d1, d2, d3, d4, d5⟩ := trem v hT
  have h1 := Int.mul_ediv_add_emod v T
  have h2 := Int.emod_nonneg v (by omega : T ≠ 0)
  have h3 := Int.emod_lt_of_pos v hT
  generalize v.tdiv T = q at *
  generalize v.tmod T = r at *
  rw [Int.mul_comm q T]
  split
  · have e : v = T + r + T * (q - 1) := by rw [Int.mul_sub, Int.mul_one]; omega
    rw [e, Int.add_mul_ediv_left _ _ (by omega), Int.ediv_eq_zero_of_lt (by omega) (by omega)]; omega
  · have e : v = r + T * q := by omega
    rw [e, Int.add_mul_ediv_left _ _ (by omega), Int.ediv_eq_zero_of_lt (by omega) (by omega)]; omega
end Fl

end Go.Proofs.YtinlbenifmcgaaaDoor
