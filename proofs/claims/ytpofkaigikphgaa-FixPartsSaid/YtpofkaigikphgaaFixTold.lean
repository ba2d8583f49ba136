/- What the package fix's Real answers, told by the values of its numbers, for every whole number of 64 bits; and that the few answers which every statement of the layer asks for are given. -/
import Derived.Test.YtpofkaigikphgaaFixReal
namespace Go.Proofs.Ytpofkaigikphgaa
open Go.RowKit Go.Lib Fx Fl
set_option linter.unusedVariables false

namespace Fl
open Ieee
theorem read_some (neg : Bool) (r : Nat) (h : r ≤ 9218868437227405312) : (∃ m i, double.read (double.word neg r) = .number neg m i) ∨ double.read (double.word neg r) = .infinity neg := by
  by_cases h1 : r < 9218868437227405312
  · left
    rw [read_word neg r h1]
    split <;> exact ⟨_, _, rfl⟩
  · right
    obtain rfl : r = 9218868437227405312 := by omega
    cases neg <;> decide
theorem nearest_some (neg : Bool) (mag : Nat) (place : Int) : (∃ m i, double.read (double.nearest neg mag place) = .number neg m i) ∨ double.read (double.nearest neg mag place) = .infinity neg := by
  unfold Format.nearest
  split
  · exact read_some neg 0 (by decide)
  · refine read_some neg _ ?_
    rw [infRung_eq]
    exact Nat.min_le_right _ _
/-- A whole number by 2^20, as a float. -/
def realF (a : Int) : Nat := (double.div (floatOfInt .f64 a) c20).getD 0
theorem realF_some (a : Int) : double.div (floatOfInt .f64 a) c20 = some (realF a) ∧ double.order (realF a) (realF a) = some .eq := by
  have key : ∃ r, double.div (floatOfInt .f64 a) c20 = some r ∧ double.order r r = some .eq := by
    have self : ∀ (neg : Bool) (mag : Nat) (place : Int), double.order (double.nearest neg mag place) (double.nearest neg mag place) = some .eq := by
      intro neg mag place
      rcases nearest_some neg mag place with ⟨m, i, h⟩ | h
      · rw [order_val h h, compare_eq rfl]
      · unfold Format.order; rw [h]; cases neg <;> rfl
    have hin : double.order (double.word (decide (a < 0)) double.infRung) (double.word (decide (a < 0)) double.infRung) = some .eq := by
      cases decide (a < 0) <;> decide
    unfold Format.div
    rw [read_c20]
    rcases nearest_some (decide (a < 0)) a.natAbs 0 with ⟨m, i, h⟩ | h
    · rw [show floatOfInt .f64 a = double.nearest (decide (a < 0)) a.natAbs 0 from rfl, h]
      exact ⟨_, rfl, self _ _ _⟩
    · rw [show floatOfInt .f64 a = double.nearest (decide (a < 0)) a.natAbs 0 from rfl, h]
      refine ⟨_, rfl, ?_⟩
      rw [Bool.xor_false]
      exact hin
  obtain ⟨r, h1, h2⟩ := key
  have : realF a = r := by unfold realF; rw [h1]; rfl
  rw [this]
  exact ⟨h1, h2⟩
/-- Up to 2^53 the quotient by 2^20 is exact. -/
theorem realF_val (a : Int) (ha : a.natAbs ≤ 9007199254740992) : ∃ s m i, double.read (realF a) = .number s m i ∧ val s m i * 1048576 = a * (TT : Int) := by
  have rep : ∃ (k : Nat) (p : Int), k < 9007199254740992 ∧ 0 ≤ p ∧ p ≤ 100 ∧ a.natAbs * TT = k * 2 ^ (p + 1200).toNat := by
    by_cases h : a.natAbs < 9007199254740992
    · exact ⟨a.natAbs, 0, h, by omega, by omega, by rw [pow_TT]⟩
    · refine ⟨1, 53, by decide, by omega, by omega, ?_⟩
      rw [show a.natAbs = 2 ^ 53 from by rw [show (2 : Nat) ^ 53 = 9007199254740992 from by decide]; omega, show ((53 : Int) + 1200).toNat = 53 + NN from rfl, pow_NN, Nat.one_mul]
  obtain ⟨k, p, k1, k2, k3, k4⟩ := rep
  obtain ⟨m, i, h1, h2⟩ := int_word (n := a) k1 (by omega) (by omega) k4
  obtain ⟨b1, b2, b3⟩ := read_bounds h1
  have hm : m * 2 ^ (i + 1200).toNat = a.natAbs * TT := by
    unfold val at h2
    have hs : sg (decide (a < 0)) * (a.natAbs : Int) = a := by
      unfold sg
      by_cases h : a < 0
      · rw [if_pos (by simpa using h)]; omega
      · rw [if_neg (by simpa using h)]; omega
    have : sg (decide (a < 0)) * ((m * 2 ^ (i + 1200).toNat : Nat) : Int) = sg (decide (a < 0)) * ((a.natAbs * TT : Nat) : Int) := by
      rw [h2, Int.natCast_mul, ← Int.mul_assoc, hs]
    have hne : sg (decide (a < 0)) ≠ 0 := by unfold sg; split <;> decide
    have := Int.eq_of_mul_eq_mul_left hne this
    omega
  obtain ⟨more, hmore⟩ : ∃ more, more = 52 + 2 + Nat.log2 4503599627370496 - m.log2 := ⟨_, rfl⟩
  have hl : Nat.log2 4503599627370496 = 52 := by decide
  have hlm : m.log2 ≤ 52 := by
    by_cases h0 : m = 0
    · subst h0; decide
    · have h3 : m.log2 < 53 := (Nat.log2_lt h0).2 (by rw [show (2 : Nat) ^ 53 = 9007199254740992 from by decide]; exact b1)
      omega
  rw [hl] at hmore
  have e1 : double.div (floatOfInt .f64 a) c20 = some (double.write (.number (decide (a < 0)) (2 * ((m <<< more) / 4503599627370496) + ((m <<< more) % 4503599627370496 != 0).toNat) (i - -32 - (more : Int) - 1))) := by
    unfold Format.div
    rw [h1, read_c20]
    simp only [Datum.quotient, Option.map, Bool.xor_false, fraction_eq, hl]
    rw [if_neg (by decide), ← hmore]
  have e2 : m <<< more = m * 2 ^ (more - 52) * 4503599627370496 := by
    rw [Nat.shiftLeft_eq, show (4503599627370496 : Nat) = 2 ^ 52 from by decide, Nat.mul_assoc, ← Nat.pow_add, show more - 52 + 52 = more by omega]
  have e3 : 2 * ((m <<< more) / 4503599627370496) + ((m <<< more) % 4503599627370496 != 0).toNat = m * 2 ^ (more - 51) := by
    rw [e2, Nat.mul_div_cancel _ (by decide), Nat.mul_mod_left]
    rw [show ((0 : Nat) != 0).toNat = 0 from rfl, Nat.add_zero, show more - 51 = (more - 52) + 1 by omega, Nat.pow_succ, ← Nat.mul_assoc m, Nat.mul_comm 2 (m * _)]
  rw [e3] at e1
  have e4 : m * 2 ^ (more - 51) * 2 ^ (i - -32 - (more : Int) - 1 + 1200).toNat = m * 2 ^ (i - 20 + 1200).toNat := by
    rw [Nat.mul_assoc, ← Nat.pow_add, show more - 51 + (i - -32 - (more : Int) - 1 + 1200).toNat = (i - 20 + 1200).toNat by omega]
  have e5 : m * 2 ^ (i - 20 + 1200).toNat = k * 2 ^ (p - 20 + 1200).toNat := by
    refine Nat.eq_of_mul_eq_mul_right (Nat.two_pow_pos 20) ?_
    rw [Nat.mul_assoc, Nat.mul_assoc, ← Nat.pow_add, ← Nat.pow_add, show (i - 20 + 1200).toNat + 20 = (i + 1200).toNat by omega, show (p - 20 + 1200).toNat + 20 = (p + 1200).toNat by omega, hm, k4]
  obtain ⟨m', i', f1, f2⟩ := write_exact (s := decide (a < 0)) (by omega) k1 (by omega) (by omega) (e4.trans e5)
  have hr : realF a = double.write (.number (decide (a < 0)) (m * 2 ^ (more - 51)) (i - -32 - (more : Int) - 1)) := by unfold realF; rw [e1]; rfl
  refine ⟨_, m', i', by rw [hr]; exact f1, ?_⟩
  rw [f2, ← h2]
  unfold val
  rw [Int.mul_assoc, show (1048576 : Int) = ((2 ^ 20 : Nat) : Int) from by decide, ← Int.natCast_mul, Nat.mul_assoc, ← Nat.pow_add, show (p - 20 + 1200).toNat + 20 = (p + 1200).toNat by omega, ← k4, ← hm]
end Fl

set_option maxRecDepth 100000 in
theorem real_any (a : Int) (w : World) :
    Calls Try.prog 19 #[.int .i64 a] w (Ans (.float .f64 (realF a)) w) := by
  have hq : ∀ w, (binOp .quo 27 (.float .f64 (floatOfInt .f64 a)) (.float .f64 4697254411347427328)).run Try.prog w = .ok (.float .f64 (realF a)) w := fun w => run_float_arith w .quo 27 .f64 _ c20 _ (realF_some a).1
  generalize realF a = r at *
  go_enter Try.func19, Try.ntmps19
  go_wp2_with fail
  go_ret
  exact ⟨rfl, 0, rfl⟩

namespace Fl
theorem val_const (m : Nat) (i : Int) (a b : Nat) (hm : m = 2 ^ a) (e : a + (i + 1200).toNat = b + NN) : ((m * 2 ^ (i + 1200).toNat : Nat) : Int) = ((2 ^ b * TT : Nat) : Int) := by
  rw [hm, ← Nat.pow_add, e, pow_NN]
theorem float_half : floatI 13826050856027422720 = -524288 := by
  have hr : Ieee.double.read 13826050856027422720 = .number true 4503599627370496 (-53) := by decide
  have hT : (0 : Int) < (TT : Int) := by have := TT_pos; omega
  rw [floatI_number hr]
  have hv : val true 4503599627370496 (-53) * 1048576 = -524288 * (TT : Int) := by
    unfold val
    have : ((4503599627370496 * 2 ^ ((-53 : Int) + 1200).toNat : Nat) : Int) * 1048576 = 524288 * (TT : Int) := by
      rw [show (1048576 : Int) = ((2 ^ 20 : Nat) : Int) from by decide, ← Int.natCast_mul, Nat.mul_assoc, ← Nat.pow_add, show (4503599627370496 : Nat) = 2 ^ 52 from by decide, ← Nat.pow_add, show 52 + (((-53 : Int) + 1200).toNat + 20) = 19 + NN from rfl, pow_NN, Int.natCast_mul]
      rfl
    rw [Int.mul_assoc, this, ← Int.mul_assoc]
    rfl
  rw [hv, Int.mul_ediv_cancel _ (by omega), clampI_id (by unfold inI; omega)]
theorem real_one : Ieee.double.order (realF 1048576) 4607182418800017408 = some .eq := by
  obtain ⟨s, m, i, h1, h2⟩ := realF_val 1048576 (by decide)
  have hr : Ieee.double.read 4607182418800017408 = .number false 4503599627370496 (-52) := by decide
  rw [order_val h1 hr, compare_eq]
  have hv : val false 4503599627370496 (-52) = (TT : Int) := by
    unfold val
    rw [val_const 4503599627370496 (-52) 52 0 (by decide) rfl, Nat.pow_zero, Nat.one_mul]
    unfold sg
    rw [if_neg (by decide), Int.one_mul]
  rw [hv]
  have : (val s m i) * 1048576 = (TT : Int) * 1048576 := by rw [h2, Int.mul_comm]
  exact Int.eq_of_mul_eq_mul_right (by decide) this
end Fl

set_option maxRecDepth 100000 in
set_option maxHeartbeats 1000000 in
theorem told_any (w : World) : Calls Try.prog 13 #[] w (Ans (.bool true) w) := by
  have c1 : ∀ w, Calls Try.prog 17 #[.int .i64 1572864, .int .i64 524288] w (Ans (.int .i64 786432) w) := fun w => mul_any 1572864 524288 (by unfold inI; omega) (by unfold inI; omega) w
  have c2 : ∀ w, Calls Try.prog 20 #[.float .f64 13826050856027422720] w (Ans (.int .i64 (-524288)) w) := fun w => by have := float_any 13826050856027422720 w; rw [float_half] at this; exact this
  have c3 : ∀ w, Calls Try.prog 15 #[.int .i64 9223372036854775807, .int .i64 1] w (Ans (.int .i64 9223372036854775807) w) := fun w => add_any 9223372036854775807 1 (by unfold inI; omega) (by unfold inI; omega) w
  have c4 : ∀ w, Calls Try.prog 12 #[.int .i64 (-1), .int .i64 0] w (Ans (.int .i64 (-9223372036854775808)) w) := fun w => div_any (-1) 0 (by unfold inI; omega) (by unfold inI; omega) w
  have c5 : ∀ w, Calls Try.prog 14 #[.int .i64 2] w (Ans (.int .i64 2097152) w) := fun w => whole_any 2 (by unfold inI; omega) w
  have c6 : ∀ w, Calls Try.prog 18 #[.int .i64 (-1)] w (Ans (.int .i64 (-1)) w) := fun w => ans_of_same (int_any (-1) w)
  have c7 := fun w => real_any 1048576 w
  have o7 : FloatKind.f64.format.order (realF 1048576) 4607182418800017408 = some .eq := real_one
  generalize realF 1048576 = r at *
  go_enter Try.func13, Try.ntmps13
  go_wp2_with (first | (go_at_call 17; ((with_reducible refine (c1 _).mono ?_); rintro e w' ⟨rfl, n, rfl⟩)) | (go_at_call 20; ((with_reducible refine (c2 _).mono ?_); rintro e w' ⟨rfl, n, rfl⟩)) | (go_at_call 15; ((with_reducible refine (c3 _).mono ?_); rintro e w' ⟨rfl, n, rfl⟩)) | (go_at_call 12; ((with_reducible refine (c4 _).mono ?_); rintro e w' ⟨rfl, n, rfl⟩)) | (go_at_call 14; ((with_reducible refine (c5 _).mono ?_); rintro e w' ⟨rfl, n, rfl⟩)) | (go_at_call 18; ((with_reducible refine (c6 _).mono ?_); rintro e w' ⟨rfl, n, rfl⟩)) | (go_at_call 19; ((with_reducible refine (c7 _).mono ?_); rintro e w' ⟨rfl, n, rfl⟩)))
  go_ret
  exact ⟨rfl, _, rfl⟩

theorem grown_draws (w : World) (n : Nat) : Grown w (w.drewN n) := Grown.refl w
namespace Fx
/-- Quotient and rest as Go reckons them, of a divisor above 0. -/
theorem trem (a : Int) {b : Int} (hb : 0 < b) : b * a.tdiv b + a.tmod b = a ∧ -b < a.tmod b ∧ a.tmod b < b ∧ (0 ≤ a → 0 ≤ a.tmod b) ∧ (a ≤ 0 → a.tmod b ≤ 0) := by
  have h1 := Int.mul_tdiv_add_tmod a b
  by_cases h : 0 ≤ a
  · have h2 := Int.tmod_eq_emod_of_nonneg (b := b) h
    have h3 := Int.emod_nonneg a (by omega : b ≠ 0)
    have h4 := Int.emod_lt_of_pos a hb
    have h5 : a ≤ 0 → a.tmod b ≤ 0 := fun ha => by obtain rfl : a = 0 := by omega
                                                   simp
    refine ⟨h1, by omega, by omega, fun _ => by omega, h5⟩
  · obtain ⟨c, rfl⟩ : ∃ c, a = -c := ⟨-a, by omega⟩
    have h2 := Int.tmod_eq_emod_of_nonneg (a := c) (b := b) (by omega)
    have h3 := Int.emod_nonneg c (by omega : b ≠ 0)
    have h4 := Int.emod_lt_of_pos c hb
    have h5 : (-c).tmod b = -(c.tmod b) := Int.neg_tmod c b
    refine ⟨h1, by omega, by omega, fun _ => by omega, fun _ => by omega⟩
end Fx

namespace Fx
/-- The lowest digits of a number, as Go masks them. -/
theorem mask_i64 (a : Int) (j : Nat) (hj : j ≤ 62) : bits .and .i64 a ((2 ^ j - 1 : Nat) : Int) = a % ((2 ^ j : Nat) : Int) := by
  have hp : 0 < 2 ^ j := Nat.two_pow_pos j
  have hle : 2 ^ j ≤ 2 ^ 62 := Nat.pow_le_pow_right (by decide) hj
  have e62 : (2 : Nat) ^ 62 = 4611686018427387904 := by decide
  have h1 : (BitVec.ofInt 64 a).toNat = (a % 18446744073709551616).toNat := by rw [BitVec.toNat_ofInt]; rfl
  have h2 : (BitVec.ofInt 64 ((2 ^ j - 1 : Nat) : Int)).toNat = 2 ^ j - 1 := by
    rw [BitVec.ofInt_natCast, BitVec.toNat_ofNat]; exact Nat.mod_eq_of_lt (by omega)
  show IntKind.i64.wrap ((BitVec.ofInt 64 a &&& BitVec.ofInt 64 ((2 ^ j - 1 : Nat) : Int)).toNat : Int) = _
  rw [BitVec.toNat_and, h1, h2, Nat.and_two_pow_sub_one_eq_mod]
  have h3 : ((a % 18446744073709551616).toNat % 2 ^ j : Nat) < 2 ^ j := Nat.mod_lt _ hp
  have h4 : (((a % 18446744073709551616).toNat % 2 ^ j : Nat) : Int) = a % ((2 ^ j : Nat) : Int) := by
    rw [Int.natCast_emod, Int.toNat_of_nonneg (Int.emod_nonneg _ (by decide))]
    exact Int.emod_emod_of_dvd a ⟨((2 ^ (64 - j) : Nat) : Int), by rw [← Int.natCast_mul, ← Nat.pow_add, show j + (64 - j) = 64 by omega]; rfl⟩
  rw [← h4, IntKind.wrap_i64]
  omega
end Fx
end Go.Proofs.Ytpofkaigikphgaa
