/- What rate.Text and the document's Text meet on their way: facts on one float. -/
import Derived.Test.YtinlbenifmcgaaaDoorText
namespace Go.Proofs.YtinlbenifmcgaaaDoor
open Go.RowKit Go.Lib Fx Ho Gr
set_option linter.unusedVariables false
namespace Pr
open Fk Fl Ieee Tm
variable {w w' : World} {x y r : Nat} {v : Value} {zs : List Nat}
def c100 : Nat := 4636737291354636288
theorem read_c100 : double.read c100 = .number false 7036874417766400 (-46) := by decide
def c50 : Nat := 4832362400168542208
theorem read_c50 : double.read c50 = .number false 4503599627370496 (-2) := by decide
def chalf : Nat := 4602678819172646912
theorem read_chalf : double.read chalf = .number false 4503599627370496 (-53) := by decide
theorem val_c50 : val false 4503599627370496 (-2) = 1125899906842624 * (TT : Int) := by
  rw [val_false, val_const 4503599627370496 (-2) 52 50 (by decide) rfl, Int.natCast_mul]
  rfl
theorem val_chalf : 2 * val false 4503599627370496 (-53) = (TT : Int) := by
  rw [← val_one, val_false, val_false, show ((-52 : Int) + 1200).toNat = ((-53 : Int) + 1200).toNat + 1 from rfl, Nat.pow_succ]
  generalize 2 ^ ((-53 : Int) + 1200).toNat = X
  omega
theorem prod_comm (a b : Datum) : a.product b = b.product a := by
  cases a <;> cases b <;> simp [Datum.product, Nat.mul_comm, Int.add_comm, Bool.xor_comm]
theorem mul_comm' (a b : Nat) : double.mul a b = double.mul b a := by unfold Format.mul; rw [prod_comm]
theorem inf_lt (b : Bool) : double.word b 9218868437227405312 = (if b then 18442240474082181120 else 9218868437227405312) := by cases b <;> rfl
/-- The hundredfold of a number without its sign. -/
theorem word_low {z : Nat} (hz : z < 18446744073709551616) (h : (∃ m i, double.read z = .number false m i) ∨ double.read z = .infinity false) : z < 9223372036854775808 := by
  have h1 := neg_read hz
  have h2 : neg z = false := by
    rw [← h1]
    rcases h with ⟨m, i, h⟩ | h <;> (rw [h]; rfl)
  unfold neg at h2
  have : ¬ z / 9223372036854775808 % 2 = 1 := by simpa using h2
  omega
theorem hund_any {a : Nat} (ha : (∃ m i, double.read a = .number false m i) ∨ double.read a = .infinity false) : ∃ h, double.mul c100 a = some h ∧ double.mul a c100 = some h ∧ h < 9223372036854775808 ∧ ((∃ M I, double.read h = .number false M I) ∨ double.read h = .infinity false) := by
  obtain ⟨h, h1, h2⟩ : ∃ h, double.mul c100 a = some h ∧ ((∃ M I, double.read h = .number false M I) ∨ double.read h = .infinity false) := by
    unfold Format.mul
    rw [read_c100]
    rcases ha with ⟨m, i, ha⟩ | ha
    · rw [ha]
      exact ⟨_, rfl, nearest_some false _ _⟩
    · rw [ha]
      exact ⟨_, rfl, Or.inr (by decide)⟩
  have h3 : h < 18446744073709551616 := by
    have := floatBits_wf (op := .mul) (k := .f64) (x := c100) (y := a) h1
    simpa [Lit.wf] using this
  exact ⟨h, h1, by rw [mul_comm']; exact h1, word_low h3 h2, h2⟩
theorem exp_lt {h M : Nat} {I : Int} (hh : double.read h = .number false M I) (hl : h < 9223372036854775808) (hV : val false M I < 1125899906842624 * (TT : Int)) : h / 4503599627370496 < 1073 := by
  rcases Nat.lt_or_ge (h / 4503599627370496) 1073 with h3 | h3
  · exact h3
  · exfalso
    have hr : h < 9218868437227405312 := by
      rcases Nat.lt_or_ge h 9218868437227405312 with h1 | h1
      · exact h1
      · exfalso
        unfold Format.read at hh
        simp only [leastPlace_eq, binade_eq, infRung_eq, signWeight_eq] at hh
        rw [if_neg (by omega), if_neg (by omega)] at hh
        by_cases e : h % 9223372036854775808 = 9218868437227405312
        · rw [if_pos e] at hh; exact Datum.noConfusion hh
        · rw [if_neg e] at hh; exact Datum.noConfusion hh
    have hrd := read_pos hr
    rw [hh, if_neg (by omega), Datum.number.injEq] at hrd
    obtain ⟨_, hM, hI⟩ := hrd
    rw [val_false] at hV
    have h4 : 4503599627370496 * 2 ^ N98 ≤ M * 2 ^ (I + 1200).toNat := Nat.mul_le_mul (by omega) (Nat.pow_le_pow_right (by decide) (by unfold N98; omega))
    have h5 : 4503599627370496 * 2 ^ N98 = 1125899906842624 * TT := by
      unfold TT
      rw [show NN = 2 + N98 from rfl, Nat.pow_add, ← Nat.mul_assoc]
    generalize 2 ^ N98 = X at *
    generalize M * 2 ^ (I + 1200).toNat = Y at *
    omega
/-- How the hundredfold stands to 2^50. -/
theorem hund_ord {h : Nat} (hl : h < 9223372036854775808) (hh : (∃ M I, double.read h = .number false M I) ∨ double.read h = .infinity false) : ∃ o, FloatKind.f64.format.order h c50 = some o ∧ (o = .lt → ∃ M I, double.read h = .number false M I ∧ val false M I < 1125899906842624 * (TT : Int)) := by
  rcases hh with ⟨M, I, hh⟩ | hh
  · refine ⟨_, order_val hh read_c50, fun e => ⟨M, I, hh, ?_⟩⟩
    rw [val_c50] at e
    rcases Int.lt_trichotomy (val false M I) (1125899906842624 * (TT : Int)) with h' | h' | h'
    · exact h'
    · rw [compare_eq h'] at e; cases e
    · rw [compare_gt h'] at e; cases e
  · refine ⟨.gt, ?_, fun e => by cases e⟩
    show double.order h c50 = _
    unfold Format.order
    rw [hh, read_c50]; rfl
/-- The number that Text tells. -/
def numT (h : Nat) : Int := match double.read h with
  | .number s m i => nOf (val s m i)
  | _ => 0
theorem to_int {z K : Nat} {L n : Int} (hz : double.read z = .number false K L) (hv : val false K L = n * (TT : Int)) (h0 : 0 ≤ n) (h1 : n ≤ 1125899906842624) : floatToIntVal .f64 z .i64 = some n := by
  unfold floatToIntVal
  rw [show (FloatKind.f64.decode z).toInt .zero = _ from toInt_val hz, hv]
  have hT := TT_pos
  rw [Int.mul_tdiv_cancel n (by omega)]
  simp only
  rw [if_pos]
  constructor
  · show (-9223372036854775808 : Int) ≤ n; omega
  · show n ≤ (9223372036854775807 : Int); omega
/-- What the program makes of the hundredfold, rounded. -/
theorem prog_num {h M : Nat} {I : Int} (hl : h < 9223372036854775808) (hh : double.read h = .number false M I) (hV : val false M I < 1125899906842624 * (TT : Int)) : floatToIntVal .f64 (rnd h) .i64 = some (numT h) ∧ 0 ≤ numT h ∧ numT h ≤ 1125899906842624 := by
  obtain ⟨K, L, h1, h2, h3, h4⟩ := rnd_ok hh hl hV
  have e : numT h = nOf (val false M I) := by unfold numT; rw [hh]
  rw [e]
  exact ⟨to_int h1 h2 h3 h4, h3, h4⟩
/-- What the document makes of it: cut off, then one more where a half or more is left. -/
theorem ref_num {h M : Nat} {I : Int} (hl : h < 9223372036854775808) (hh : double.read h = .number false M I) (hV : val false M I < 1125899906842624 * (TT : Int)) : ∃ (n : Int) (z : Nat) (o : Ordering), floatToIntVal .f64 h .i64 = some n ∧ 0 ≤ n ∧ n < 1125899906842624 ∧ double.sub h (floatOfInt .f64 n) = some z ∧ FloatKind.f64.format.order z chalf = some o ∧ numT h = (if o = .lt then n else n + 1) := by
  have hT := TT_pos
  obtain ⟨b1, b2, b3⟩ := read_bounds hh
  obtain ⟨V, hVq⟩ : ∃ V, val false M I = V := ⟨_, rfl⟩
  have hV0 : 0 ≤ V := by rw [← hVq, val_false]; omega
  rw [hVq] at hV
  have hI : I ≤ 900 := by
    by_cases h0 : M = 0
    · have := zero_place hh h0; omega
    · have := place_le (k := 63) (s := false) (m := M) (i := I) (B := 9223372036854775808 * (TT : Int)) (by rw [show (2 : Nat) ^ 63 = 9223372036854775808 from by decide]; rfl) (by rw [hVq]; generalize (TT : Int) = T at *; omega) (by rw [hVq]; generalize (TT : Int) = T at *; omega) h0
      omega
  obtain ⟨n, hn⟩ : ∃ n, V.tdiv (TT : Int) = n := ⟨_, rfl⟩
  have hn2 : n = V / (TT : Int) := by rw [← hn, Int.tdiv_eq_ediv_of_nonneg hV0]
  have d1 := Int.mul_ediv_add_emod V (TT : Int)
  have d2 := Int.emod_nonneg V (by omega : (TT : Int) ≠ 0)
  have d3 := Int.emod_lt_of_pos V (by omega : (0 : Int) < TT)
  rw [← hn2] at d1
  have hn0 : 0 ≤ n := by rw [hn2]; exact Int.ediv_nonneg hV0 (by omega)
  have hn1 : n < 1125899906842624 := by rw [hn2]; exact Int.ediv_lt_of_lt_mul (by omega) hV
  have hfi : floatToIntVal .f64 h .i64 = some n := by
    unfold floatToIntVal
    rw [show (FloatKind.f64.decode h).toInt .zero = _ from toInt_val hh, hVq, hn]
    simp only
    rw [if_pos]
    constructor
    · show (-9223372036854775808 : Int) ≤ n; omega
    · show n ≤ (9223372036854775807 : Int); omega
  obtain ⟨m', i', f1, f2⟩ := trunc_word hh hI
  rw [hVq, hn, show decide (n < 0) = false from decide_eq_false (by omega)] at f1 f2
  obtain ⟨c1, c2, c3⟩ := read_bounds f1
  -- the difference, exactly
  obtain ⟨D, hD⟩ : ∃ D : Int, V - n * (TT : Int) = D := ⟨_, rfl⟩
  have hD0 : 0 ≤ D := by rw [← hD, Int.mul_comm n]; omega
  have hDT : D < (TT : Int) := by rw [← hD, Int.mul_comm n]; omega
  obtain ⟨k, p, hk, hp1, hp2, hkp⟩ : ∃ (k : Nat) (p : Int), k < 9007199254740992 ∧ -1074 ≤ p ∧ p ≤ 971 ∧ D = ((k * 2 ^ (p + 1200).toNat : Nat) : Int) := by
    by_cases hi : 0 ≤ I
    · refine ⟨0, 0, by decide, by decide, by decide, ?_⟩
      have : V = ((M * 2 ^ I.toNat : Nat) : Int) * (TT : Int) := by
        rw [← hVq, val_false, show (I + 1200).toNat = I.toNat + NN by unfold NN; omega, pow_NN, ← Nat.mul_assoc, Int.natCast_mul]
      have h5 : n = ((M * 2 ^ I.toNat : Nat) : Int) := by rw [hn2, this, Int.mul_ediv_cancel _ (by omega)]
      rw [← hD, this, h5, Int.sub_self, Nat.zero_mul]; rfl
    · obtain ⟨j, hj⟩ : ∃ j : Nat, I = -(j : Int) := ⟨(-I).toNat, by omega⟩
      obtain ⟨nn, hnn⟩ : ∃ nn : Nat, n = (nn : Int) := ⟨n.toNat, by omega⟩
      have hj2 : j ≤ 1074 := by omega
      have eT : TT = 2 ^ (1200 - j) * 2 ^ j := pow_cut (by omega)
      have eV : V = ((M * 2 ^ (1200 - j) : Nat) : Int) := by rw [← hVq, val_false, show (I + 1200).toNat = 1200 - j by omega]
      have hle : nn * 2 ^ j ≤ M := by
        have h6 : n * (TT : Int) ≤ V := by omega
        rw [eV, hnn, ← Int.natCast_mul, Int.ofNat_le, eT, Nat.mul_comm (2 ^ (1200 - j)) (2 ^ j), ← Nat.mul_assoc] at h6
        exact Nat.le_of_mul_le_mul_right h6 (Nat.two_pow_pos _)
      refine ⟨M - nn * 2 ^ j, I, by omega, b2, b3, ?_⟩
      rw [← hD, eV, hnn, show (I + 1200).toNat = 1200 - j by omega, Nat.sub_mul, eT, Nat.mul_comm (2 ^ (1200 - j)) (2 ^ j)]
      have h7 : nn * 2 ^ j * 2 ^ (1200 - j) ≤ M * 2 ^ (1200 - j) := Nat.mul_le_mul_right _ hle
      rw [Int.ofNat_sub h7, Nat.mul_assoc nn, Int.natCast_mul nn]
  obtain ⟨z, hz, m2, i2, hz2, hz3⟩ : ∃ z, double.sub h (floatOfInt .f64 n) = some z ∧ ∃ m2 i2, double.read z = .number false m2 i2 ∧ val false m2 i2 = D := by
    obtain ⟨base, hbase⟩ : ∃ b, min I i' = b := ⟨_, rfl⟩
    obtain ⟨total, htot⟩ : ∃ t, signed false M (I - base).toNat + signed true m' (i' - base).toNat = t := ⟨_, rfl⟩
    have htv : total * ((2 ^ (base + 1200).toNat : Nat) : Int) = D := by
      rw [← htot, signed_eq, signed_eq]
      rw [← hD, ← f2, ← hVq]
      unfold val sg
      rw [if_neg (by decide), if_pos rfl, Int.one_mul, Int.add_mul, ← Int.natCast_mul, Nat.mul_assoc, ← Nat.pow_add, show (I - base).toNat + (base + 1200).toNat = (I + 1200).toNat by omega, Int.neg_mul, Int.one_mul, Int.neg_mul, ← Int.natCast_mul, Nat.mul_assoc, ← Nat.pow_add, show (i' - base).toNat + (base + 1200).toNat = (i' + 1200).toNat by omega]
      simp only [Int.one_mul]
      omega
    have ht0 : 0 ≤ total := by
      by_cases h8 : total < 0
      · exfalso
        have : total * ((2 ^ (base + 1200).toNat : Nat) : Int) < 0 := Int.mul_neg_of_neg_of_pos h8 (by have := Nat.two_pow_pos (base + 1200).toNat; omega)
        omega
      · omega
    have e1 : double.sub h (floatOfInt .f64 n) = some (double.write (.number false total.natAbs base)) := by
      unfold Format.sub
      rw [hh, f1]
      show Option.map double.write (some (.number (if signed false M (I - min I i').toNat + signed (!false) m' (i' - min I i').toNat = 0 then false && !false else decide (signed false M (I - min I i').toNat + signed (!false) m' (i' - min I i').toNat < 0)) _ _)) = _
      rw [hbase, show (!false) = true from rfl, htot]
      by_cases h9 : total = 0
      · rw [if_pos h9]; rfl
      · rw [if_neg h9, show decide (total < 0) = false from decide_eq_false (by omega)]; rfl
    refine ⟨_, e1, ?_⟩
    obtain ⟨m2, i2, g1, g2⟩ := write_exact (s := false) (mag := total.natAbs) (place := base) (by omega) hk hp1 hp2 (p := p) (by
      have : ((total.natAbs * 2 ^ (base + 1200).toNat : Nat) : Int) = ((k * 2 ^ (p + 1200).toNat : Nat) : Int) := by
        rw [← hkp, ← htv, Int.natCast_mul, show ((total.natAbs : Nat) : Int) = total by omega]
      exact Int.ofNat.inj this)
    exact ⟨m2, i2, g1, by rw [g2, hkp]; unfold sg; simp⟩
  refine ⟨n, z, compare (val false m2 i2) (val false 4503599627370496 (-53)), hfi, hn0, hn1, hz, order_val hz2 read_chalf, ?_⟩
  have eN : numT h = nOf V := by unfold numT; rw [hh]; show nOf (val false M I) = _; rw [hVq]
  have hh2 := val_chalf
  rw [hz3, eN]
  unfold nOf
  have hDq : V = n * (TT : Int) + D := by omega
  generalize val false 4503599627370496 (-53) = c at *
  by_cases hlt : D < c
  · rw [compare_lt hlt, if_pos rfl]
    rw [hDq, show 2 * (n * (TT : Int) + D) + (TT : Int) = (2 * D + TT) + (2 * (TT : Int)) * n by rw [Int.mul_add, Int.mul_comm n, Int.mul_assoc]; omega, Int.add_mul_ediv_left _ _ (by omega), Int.ediv_eq_zero_of_lt (by omega) (by omega), Int.zero_add]
  · have hne : compare D c ≠ .lt := by
      rcases compare_ge (show c ≤ D by omega) with e | e <;> rw [e] <;> decide
    rw [if_neg hne]
    rw [hDq, show 2 * (n * (TT : Int) + D) + (TT : Int) = (2 * D - TT) + (2 * (TT : Int)) * (n + 1) by rw [Int.mul_add, Int.mul_comm n, Int.mul_assoc, Int.mul_add]; omega, Int.add_mul_ediv_left _ _ (by omega), Int.ediv_eq_zero_of_lt (by omega) (by omega), Int.zero_add]
end Pr
end Go.Proofs.YtinlbenifmcgaaaDoor
