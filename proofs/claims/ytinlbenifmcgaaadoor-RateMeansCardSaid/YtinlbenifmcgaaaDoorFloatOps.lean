/- Plain facts on binary floating point numbers of 64 bits: order, a product and a quotient by 2^20, rounding down, whole numbers, told by their values; no condition but those that each statement names. -/
import Derived.Test.YtinlbenifmcgaaaDoorFloatMath
import Derived.Test.YtinlbenifmcgaaaDoorFixMath
namespace Go.Proofs.YtinlbenifmcgaaaDoor.Fl
open Ieee Fx
set_option linter.unusedVariables false

/-- One, in parts of 2 to the power of minus 1200. -/
def NN : Nat := 1200
def TT : Nat := 2 ^ NN
theorem pow_TT : 2 ^ ((0 : Int) + 1200).toNat = TT := by unfold TT; congr 1
theorem TT_pos : 0 < TT := Nat.two_pow_pos _
def sg (s : Bool) : Int := if s then -1 else 1
/-- A number's value, in parts of 2 to the power of minus 1200. -/
def val (s : Bool) (m : Nat) (i : Int) : Int := sg s * ((m * 2 ^ (i + 1200).toNat : Nat) : Int)
theorem signed_eq (s : Bool) (m u : Nat) : signed s m u = sg s * ((m * 2 ^ u : Nat) : Int) := by
  unfold signed sg
  rw [Nat.shiftLeft_eq]
  cases s
  · rw [if_neg (by decide), if_neg (by decide), Int.one_mul]
  · rw [if_pos rfl, if_pos rfl]; omega

theorem read_bounds {x : Nat} {s : Bool} {m : Nat} {i : Int} (h : double.read x = .number s m i) : m < 9007199254740992 ∧ -1074 ≤ i ∧ i ≤ 971 := by
  unfold Format.read at h
  simp only [leastPlace_eq, binade_eq, infRung_eq, signWeight_eq] at h
  split at h
  · cases h; refine ⟨?_, ?_, ?_⟩ <;> omega
  · split at h
    · cases h; refine ⟨?_, ?_, ?_⟩ <;> omega
    · split at h <;> cases h

theorem compare_scale (a b : Int) (k : Nat) (hk : 0 < k) : compare (a * (k : Int)) (b * (k : Int)) = compare a b := by
  have hk' : (0 : Int) < k := by omega
  have h1 : a * (k : Int) < b * (k : Int) ↔ a < b := ⟨fun h => Int.lt_of_mul_lt_mul_right h (Int.le_of_lt hk'), fun h => Int.mul_lt_mul_of_pos_right h hk'⟩
  have h2 : a * (k : Int) = b * (k : Int) ↔ a = b := ⟨fun h => Int.eq_of_mul_eq_mul_right (by omega) h, fun h => by rw [h]⟩
  show compareOfLessAndEq _ _ = compareOfLessAndEq _ _
  unfold compareOfLessAndEq
  simp only [h1, h2]

theorem order_val {x y : Nat} {s t : Bool} {m n : Nat} {i j : Int} (hx : double.read x = .number s m i) (hy : double.read y = .number t n j) : double.order x y = some (compare (val s m i) (val t n j)) := by
  obtain ⟨_, bi, _⟩ := read_bounds hx
  obtain ⟨_, bj, _⟩ := read_bounds hy
  unfold Format.order
  rw [hx, hy]
  simp only [Datum.order]
  congr 1
  have h1 : min i j ≤ i := Int.min_le_left _ _
  have h2 : min i j ≤ j := Int.min_le_right _ _
  have h3 : -1074 ≤ min i j := by omega
  generalize min i j = b at *
  rw [signed_eq, signed_eq, ← compare_scale _ _ (2 ^ (b + 1200).toNat) (Nat.two_pow_pos _)]
  unfold val
  rw [Int.mul_assoc, Int.mul_assoc, ← Int.natCast_mul, ← Int.natCast_mul, Nat.mul_assoc, Nat.mul_assoc, ← Nat.pow_add, ← Nat.pow_add]
  rw [show (i - b).toNat + (b + 1200).toNat = (i + 1200).toNat by omega, show (j - b).toNat + (b + 1200).toNat = (j + 1200).toNat by omega]

theorem compare_lt {a b : Int} (h : a < b) : compare a b = .lt := by show compareOfLessAndEq _ _ = _; unfold compareOfLessAndEq; rw [if_pos h]
theorem compare_eq {a b : Int} (h : a = b) : compare a b = .eq := by show compareOfLessAndEq _ _ = _; unfold compareOfLessAndEq; rw [if_neg (by omega), if_pos h]
theorem compare_gt {a b : Int} (h : b < a) : compare a b = .gt := by show compareOfLessAndEq _ _ = _; unfold compareOfLessAndEq; rw [if_neg (by omega), if_neg (by omega)]

/-- 2^20. -/
def c20 : Nat := 4697254411347427328
theorem read_c20 : double.read c20 = .number false 4503599627370496 (-32) := by decide
/-- 2^43 and its opposite. -/
def c43 : Nat := 4800837202776948736
def m43 : Nat := 14024209239631724544
theorem read_c43 : double.read c43 = .number false 4503599627370496 (-9) := by decide
theorem read_m43 : double.read m43 = .number true 4503599627370496 (-9) := by decide
theorem val_c43 : val false 4503599627370496 (-9) = 8796093022208 * (TT : Int) := by
  unfold val TT sg
  obtain ⟨e, he⟩ : ∃ e : Nat, e = ((-9 : Int) + 1200).toNat := ⟨_, rfl⟩
  have he' : e + 9 = NN := by rw [he]; rfl
  rw [if_neg (by decide), Int.one_mul, ← he, ← he', show (4503599627370496 : Nat) = 2 ^ 52 from by decide, ← Nat.pow_add, show (8796093022208 : Int) = ((2 ^ 43 : Nat) : Int) from by decide, ← Int.natCast_mul, ← Nat.pow_add]
  congr 2; omega
theorem val_m43 : val true 4503599627370496 (-9) = -(8796093022208 * (TT : Int)) := by
  have := val_c43
  unfold val sg at *
  rw [if_neg (by decide)] at this
  rw [if_pos rfl, ← this]; omega

/-- A datum of a number: its word holds it exactly, if some word does. -/
theorem write_exact {s : Bool} {mag : Nat} {place : Int} {k : Nat} {p : Int} (hp : -1200 ≤ place) (hk : k < 9007199254740992) (hp1 : -1074 ≤ p) (hp2 : p ≤ 971) (e : mag * 2 ^ (place + 1200).toNat = k * 2 ^ (p + 1200).toNat) :
    ∃ m i, double.read (double.write (.number s mag place)) = .number s m i ∧ val s m i = sg s * ((k * 2 ^ (p + 1200).toNat : Nat) : Int) := by
  obtain ⟨m, i, h, _, _, _, h5⟩ := nearest_exact s mag place k p hp hk hp1 hp2 e
  refine ⟨m, i, h, ?_⟩
  unfold val
  rw [h5, e]

/-- x * 2^20, where x is less than 2^43 in size: exact. -/
theorem mul_c20 {x : Nat} {s : Bool} {m : Nat} {i : Int} (hx : double.read x = .number s m i) (hi : i ≤ 900) :
    ∃ y m' i', double.mul x c20 = some y ∧ double.read y = .number s m' i' ∧ val s m' i' = val s m i * 1048576 := by
  obtain ⟨b1, b2, b3⟩ := read_bounds hx
  have e1 : double.mul x c20 = some (double.write (.number s (m * 4503599627370496) (i + -32))) := by
    unfold Format.mul
    rw [hx, read_c20]
    simp only [Datum.product, Option.map, Bool.xor_false]
  have e2 : m * 4503599627370496 * 2 ^ (i + -32 + 1200).toNat = m * 2 ^ (i + 20 + 1200).toNat := by
    rw [show (4503599627370496 : Nat) = 2 ^ 52 from by decide, Nat.mul_assoc, ← Nat.pow_add]
    congr 2; omega
  obtain ⟨m', i', h1, h2⟩ := write_exact (s := s) (by omega) b1 (by omega) (by omega) e2
  refine ⟨_, m', i', e1, h1, ?_⟩
  rw [h2]
  unfold val
  rw [show (i + 20 + 1200).toNat = (i + 1200).toNat + 20 by omega, Nat.pow_add, ← Nat.mul_assoc, Int.natCast_mul (m * _), Int.mul_assoc]
  rfl

/-! Rounding down and towards zero. -/
theorem cut_low (neg : Bool) (n drop : Nat) : Toward.zero.cut neg n drop = n / 2 ^ drop ∧ Toward.down.cut neg n drop = n / 2 ^ drop + (if neg = true ∧ n % 2 ^ drop ≠ 0 then 1 else 0) := by
  unfold Toward.cut
  simp only [Nat.shiftLeft_eq, Nat.one_mul]
  have hp : 0 < 2 ^ drop := Nat.two_pow_pos drop
  by_cases h : drop ≤ n.log2 + 2
  · rw [Nat.min_eq_left h]
    refine ⟨rfl, ?_⟩
    cases neg
    · simp
    · by_cases h0 : n % 2 ^ drop = 0
      · simp [h0]
      · simp [h0]
  · rw [Nat.min_eq_right (by omega)]
    have h1 : n < 2 ^ (n.log2 + 2) := Nat.lt_trans Nat.lt_log2_self (Nat.pow_lt_pow_right (by decide) (by omega))
    have h2 : n < 2 ^ drop := Nat.lt_of_lt_of_le h1 (Nat.pow_le_pow_right (by decide) (by omega))
    rw [Nat.div_eq_of_lt h1, Nat.div_eq_of_lt h2, Nat.mod_eq_of_lt h1, Nat.mod_eq_of_lt h2]
    refine ⟨rfl, ?_⟩
    cases neg
    · simp
    · by_cases h0 : n = 0
      · simp [h0]
      · simp [h0]

/-- The whole number that is cut off a datum, with its value. -/
theorem cut_val {s : Bool} {m : Nat} {i : Int} (hi : -1074 ≤ i) :
    sg s * ((Toward.down.cut s (m <<< i.toNat) (-i).toNat : Nat) : Int) = val s m i / (TT : Int) ∧ sg s * ((Toward.zero.cut s (m <<< i.toNat) (-i).toNat : Nat) : Int) = (val s m i).tdiv (TT : Int) := by
  obtain ⟨c1, c2⟩ := cut_low s (m <<< i.toNat) (-i).toNat
  rw [c1, c2, Nat.shiftLeft_eq]
  have hp : 0 < 2 ^ (-i).toNat := Nat.two_pow_pos _
  have hT : 0 < 2 ^ (min (i + 1200) 1200).toNat := Nat.two_pow_pos _
  have e1 : m * 2 ^ (i + 1200).toNat = m * 2 ^ i.toNat * 2 ^ (min (i + 1200) 1200).toNat := by
    rw [Nat.mul_assoc, ← Nat.pow_add]; congr 2; omega
  have e2 : TT = 2 ^ (-i).toNat * 2 ^ (min (i + 1200) 1200).toNat := by
    unfold TT; rw [← Nat.pow_add]; congr 1; unfold NN; omega
  unfold val
  rw [e1, e2]
  generalize 2 ^ (min (i + 1200) 1200).toNat = W at *
  generalize 2 ^ (-i).toNat = D at *
  generalize m * 2 ^ i.toNat = n at *
  have q1 : n * W / (D * W) = n / D := Nat.mul_div_mul_right _ _ hT
  have hDW : 0 < D * W := Nat.mul_pos hp hT
  have q2 : n * W % (D * W) = 0 ↔ n % D = 0 := by
    rw [Nat.mul_mod_mul_right]
    exact ⟨fun h => by rcases Nat.mul_eq_zero.1 h with h | h; exact h; omega, fun h => by rw [h, Nat.zero_mul]⟩
  cases s
  · have hs : sg false = 1 := rfl
    rw [hs, Int.one_mul, Int.one_mul, Int.one_mul]
    rw [if_neg (by simp), Nat.add_zero]
    refine ⟨?_, ?_⟩
    · rw [← Int.natCast_ediv, q1]
    · rw [← q1]; rfl
  · have hs : sg true = -1 := rfl
    rw [hs, Int.neg_mul, Int.neg_mul, Int.neg_mul, Int.one_mul, Int.one_mul, Int.one_mul]
    refine ⟨?_, ?_⟩
    · rw [neg_div_nat _ _ hDW, q1]
      by_cases h : n % D = 0
      · rw [if_neg (by simp [h]), if_neg (by rw [q2.2 h]; omega)]; omega
      · rw [if_pos ⟨rfl, h⟩, if_pos (Nat.pos_of_ne_zero fun hh => h (q2.1 hh))]; omega
    · rw [Int.neg_tdiv, ← q1]; rfl

/-- Rounded down: the word holds it exactly. -/
theorem floor_word {y : Nat} {s : Bool} {m : Nat} {i : Int} (hy : double.read y = .number s m i) (hi : i ≤ 900) :
    ∃ n : Nat, ∃ m' i', ((double.read y).integral .down) = .number s n 0 ∧ double.read (double.write (.number s n 0)) = .number s m' i' ∧ val s m' i' = sg s * ((n * TT : Nat) : Int) ∧ sg s * (n : Int) = val s m i / (TT : Int) := by
  obtain ⟨b1, b2, b3⟩ := read_bounds hy
  obtain ⟨c1, c2⟩ := cut_low s (m <<< i.toNat) (-i).toNat
  have hv := (cut_val (s := s) (m := m) b2).1
  obtain ⟨n, hn⟩ : ∃ n, n = Toward.down.cut s (m <<< i.toNat) (-i).toNat := ⟨_, rfl⟩
  have hk : ∃ k p, k < 9007199254740992 ∧ -1074 ≤ p ∧ p ≤ 971 ∧ n * 2 ^ ((0 : Int) + 1200).toNat = k * 2 ^ (p + 1200).toNat := by
    by_cases h : 0 ≤ i
    · refine ⟨m, i, b1, b2, b3, ?_⟩
      rw [hn, c2, show (-i).toNat = 0 by omega, Nat.pow_zero, Nat.div_one, Nat.mod_one, if_neg (by simp), Nat.add_zero, Nat.shiftLeft_eq, Nat.mul_assoc, ← Nat.pow_add]
      congr 2; omega
    · refine ⟨n, 0, ?_, by omega, by omega, rfl⟩
      rw [hn, c2, show i.toNat = 0 by omega, Nat.shiftLeft_zero]
      obtain ⟨d, hd⟩ : ∃ d, (-i).toNat = d + 1 := ⟨(-i).toNat - 1, by omega⟩
      rw [hd]
      have : m / 2 ^ (d + 1) ≤ m / 2 := Nat.div_le_div_left (by rw [Nat.pow_succ]; have := Nat.two_pow_pos d; omega) (by decide)
      split <;> omega
  obtain ⟨k, p, k1, k2, k3, k4⟩ := hk
  obtain ⟨m', i', h1, h2⟩ := write_exact (s := s) (mag := n) (place := 0) (by omega) k1 k2 k3 k4
  refine ⟨n, m', i', ?_, h1, ?_, ?_⟩
  · rw [hy, hn]; rfl
  · rw [h2, ← k4, pow_TT]
  · rw [hn]; exact hv

theorem signed_zero (s : Bool) (n : Nat) : signed s n 0 = sg s * (n : Int) := by rw [signed_eq, Nat.pow_zero, Nat.mul_one]

/-- A number made a whole one, towards zero. -/
theorem toInt_val {z : Nat} {s : Bool} {m : Nat} {i : Int} (hz : double.read z = .number s m i) : (double.read z).toInt .zero = some ((val s m i).tdiv (TT : Int)) := by
  obtain ⟨b1, b2, b3⟩ := read_bounds hz
  rw [hz]
  unfold Datum.toInt Datum.integral
  simp only [signed_zero]
  rw [(cut_val b2).2]
/-- A whole number's word. -/
theorem int_word {n : Int} {k : Nat} {p : Int} (hk : k < 9007199254740992) (hp1 : -1074 ≤ p) (hp2 : p ≤ 900) (e : n.natAbs * TT = k * 2 ^ (p + 1200).toNat) :
    ∃ m i, double.read (floatOfInt .f64 n) = .number (decide (n < 0)) m i ∧ val (decide (n < 0)) m i = n * (TT : Int) := by
  obtain ⟨m, i, h1, h2⟩ := write_exact (s := decide (n < 0)) (mag := n.natAbs) (place := 0) (by omega) hk hp1 (by omega) (p := p) (by rw [← e, pow_TT])
  refine ⟨m, i, h1, ?_⟩
  have hs : sg (decide (n < 0)) * (n.natAbs : Int) = n := by
    unfold sg
    by_cases h : n < 0
    · rw [if_pos (by simpa using h)]; omega
    · rw [if_neg (by simpa using h)]; omega
  rw [h2, ← e, Int.natCast_mul, ← Int.mul_assoc, hs]
end Go.Proofs.YtinlbenifmcgaaaDoor.Fl
