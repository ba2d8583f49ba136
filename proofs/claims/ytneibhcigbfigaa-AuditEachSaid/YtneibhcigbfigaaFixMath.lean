/- Plain arithmetic behind the package fix: the number that an operation of fixed-point numbers answers, and that schoolbook division by digits of 32 bits gives quotient and rest; no condition but those that each statement names. -/
namespace Go.Proofs.Ytneibhcigbfigaa.Fx
set_option linter.unusedVariables false

/-- What is beyond the ends of 64 bits is the nearer end. -/
def clampI (x : Int) : Int := if 9223372036854775807 < x then 9223372036854775807 else if x < -9223372036854775808 then -9223372036854775808 else x
def endI (a : Int) : Int := if 0 < a then 9223372036854775807 else if a < 0 then -9223372036854775808 else 0
def addI (a b : Int) : Int := clampI (a + b)
def subI (a b : Int) : Int := clampI (a - b)
def mulI (a b : Int) : Int := clampI (a * b / 1048576)
def divI (a b : Int) : Int := if b = 0 then endI a else clampI (if 0 < b then a * 1048576 / b else -(a * 1048576) / -b)
def wholeI (n : Int) : Int := clampI (n * 1048576)
def intI (a : Int) : Int := a / 1048576
def inI (a : Int) : Prop := -9223372036854775808 ≤ a ∧ a ≤ 9223372036854775807

theorem clampI_in (x : Int) : inI (clampI x) := by unfold inI clampI; split <;> (try split) <;> omega
theorem clampI_id {x : Int} (h : inI x) : clampI x = x := by unfold inI at h; unfold clampI; rw [if_neg (by omega), if_neg (by omega)]
theorem clampI_mono {x y : Int} (h : x ≤ y) : clampI x ≤ clampI y := by unfold clampI; split <;> split <;> (try split) <;> (try split) <;> omega
theorem clampI_top {x : Int} (h : 9223372036854775807 ≤ x) : clampI x = 9223372036854775807 := by unfold clampI; split <;> (try split) <;> omega
theorem clampI_low {x : Int} (h : x ≤ -9223372036854775808) : clampI x = -9223372036854775808 := by unfold clampI; split <;> (try split) <;> omega
theorem endI_in (a : Int) : inI (endI a) := by unfold inI endI; split <;> (try split) <;> omega
theorem addI_in (a b : Int) : inI (addI a b) := clampI_in _
theorem subI_in (a b : Int) : inI (subI a b) := clampI_in _
theorem mulI_in (a b : Int) : inI (mulI a b) := clampI_in _
theorem wholeI_in (a : Int) : inI (wholeI a) := clampI_in _
theorem divI_in (a b : Int) : inI (divI a b) := by unfold divI; split; exact endI_in _; exact clampI_in _
theorem intI_in {a : Int} (h : inI a) : inI (intI a) := by unfold inI at *; unfold intI; omega

/-- The quotient with its sign, rounded down, kept within 64 bits. -/
def quoI (hi lo d : Nat) (below : Bool) : Int := clampI ((if below then -((hi * 18446744073709551616 + lo : Nat) : Int) else ((hi * 18446744073709551616 + lo : Nat) : Int)) / (d : Int))

theorem quo_pos_big {hi lo d : Nat} (hd : 0 < d) (h : d ≤ hi) : quoI hi lo d false = 9223372036854775807 := by
  unfold quoI
  refine clampI_top ?_
  have : (9223372036854775807 : Int) * (d : Int) ≤ ((hi * 18446744073709551616 + lo : Nat) : Int) := by omega
  simpa using (Int.le_ediv_of_mul_le (by omega) this)
theorem quo_pos {hi lo d : Nat} (hd : 0 < d) : quoI hi lo d false = clampI (((hi * 18446744073709551616 + lo) / d : Nat) : Int) := by
  unfold quoI; simp
theorem quo_neg_big {hi lo d : Nat} (hd : 0 < d) (h : d ≤ hi) : quoI hi lo d true = -9223372036854775808 := by
  unfold quoI
  refine clampI_low ?_
  have : -((hi * 18446744073709551616 + lo : Nat) : Int) < (-9223372036854775808 + 1) * (d : Int) := by omega
  have := Int.ediv_lt_of_lt_mul (by omega) this
  simpa using (by omega : -((hi * 18446744073709551616 + lo : Nat) : Int) / (d : Int) ≤ -9223372036854775808)
theorem neg_div_nat (n d : Nat) (hd : 0 < d) : -(n : Int) / (d : Int) = -((n / d : Nat) : Int) - (if 0 < n % d then 1 else 0) := by
  have e := Nat.div_add_mod n d
  have hr := Nat.mod_lt n hd
  have e' : (n : Int) = (d : Int) * ((n / d : Nat) : Int) + ((n % d : Nat) : Int) := by exact_mod_cast e.symm
  generalize n / d = q at *
  generalize n % d = r at *
  split
  · rename_i h0
    have : -(n : Int) = ((d : Int) - (r : Int)) + (d : Int) * (-(q : Int) - 1) := by rw [e', Int.mul_sub, Int.mul_neg, Int.mul_one]; omega
    rw [this, Int.add_mul_ediv_left _ _ (by omega), Int.ediv_eq_zero_of_lt (by omega) (by omega)]; omega
  · have hr0 : r = 0 := by omega
    subst hr0
    have : -(n : Int) = 0 + (d : Int) * (-(q : Int)) := by rw [e', Int.mul_neg]; omega
    rw [this, Int.add_mul_ediv_left _ _ (by omega), Int.zero_ediv]; omega
theorem quo_neg {hi lo d : Nat} (hd : 0 < d) : quoI hi lo d true = clampI (-(((hi * 18446744073709551616 + lo) / d : Nat) : Int) - (if 0 < (hi * 18446744073709551616 + lo) % d then 1 else 0)) := by
  unfold quoI; rw [if_pos rfl, neg_div_nat _ _ hd]

/-! One digit of the schoolbook division: 'u' is what is left (below the divisor 'Y = a * B + b'), 'd' the next digit, B = 2^32. -/
/-- What holds of a guess 'q' and its rest 'r' at each round's head. -/
def Guess (u d a b q r : Nat) : Prop := q * a + r = u ∧ u * 4294967296 + d < (q + 1) * (a * 4294967296 + b) ∧ q ≤ 4294967297 ∧ r < 4294967296
/-- The digit. -/
def Digit (u d a b q : Nat) : Prop := q * (a * 4294967296 + b) ≤ u * 4294967296 + d ∧ u * 4294967296 + d < (q + 1) * (a * 4294967296 + b)

theorem mul_split (q a b : Nat) : q * (a * 4294967296 + b) = q * a * 4294967296 + q * b := by rw [Nat.mul_add, Nat.mul_assoc]
theorem guess_start {u d a b : Nat} (ha : 2147483648 ≤ a) (ha' : a < 4294967296) (hb : b < 4294967296) (hd : d < 4294967296) (hu : u < a * 4294967296 + b) :
    Guess u d a b (u / a) (u % a) := by
  have hm := Nat.mod_lt u (by omega : 0 < a)
  have e := Nat.div_add_mod' u a
  refine ⟨e, ?_, ?_, by omega⟩
  · rw [mul_split, Nat.add_mul]
    generalize u / a = q at *
    generalize hq : q * a = p at *
    have : (q + 1) * b ≥ 0 := Nat.zero_le _
    omega
  · have : u / a < 4294967298 := by
      rw [Nat.div_lt_iff_lt_mul (by omega)]; omega
    omega
/-- A guess that is too great stays one that is great enough. -/
theorem guess_step {u d a b q r : Nat} (ha : 2147483648 ≤ a) (ha' : a < 4294967296) (hb : b < 4294967296) (hd : d < 4294967296) (hu : u < a * 4294967296 + b) (g : Guess u d a b q r)
    (h : 4294967296 ≤ q ∨ 4294967296 * r + d < q * b) : 0 < q ∧ (q - 1) * a + (r + a) = u ∧ u * 4294967296 + d < (q - 1 + 1) * (a * 4294967296 + b) ∧ q - 1 ≤ 4294967297 := by
  obtain ⟨g1, g2, g3, g4⟩ := g
  have hq : 0 < q := by
    rcases h with h | h
    · omega
    · refine Nat.pos_of_ne_zero fun hz => ?_
      subst hz; omega
  have hq1 : q - 1 + 1 = q := by omega
  refine ⟨hq, ?_, ?_, by omega⟩
  · have : (q - 1) * a + a = q * a := by conv => rhs; rw [← hq1, Nat.add_mul, Nat.one_mul]
    omega
  · rw [hq1]
    rcases h with h | h
    · have : 4294967296 * (a * 4294967296 + b) ≤ q * (a * 4294967296 + b) := Nat.mul_le_mul_right _ h
      omega
    · rw [mul_split]; omega
theorem guess_break {u d a b q r : Nat} (ha' : a < 4294967296) (hb : b < 4294967296) (h1 : q * a + r = u) (h2 : u * 4294967296 + d < (q + 1) * (a * 4294967296 + b)) (h3 : q ≤ 4294967296) (h4 : 4294967296 ≤ r) :
    Digit u d a b q := by
  refine ⟨?_, h2⟩
  rw [mul_split]
  have : q * b ≤ 4294967296 * 4294967295 := Nat.mul_le_mul h3 (by omega)
  omega
theorem guess_done {u d a b q r : Nat} (g : Guess u d a b q r) (h : q * b ≤ 4294967296 * r + d) : Digit u d a b q := by
  obtain ⟨g1, g2, g3, g4⟩ := g
  refine ⟨?_, g2⟩
  rw [mul_split]; omega
theorem digit_lt {u d a b q : Nat} (hd : d < 4294967296) (hu : u < a * 4294967296 + b) (g : Digit u d a b q) : q < 4294967296 := by
  obtain ⟨g1, g2⟩ := g
  by_cases h : q < 4294967296
  · exact h
  · have : 4294967296 * (a * 4294967296 + b) ≤ q * (a * 4294967296 + b) := Nat.mul_le_mul_right _ (by omega)
    omega
/-- What is left behind a digit, as 64 bits reckon it. -/
theorem digit_rest {u d a b q : Nat} (hY : a * 4294967296 + b < 18446744073709551616) (g : Digit u d a b q) :
    (((u * 4294967296 + d : Nat) : Int) - ((q * (a * 4294967296 + b) : Nat) : Int)) % 18446744073709551616 = ((u * 4294967296 + d - q * (a * 4294967296 + b) : Nat) : Int) ∧ u * 4294967296 + d - q * (a * 4294967296 + b) < a * 4294967296 + b := by
  obtain ⟨g1, g2⟩ := g
  rw [Nat.add_mul, Nat.one_mul] at g2
  omega
/-- Two digits make the quotient. -/
theorem comb (q1 q0 K Y : Nat) : (q1 * K + q0) * Y = K * (q1 * Y) + q0 * Y := by rw [Nat.add_mul, Nat.mul_comm q1, Nat.mul_assoc]
theorem two_core {N u d1 d0 Y P1 P0 : Nat} (hN : N = u * 18446744073709551616 + d1 * 4294967296 + d0) (h1 : P1 ≤ u * 4294967296 + d1) (h2 : P0 ≤ (u * 4294967296 + d1 - P1) * 4294967296 + d0) (h3 : (u * 4294967296 + d1 - P1) * 4294967296 + d0 < P0 + Y) :
    N = 4294967296 * P1 + P0 + ((u * 4294967296 + d1 - P1) * 4294967296 + d0 - P0) ∧ (u * 4294967296 + d1 - P1) * 4294967296 + d0 - P0 < Y := by omega
theorem div_core {n y S q R : Nat} (hS : 0 < S) (hy : 0 < y) (e : n * S = q * (y * S) + R) (hR : R < y * S) : n / y = q ∧ R / S = n % y := by
  have hYp : 0 < y * S := Nat.mul_pos hy hS
  have eq : n / y = q := by
    rw [← Nat.mul_div_mul_right n y hS, e, Nat.mul_comm q (y * S), Nat.mul_add_div hYp, Nat.div_eq_of_lt hR]; rfl
  refine ⟨eq, ?_⟩
  have em := Nat.div_add_mod' n y
  rw [eq] at em
  have e2 : n * S = q * (y * S) + n % y * S := by
    have : (q * y + n % y) * S = q * (y * S) + n % y * S := by rw [Nat.add_mul, Nat.mul_assoc]
    rw [em] at this; exact this
  have : R = n % y * S := by omega
  rw [this, Nat.mul_div_cancel _ hS]
theorem two_digits {n y S u d1 d0 a b q1 q0 : Nat} (hS : 0 < S) (hy : 0 < y) (hY : a * 4294967296 + b = y * S) (hN : n * S = u * 18446744073709551616 + d1 * 4294967296 + d0)
    (g1 : Digit u d1 a b q1) (g0 : Digit (u * 4294967296 + d1 - q1 * (a * 4294967296 + b)) d0 a b q0) :
    n / y = q1 * 4294967296 + q0 ∧ ((u * 4294967296 + d1 - q1 * (a * 4294967296 + b)) * 4294967296 + d0 - q0 * (a * 4294967296 + b)) / S = n % y := by
  obtain ⟨g1a, _⟩ := g1
  obtain ⟨g0a, g0b⟩ := g0
  rw [Nat.add_mul, Nat.one_mul] at g0b
  obtain ⟨e, hr⟩ := two_core hN g1a g0a g0b
  rw [← comb] at e
  rw [hY] at e hr ⊢
  exact div_core hS hy e hr

/-! What is shifted in: 's' leading zeros. -/
theorem shifted {hi lo y s : Nat} (hs : s ≤ 63) (h : hi < y) (hy : y < 2 ^ (64 - s)) (hlo : lo < 18446744073709551616) :
    hi * 2 ^ s < 18446744073709551616 ∧ hi * 2 ^ s + lo / 2 ^ (64 - s) < y * 2 ^ s ∧ y * 2 ^ s < 18446744073709551617 ∧ (hi * 18446744073709551616 + lo) * 2 ^ s = (hi * 2 ^ s + lo / 2 ^ (64 - s)) * 18446744073709551616 + lo * 2 ^ s % 18446744073709551616 ∧ lo / 2 ^ (64 - s) < 2 ^ s := by
  have e64 : (2 : Nat) ^ (64 - s) * 2 ^ s = 18446744073709551616 := by rw [← Nat.pow_add, show 64 - s + s = 64 by omega]
  have hp : 0 < (2 : Nat) ^ s := Nat.two_pow_pos s
  have hp' : 0 < (2 : Nat) ^ (64 - s) := Nat.two_pow_pos _
  generalize (2 : Nat) ^ (64 - s) = T at *
  generalize (2 : Nat) ^ s = S at *
  have hq : lo / T < S := by rw [Nat.div_lt_iff_lt_mul hp', Nat.mul_comm]; omega
  have h1 : (hi + 1) * S ≤ y * S := Nat.mul_le_mul_right _ h
  have h2 : (y + 1) * S ≤ T * S := Nat.mul_le_mul_right _ hy
  rw [Nat.add_mul, Nat.one_mul] at h1 h2
  have hm : lo * S % 18446744073709551616 = lo % T * S := by rw [← e64, Nat.mul_mod_mul_right]
  have hd := Nat.div_add_mod lo T
  refine ⟨by omega, by omega, by omega, ?_, hq⟩
  rw [hm, Nat.add_mul, Nat.add_mul]
  have : lo * S = lo / T * 18446744073709551616 + lo % T * S := by
    conv => lhs; rw [← hd, Nat.add_mul, Nat.mul_comm T, Nat.mul_assoc, e64]
  rw [this, Nat.mul_right_comm]; omega
theorem shifted_high {y s : Nat} (hs : s ≤ 63) (hy : 2 ^ (63 - s) ≤ y) : 9223372036854775808 ≤ y * 2 ^ s := by
  have e : (2 : Nat) ^ (63 - s) * 2 ^ s = 9223372036854775808 := by rw [← Nat.pow_add, show 63 - s + s = 63 by omega]
  have := Nat.mul_le_mul_right (2 ^ s) hy
  omega
theorem or_low {x z s : Nat} (h : z < 2 ^ s) : (x * 2 ^ s) ||| z = x * 2 ^ s + z := by
  rw [Nat.mul_comm, Nat.two_pow_add_eq_or_of_lt h]
end Go.Proofs.Ytneibhcigbfigaa.Fx
