import Derived.Test.YtdhkakjiahkjnaaDoorRows
import Derived.WalkKit
import Derived.WalkSpells
import Derived.Lib.Mul64
import Derived.Laws.Bits64b
import Derived.Lib.Strings
import Derived.Lib.Slices
import Derived.Lib.Small
import Derived.Lib.BitFns
import Derived.Lib.ItoaNum
import Derived.Lib.Hide
import Derived.Deep.QuietTactic
import Derived.BigQuiet
import Derived.Deep.Draws
import Derived.Below
import Derived.ChangeSame
import Derived.RowKit3
import Derived.OwnWalk
import Derived.Carry
import Derived.OpenShut
import Derived.Laws.AppendOwnNone
import Derived.Laws.Tables
import Derived.Deep.Upon
import Derived.Deep.RegionLaw
/- Plain arithmetic behind the package fix: the number that an operation of fixed-point numbers answers, and that schoolbook division by digits of 32 bits gives quotient and rest; no condition but those that each statement names. -/
namespace Go.Proofs.YtdhkakjiahkjnaaDoor.Fx
set_option linter.unusedVariables false

/-- What is beyond the ends of 64 bits is the nearer end. -/
def clampI (x : Int) : Int := if 9223372036854775807 < x then 9223372036854775807 else if x < -9223372036854775808 then -9223372036854775808 else x
def endI (a : Int) : Int := if 0 < a then 9223372036854775807 else if a < 0 then -9223372036854775808 else 0
def addI (a b : Int) : Int := clampI (a + b)
def subI (a b : Int) : Int := clampI (a - b)
def mulI (a b : Int) : Int := clampI (a * b / 1048576)
def divI (a b : Int) : Int := if b = 0 then endI a else clampI (if 0 < b then a * 1048576 / b else -(a * 1048576) / -b)
def wholeI (n : Int) : Int := clampI (n * 1048576)
def intI (a : Int) : Int := a / 1048576
def inI (a : Int) : Prop := -9223372036854775808 ≤ a ∧ a ≤ 9223372036854775807

theorem clampI_in (x : Int) : inI (clampI x) := by unfold inI clampI; split <;> (try split) <;> omega
theorem clampI_id {x : Int} (h : inI x) : clampI x = x := by unfold inI at h; unfold clampI; rw [if_neg (by omega), if_neg (by omega)]
theorem clampI_mono {x y : Int} (h : x ≤ y) : clampI x ≤ clampI y := by unfold clampI; split <;> split <;> (try split) <;> (try split) <;> omega
theorem clampI_top {x : Int} (h : 9223372036854775807 ≤ x) : clampI x = 9223372036854775807 := by unfold clampI; split <;> (try split) <;> omega
theorem clampI_low {x : Int} (h : x ≤ -9223372036854775808) : clampI x = -9223372036854775808 := by unfold clampI; split <;> (try split) <;> omega
theorem endI_in (a : Int) : inI (endI a) := by unfold inI endI; split <;> (try split) <;> omega
theorem addI_in (a b : Int) : inI (addI a b) := clampI_in _
theorem subI_in (a b : Int) : inI (subI a b) := clampI_in _
theorem mulI_in (a b : Int) : inI (mulI a b) := clampI_in _
theorem wholeI_in (a : Int) : inI (wholeI a) := clampI_in _
theorem divI_in (a b : Int) : inI (divI a b) := by unfold divI; split; exact endI_in _; exact clampI_in _
theorem intI_in {a : Int} (h : inI a) : inI (intI a) := by unfold inI at *; unfold intI; omega

/-- The quotient with its sign, rounded down, kept within 64 bits. -/
def quoI (hi lo d : Nat) (below : Bool) : Int := clampI ((if below then -((hi * 18446744073709551616 + lo : Nat) : Int) else ((hi * 18446744073709551616 + lo : Nat) : Int)) / (d : Int))

theorem quo_pos_big {hi lo d : Nat} (hd : 0 < d) (h : d ≤ hi) : quoI hi lo d false = 9223372036854775807 := by
  unfold quoI
  refine clampI_top ?_
  have : (9223372036854775807 : Int) * (d : Int) ≤ ((hi * 18446744073709551616 + lo : Nat) : Int) := by omega
  simpa using (Int.le_ediv_of_mul_le (by omega) this)
theorem quo_pos {hi lo d : Nat} (hd : 0 < d) : quoI hi lo d false = clampI (((hi * 18446744073709551616 + lo) / d : Nat) : Int) := by
  unfold quoI; simp
theorem quo_neg_big {hi lo d : Nat} (hd : 0 < d) (h : d ≤ hi) : quoI hi lo d true = -9223372036854775808 := by
  unfold quoI
  refine clampI_low ?_
  have : -((hi * 18446744073709551616 + lo : Nat) : Int) < (-9223372036854775808 + 1) * (d : Int) := by omega
  have := Int.ediv_lt_of_lt_mul (by omega) this
  simpa using (by omega : -((hi * 18446744073709551616 + lo : Nat) : Int) / (d : Int) ≤ -9223372036854775808)
theorem neg_div_nat (n d : Nat) (hd : 0 < d) : -(n : Int) / (d : Int) = -((n / d : Nat) : Int) - (if 0 < n % d then 1 else 0) := by
  have e := Nat.div_add_mod n d
  have hr := Nat.mod_lt n hd
  have e' : (n : Int) = (d : Int) * ((n / d : Nat) : Int) + ((n % d : Nat) : Int) := by exact_mod_cast e.symm
  generalize n / d = q at *
  generalize n % d = r at *
  split
  · rename_i h0
    have : -(n : Int) = ((d : Int) - (r : Int)) + (d : Int) * (-(q : Int) - 1) := by rw [e', Int.mul_sub, Int.mul_neg, Int.mul_one]; omega
    rw [this, Int.add_mul_ediv_left _ _ (by omega), Int.ediv_eq_zero_of_lt (by omega) (by omega)]; omega
  · have hr0 : r = 0 := by omega
    subst hr0
    have : -(n : Int) = 0 + (d : Int) * (-(q : Int)) := by rw [e', Int.mul_neg]; omega
    rw [this, Int.add_mul_ediv_left _ _ (by omega), Int.zero_ediv]; omega
theorem quo_neg {hi lo d : Nat} (hd : 0 < d) : quoI hi lo d true = clampI (-(((hi * 18446744073709551616 + lo) / d : Nat) : Int) - (if 0 < (hi * 18446744073709551616 + lo) % d then 1 else 0)) := by
  unfold quoI; rw [if_pos rfl, neg_div_nat _ _ hd]

/-! One digit of the schoolbook division: 'u' is what is left (below the divisor 'Y = a * B + b'), 'd' the next digit, B = 2^32. -/
/-- What holds of a guess 'q' and its rest 'r' at each round's head. -/
def Guess (u d a b q r : Nat) : Prop := q * a + r = u ∧ u * 4294967296 + d < (q + 1) * (a * 4294967296 + b) ∧ q ≤ 4294967297 ∧ r < 4294967296
/-- The digit. -/
def Digit (u d a b q : Nat) : Prop := q * (a * 4294967296 + b) ≤ u * 4294967296 + d ∧ u * 4294967296 + d < (q + 1) * (a * 4294967296 + b)

theorem mul_split (q a b : Nat) : q * (a * 4294967296 + b) = q * a * 4294967296 + q * b := by rw [Nat.mul_add, Nat.mul_assoc]
theorem guess_start {u d a b : Nat} (ha : 2147483648 ≤ a) (ha' : a < 4294967296) (hb : b < 4294967296) (hd : d < 4294967296) (hu : u < a * 4294967296 + b) :
    Guess u d a b (u / a) (u % a) := by
  have hm := Nat.mod_lt u (by omega : 0 < a)
  have e := Nat.div_add_mod' u a
  refine ⟨e, ?_, ?_, by omega⟩
  · rw [mul_split, Nat.add_mul]
    generalize u / a = q at *
    generalize hq : q * a = p at *
    have : (q + 1) * b ≥ 0 := Nat.zero_le _
    omega
  · have : u / a < 4294967298 := by
      rw [Nat.div_lt_iff_lt_mul (by omega)]; omega
    omega
/-- A guess that is too great stays one that is great enough. -/
theorem guess_step {u d a b q r : Nat} (ha : 2147483648 ≤ a) (ha' : a < 4294967296) (hb : b < 4294967296) (hd : d < 4294967296) (hu : u < a * 4294967296 + b) (g : Guess u d a b q r)
    (h : 4294967296 ≤ q ∨ 4294967296 * r + d < q * b) : 0 < q ∧ (q - 1) * a + (r + a) = u ∧ u * 4294967296 + d < (q - 1 + 1) * (a * 4294967296 + b) ∧ q - 1 ≤ 4294967297 := by
  obtain ⟨g1, g2, g3, g4⟩ := g
  have hq : 0 < q := by
    rcases h with h | h
    · omega
    · refine Nat.pos_of_ne_zero fun hz => ?_
      subst hz; omega
  have hq1 : q - 1 + 1 = q := by omega
  refine ⟨hq, ?_, ?_, by omega⟩
  · have : (q - 1) * a + a = q * a := by conv => rhs; rw [← hq1, Nat.add_mul, Nat.one_mul]
    omega
  · rw [hq1]
    rcases h with h | h
    · have : 4294967296 * (a * 4294967296 + b) ≤ q * (a * 4294967296 + b) := Nat.mul_le_mul_right _ h
      omega
    · rw [mul_split]; omega
theorem guess_break {u d a b q r : Nat} (ha' : a < 4294967296) (hb : b < 4294967296) (h1 : q * a + r = u) (h2 : u * 4294967296 + d < (q + 1) * (a * 4294967296 + b)) (h3 : q ≤ 4294967296) (h4 : 4294967296 ≤ r) :
    Digit u d a b q := by
  refine ⟨?_, h2⟩
  rw [mul_split]
  have : q * b ≤ 4294967296 * 4294967295 := Nat.mul_le_mul h3 (by omega)
  omega
theorem guess_done {u d a b q r : Nat} (g : Guess u d a b q r) (h : q * b ≤ 4294967296 * r + d) : Digit u d a b q := by
  obtain ⟨g1, g2, g3, g4⟩ := g
  refine ⟨?_, g2⟩
  rw [mul_split]; omega
theorem digit_lt {u d a b q : Nat} (hd : d < 4294967296) (hu : u < a * 4294967296 + b) (g : Digit u d a b q) : q < 4294967296 := by
  obtain ⟨g1, g2⟩ := g
  by_cases h : q < 4294967296
  · exact h
  · have : 4294967296 * (a * 4294967296 + b) ≤ q * (a * 4294967296 + b) := Nat.mul_le_mul_right _ (by omega)
    omega
/-- What is left behind a digit, as 64 bits reckon it. -/
theorem digit_rest {u d a b q : Nat} (hY : a * 4294967296 + b < 18446744073709551616) (g : Digit u d a b q) :
    (((u * 4294967296 + d : Nat) : Int) - ((q * (a * 4294967296 + b) : Nat) : Int)) % 18446744073709551616 = ((u * 4294967296 + d - q * (a * 4294967296 + b) : Nat) : Int) ∧ u * 4294967296 + d - q * (a * 4294967296 + b) < a * 4294967296 + b := by
  obtain ⟨g1, g2⟩ := g
  rw [Nat.add_mul, Nat.one_mul] at g2
  omega
/-- Two digits make the quotient. -/
theorem comb (q1 q0 K Y : Nat) : (q1 * K + q0) * Y = K * (q1 * Y) + q0 * Y := by rw [Nat.add_mul, Nat.mul_comm q1, Nat.mul_assoc]
theorem two_core {N u d1 d0 Y P1 P0 : Nat} (hN : N = u * 18446744073709551616 + d1 * 4294967296 + d0) (h1 : P1 ≤ u * 4294967296 + d1) (h2 : P0 ≤ (u * 4294967296 + d1 - P1) * 4294967296 + d0) (h3 : (u * 4294967296 + d1 - P1) * 4294967296 + d0 < P0 + Y) :
    N = 4294967296 * P1 + P0 + ((u * 4294967296 + d1 - P1) * 4294967296 + d0 - P0) ∧ (u * 4294967296 + d1 - P1) * 4294967296 + d0 - P0 < Y := by omega
theorem div_core {n y S q R : Nat} (hS : 0 < S) (hy : 0 < y) (e : n * S = q * (y * S) + R) (hR : R < y * S) : n / y = q ∧ R / S = n % y := by
  have hYp : 0 < y * S := Nat.mul_pos hy hS
  have eq : n / y = q := by
    rw [← Nat.mul_div_mul_right n y hS, e, Nat.mul_comm q (y * S), Nat.mul_add_div hYp, Nat.div_eq_of_lt hR]; rfl
  refine ⟨eq, ?_⟩
  have em := Nat.div_add_mod' n y
  rw [eq] at em
  have e2 : n * S = q * (y * S) + n % y * S := by
    have : (q * y + n % y) * S = q * (y * S) + n % y * S := by rw [Nat.add_mul, Nat.mul_assoc]
    rw [em] at this; exact this
  have : R = n % y * S := by omega
  rw [this, Nat.mul_div_cancel _ hS]
theorem two_digits {n y S u d1 d0 a b q1 q0 : Nat} (hS : 0 < S) (hy : 0 < y) (hY : a * 4294967296 + b = y * S) (hN : n * S = u * 18446744073709551616 + d1 * 4294967296 + d0)
    (g1 : Digit u d1 a b q1) (g0 : Digit (u * 4294967296 + d1 - q1 * (a * 4294967296 + b)) d0 a b q0) :
    n / y = q1 * 4294967296 + q0 ∧ ((u * 4294967296 + d1 - q1 * (a * 4294967296 + b)) * 4294967296 + d0 - q0 * (a * 4294967296 + b)) / S = n % y := by
  obtain ⟨g1a, _⟩ := g1
  obtain ⟨g0a, g0b⟩ := g0
  rw [Nat.add_mul, Nat.one_mul] at g0b
  obtain ⟨e, hr⟩ := two_core hN g1a g0a g0b
  rw [← comb] at e
  rw [hY] at e hr ⊢
  exact div_core hS hy e hr

/-! What is shifted in: 's' leading zeros. -/
theorem shifted {hi lo y s : Nat} (hs : s ≤ 63) (h : hi < y) (hy : y < 2 ^ (64 - s)) (hlo : lo < 18446744073709551616) :
    hi * 2 ^ s < 18446744073709551616 ∧ hi * 2 ^ s + lo / 2 ^ (64 - s) < y * 2 ^ s ∧ y * 2 ^ s < 18446744073709551617 ∧ (hi * 18446744073709551616 + lo) * 2 ^ s = (hi * 2 ^ s + lo / 2 ^ (64 - s)) * 18446744073709551616 + lo * 2 ^ s % 18446744073709551616 ∧ lo / 2 ^ (64 - s) < 2 ^ s := by
  have e64 : (2 : Nat) ^ (64 - s) * 2 ^ s = 18446744073709551616 := by rw [← Nat.pow_add, show 64 - s + s = 64 by omega]
  have hp : 0 < (2 : Nat) ^ s := Nat.two_pow_pos s
  have hp' : 0 < (2 : Nat) ^ (64 - s) := Nat.two_pow_pos _
  generalize (2 : Nat) ^ (64 - s) = T at *
  generalize (2 : Nat) ^ s = S at *
  have hq : lo / T < S := by rw [Nat.div_lt_iff_lt_mul hp', Nat.mul_comm]; omega
  have h1 : (hi + 1) * S ≤ y * S := Nat.mul_le_mul_right _ h
  have h2 : (y + 1) * S ≤ T * S := Nat.mul_le_mul_right _ hy
  rw [Nat.add_mul, Nat.one_mul] at h1 h2
  have hm : lo * S % 18446744073709551616 = lo % T * S := by rw [← e64, Nat.mul_mod_mul_right]
  have hd := Nat.div_add_mod lo T
  refine ⟨by omega, by omega, by omega, ?_, hq⟩
  rw [hm, Nat.add_mul, Nat.add_mul]
  have : lo * S = lo / T * 18446744073709551616 + lo % T * S := by
    conv => lhs; rw [← hd, Nat.add_mul, Nat.mul_comm T, Nat.mul_assoc, e64]
  rw [this, Nat.mul_right_comm]; omega
theorem shifted_high {y s : Nat} (hs : s ≤ 63) (hy : 2 ^ (63 - s) ≤ y) : 9223372036854775808 ≤ y * 2 ^ s := by
  have e : (2 : Nat) ^ (63 - s) * 2 ^ s = 9223372036854775808 := by rw [← Nat.pow_add, show 63 - s + s = 63 by omega]
  have := Nat.mul_le_mul_right (2 ^ s) hy
  omega
theorem or_low {x z s : Nat} (h : z < 2 ^ s) : (x * 2 ^ s) ||| z = x * 2 ^ s + z := by
  rw [Nat.mul_comm, Nat.two_pow_add_eq_or_of_lt h]
end Go.Proofs.YtdhkakjiahkjnaaDoor.Fx
/- Small things that every walk of these statements uses: answers that leave the world as it was but for draws; Go's rest of a division; masks. -/
namespace Go.Proofs.YtdhkakjiahkjnaaDoor
open Go.RowKit Go.Lib Fx
set_option linter.unusedVariables false

theorem ret_i64 {a b : Int} (h : a = b) : Ending.returned (.int .i64 a) = .returned (.int .i64 b) := by rw [h]

theorem ret_two {k : IntKind} {a b c d : Int} (h : a = b) (h' : c = d) : Ending.returned (.tuple #[.int k a, .int k c]) = .returned (.tuple #[.int k b, .int k d]) := by rw [h, h']
/-- The call answers v; the world is as it was, but for draws. -/
def Ans (v : Value) (w : World) (e : Ending) (w' : World) : Prop := e = .returned v ∧ ∃ n, w' = w.drewN n
theorem Ans.here (v : Value) (w : World) : Ans v w (.returned v) w := ⟨rfl, 0, rfl⟩
theorem Ans.draws (v : Value) (w : World) (n : Nat) : Ans v w (.returned v) (w.drewN n) := ⟨rfl, n, rfl⟩
theorem ans_of_same {P : Program} {f : FuncId} {args : Array Value} {w : World} {v : Value} (h : Calls P f args w fun e w' => e = .returned v ∧ w = w') : Calls P f args w (Ans v w) :=
  h.mono fun _ _ ⟨he, hw⟩ => ⟨he, 0, by rw [← hw]; rfl⟩

theorem grown_draws (w : World) (n : Nat) : Grown w (w.drewN n) := Grown.refl w
namespace Fx
/-- Quotient and rest as Go reckons them, of a divisor above 0. -/
theorem trem (a : Int) {b : Int} (hb : 0 < b) : b * a.tdiv b + a.tmod b = a ∧ -b < a.tmod b ∧ a.tmod b < b ∧ (0 ≤ a → 0 ≤ a.tmod b) ∧ (a ≤ 0 → a.tmod b ≤ 0) := by
  have h1 := Int.mul_tdiv_add_tmod a b
  by_cases h : 0 ≤ a
  · have h2 := Int.tmod_eq_emod_of_nonneg (b := b) h
    have h3 := Int.emod_nonneg a (by omega : b ≠ 0)
    have h4 := Int.emod_lt_of_pos a hb
    have h5 : a ≤ 0 → a.tmod b ≤ 0 := fun ha => by obtain rfl : a = 0 := by omega
                                                   simp
    refine ⟨h1, by omega, by omega, fun _ => by omega, h5⟩
  · obtain ⟨c, rfl⟩ : ∃ c, a = -c := ⟨-a, by omega⟩
    have h2 := Int.tmod_eq_emod_of_nonneg (a := c) (b := b) (by omega)
    have h3 := Int.emod_nonneg c (by omega : b ≠ 0)
    have h4 := Int.emod_lt_of_pos c hb
    have h5 : (-c).tmod b = -(c.tmod b) := Int.neg_tmod c b
    refine ⟨h1, by omega, by omega, fun _ => by omega, fun _ => by omega⟩
end Fx

namespace Fx
/-- The lowest digits of a number, as Go masks them. -/
theorem mask_i64 (a : Int) (j : Nat) (hj : j ≤ 62) : bits .and .i64 a ((2 ^ j - 1 : Nat) : Int) = a % ((2 ^ j : Nat) : Int) := by
  have hp : 0 < 2 ^ j := Nat.two_pow_pos j
  have hle : 2 ^ j ≤ 2 ^ 62 := Nat.pow_le_pow_right (by decide) hj
  have e62 : (2 : Nat) ^ 62 = 4611686018427387904 := by decide
  have h1 : (BitVec.ofInt 64 a).toNat = (a % 18446744073709551616).toNat := by rw [BitVec.toNat_ofInt]; rfl
  have h2 : (BitVec.ofInt 64 ((2 ^ j - 1 : Nat) : Int)).toNat = 2 ^ j - 1 := by
    rw [BitVec.ofInt_natCast, BitVec.toNat_ofNat]; exact Nat.mod_eq_of_lt (by omega)
  show IntKind.i64.wrap ((BitVec.ofInt 64 a &&& BitVec.ofInt 64 ((2 ^ j - 1 : Nat) : Int)).toNat : Int) = _
  rw [BitVec.toNat_and, h1, h2, Nat.and_two_pow_sub_one_eq_mod]
  have h3 : ((a % 18446744073709551616).toNat % 2 ^ j : Nat) < 2 ^ j := Nat.mod_lt _ hp
  have h4 : (((a % 18446744073709551616).toNat % 2 ^ j : Nat) : Int) = a % ((2 ^ j : Nat) : Int) := by
    rw [Int.natCast_emod, Int.toNat_of_nonneg (Int.emod_nonneg _ (by decide))]
    exact Int.emod_emod_of_dvd a ⟨((2 ^ (64 - j) : Nat) : Int), by rw [← Int.natCast_mul, ← Nat.pow_add, show j + (64 - j) = 64 by omega]; rfl⟩
  rw [← h4, IntKind.wrap_i64]
  omega
end Fx

/-- The call answers v; of the blocks that there were nothing has turned. -/
def AnsB (v : Value) (w : World) (e : Ending) (w' : World) : Prop := e = .returned v ∧ Below w.heap.size w w'
theorem below_then {a b c : World} (h : Below a.heap.size a b) (k : Below b.heap.size b c) : Below a.heap.size a c := h.trans (k.mono h.size)
theorem below_drewN {B : Nat} {a b : World} (h : Below B a b) (n : Nat) : Below B a (b.drewN n) := h.trans ⟨rfl, rfl, rfl, Nat.le_refl _, fun _ _ => rfl⟩
theorem below_alloc {a b : World} (h : Below a.heap.size a b) (o : Obj) : Below a.heap.size a (b.alloc o) := h.alloc h.size o
theorem Ans.below {v : Value} {w : World} {e : Ending} {w' : World} (h : Ans v w e w') : AnsB v w e w' := by
  obtain ⟨h1, n, rfl⟩ := h
  exact ⟨h1, below_drewN (Below.refl _ _) n⟩

theorem quiet_ans {P : Program} {f : FuncId} {args : Array Value} {w : World} {a n : Nat} {v : Value} (h : ∀ W, Calls P f args W (Ans v W)) :
    Calls P f args (w.drewN (a + n)) fun e w'' => e = .returned v ∧ ∃ m, w'' = w.drewN (a + m) :=
  (h _).mono fun _ _ ⟨he, m, hm⟩ => ⟨he, n + m, by rw [hm, World.drewN_drewN, Nat.add_assoc]⟩
theorem quiet_ans0 {P : Program} {f : FuncId} {args : Array Value} {w : World} {n : Nat} {v : Value} (h : ∀ W, Calls P f args W (Ans v W)) :
    Calls P f args (w.drewN n) fun e w'' => e = .returned v ∧ ∃ m, w'' = w.drewN m :=
  (h _).mono fun _ _ ⟨he, m, hm⟩ => ⟨he, n + m, by rw [hm, World.drewN_drewN]⟩
theorem quiet_ans1 {P : Program} {f : FuncId} {args : Array Value} {w : World} {n : Nat} {v : Value} (h : Calls P f args (w.drewN n) (Ans v (w.drewN n))) :
    Calls P f args (w.drewN n) fun e w'' => e = .returned v ∧ ∃ m, w'' = w.drewN m :=
  h.mono fun _ _ ⟨he, m, hm⟩ => ⟨he, n + m, by rw [hm, World.drewN_drewN]⟩
/-- What a cell held it holds. -/
theorem cell_then {w w' : World} {a : Addr} {v : Value} (hb : Below w.heap.size w w') (h : w.cell? a = some v) : w'.cell? a = some v := by
  rw [hb.cell (World.block_lt_of_cell? w _ h)]; exact h

section
variable {H : Type} {enc : TypeId × Value → H} {P : Program}
open Go.ChangeShapes Go.WideShapes
/-- What the row asks behind the call, where the call lays new blocks and turns none of those that were there. -/
theorem post_of_below {f : Func} {s : ChangeSpec} {apart fresh handsOn : Bool} {W W' : World} {args : Array Value} {v : Value} {ds gs : List (DataW H)} {before pa pv : List MemPlace}
    (hW : DataW.Whole enc P f.params.toList s.vars apart W args.toList ds gs before)
    (hres : ∀ (b : Nat) (sp : Nat → Bool) (hd : Bool), DataW.TrodAll enc P W' b sp hd f.resultTypes.toList (v.resultList f.resultTypes.size) (s.fn H (ds ++ gs)).results [])
    (hargs : ∀ sp : Nat → Bool, (∀ p ∈ before, sp p.block = true) → DataW.TrodAll enc P W' 0 sp true f.params.toList args.toList (s.fn H (ds ++ gs)).args pa)
    (hvars : ∀ sp : Nat → Bool, (∀ p ∈ before, sp p.block = true) → DataW.TrodVars enc P W' sp s.vars (s.fn H (ds ++ gs)).vars pv)
    (hps : before = pa ++ pv) (hb : Below W.heap.size W W') :
    s.post enc P f apart fresh handsOn false W args v W' := by
  have hold : ∀ p ∈ before, (fun b => decide (b < W.heap.size)) p.block = true := fun p hp => by simpa using hW.lt p hp
  refine ⟨ds, gs, before, [], pa, pv, hW, hres _ _ _, hargs _ hold, hvars _ hold, World.keptBut_mono (fun p hp => ⟨hp, ?_⟩) (hb.frame (· ∈ before)), fun h => by cases h⟩
  rw [hps, List.mem_append] at hp
  exact Or.inr hp
end
end Go.Proofs.YtdhkakjiahkjnaaDoor
/- Append to a row that the call owns: where the new row lies (where the old one lay, or in a new block), for walks that own more than one row. -/
namespace Go.Proofs.YtdhkakjiahkjnaaDoor
open Go.RowKit Go.Lib
set_option linter.unusedVariables false

theorem append_where {P : Program} {w : World} (base : Nat) (t ty e : TypeId) (i : TypeInfo) (z : Value) (size bytes : Nat) (ht : P.underlying t = some (.slice e)) (hi : P.info? e = some i) (hz : i.zero = some z)
    (hsize : i.size = size) (hby : i.bytes = bytes) (hzs : z.cells.size = size) (hsz : 0 < size)
    (v : Value) (n : Nat) (xs : List Value) (hown : w.ownsRow base e size v n xs)
    (a : Addr) (m c : Nat) (news : List Value) (hl : news.length = m * size) (hnews : ∀ j u, news[j]? = some u → w.cell? (a.add j) = some u) (h1 : ∀ u ∈ news, u.oneCell' = true)
    (h63 : n + m ≤ maxLen) (hbytes : (n + m) * bytes ≤ 140737488355328) (hm : 0 < m) {v' : Value} {w' : World}
    (hr : (Builtin.append_ #[t, t] ty #[v, .slice (some a) m c]).run P w = .ok v' w') : v'.ownBlock = v.ownBlock ∨ v'.ownBlock = some w.heap.size := by
  subst hsize
  subst hby
  have hsmall : n + m ≤ 9223372036854775807 := by simp only [maxLen] at h63; omega
  rcases hown.2 with ⟨rfl, rfl⟩ | ⟨g, cap, cur, rfl, hbg, hg, hnc, hcm, hcs, htake⟩
  · have hr2 := run_append_nil (P := P) w t ty e i z ht hi hz a m c news hl hnews (by omega) (by omega) (by have hb := hbytes; simp only [Nat.zero_add] at hb; omega)
    rw [hr2] at hr
    cases hr
    exact Or.inr rfl
  · by_cases hroom : n + m ≤ cap
    · have hfit : n * i.size + news.length ≤ cur.size := by rw [hl, hcs, ← Nat.add_mul]; exact Nat.mul_le_mul_right _ hroom
      have hr2 := run_append_room (P := P) w t ty e i ht hi g n cap cur hg a m c news hl hnews h1 hroom hfit
      rw [hr2] at hr
      cases hr
      exact Or.inl rfl
    · have holds : ∀ j u, xs[j]? = some u → w.cell? ((⟨g, 0, none⟩ : Addr).add j) = some u := hown.cells (g := g) rfl
      have hr2 := run_append_grow (P := P) w t ty e i z ht hi hz ⟨g, 0, none⟩ n cap xs hown.1 holds a m c news hl hnews (by omega) (by omega) (growslice_fits (by omega) hbytes)
      rw [hr2] at hr
      cases hr
      exact Or.inr rfl
theorem wp_append_apart {P : Program} {w : World} {o : Oper} {a : Act} {K : Act → World → Prop} {Q : Exit → Act → World → Prop} (s x : Operand) (t : TypeId)
    (ho : o.op = .call { callee := .builtin .append, args := #[s, x], argTypes := #[t, t] })
    (base : Nat) (e : TypeId) (i : TypeInfo) (z : Value) (size bytes : Nat) (ht : P.underlying t = some (.slice e)) (hi : P.info? e = some i) (hz : i.zero = some z)
    (hsize : i.size = size) (hby : i.bytes = bytes) (hzs : z.cells.size = size) (hsz : 0 < size)
    (v : Value) (n : Nat) (xs : List Value) (hs : a.eval s = v) (hown : w.ownsRow base e size v n xs)
    (ad : Addr) (m c : Nat) (news : List Value) (hx : a.eval x = .slice (some ad) m c) (hl : news.length = m * size) (hnews : ∀ j u, news[j]? = some u → w.cell? (ad.add j) = some u) (h1 : ∀ u ∈ news, u.oneCell' = true)
    (h63 : n + m ≤ maxLen) (hbytes : (n + m) * bytes ≤ 140737488355328) (hbase : base ≤ w.heap.size) (hm : 0 < m)
    (h : ∀ v' w', w'.ownsRow base e size v' (n + m) (xs ++ news) → w.grownBy w' v.ownBlock → (v'.ownBlock = v.ownBlock ∨ v'.ownBlock = some w.heap.size) → K (a.put o.dst v') w') : o.wp P a w K Q := by
  obtain ⟨v', w', hr, h2, h3, h4⟩ := run_append_own (P := P) w base t o.type e i z size bytes ht hi hz hsize hby hzs hsz v n xs hown ad m c news hl hnews h1 h63 hbytes hbase
  have h5 := append_where base t o.type e i z size bytes ht hi hz hsize hby hzs hsz v n xs hown ad m c news hl hnews h1 h63 hbytes hm hr
  unfold Oper.wp execOp
  simp only [ho, resolve, invoke, builtin, Sem.run_bind, Sem.run_pure, Result.andThen_ok, List.map_toArray, List.map_cons, List.map_nil, hs, hx, hr]
  exact h v' w' h2 h3 h5
theorem wpList_append_apart {P : Program} {w : World} {ops : Array Oper} {rest : List Oper} {o : Oper} {a : Act} {Q : Exit → Act → World → Prop} (hgd : o.guard = none) (s x : Operand) (t : TypeId)
    (ho : o.op = .call { callee := .builtin .append, args := #[s, x], argTypes := #[t, t] })
    (base : Nat) (e : TypeId) (i : TypeInfo) (z : Value) (size bytes : Nat) (ht : P.underlying t = some (.slice e)) (hi : P.info? e = some i) (hz : i.zero = some z)
    (hsize : i.size = size) (hby : i.bytes = bytes) (hzs : z.cells.size = size) (hsz : 0 < size)
    (v : Value) (n : Nat) (xs : List Value) (hs : a.eval s = v) (hown : w.ownsRow base e size v n xs)
    (ad : Addr) (m c : Nat) (news : List Value) (hx : a.eval x = .slice (some ad) m c) (hl : news.length = m * size) (hnews : ∀ j u, news[j]? = some u → w.cell? (ad.add j) = some u) (h1 : ∀ u ∈ news, u.oneCell' = true)
    (h63 : n + m ≤ maxLen) (hbytes : (n + m) * bytes ≤ 140737488355328) (hbase : base ≤ w.heap.size) (hm : 0 < m)
    (h : ∀ v' w', w'.ownsRow base e size v' (n + m) (xs ++ news) → w.grownBy w' v.ownBlock → (v'.ownBlock = v.ownBlock ∨ v'.ownBlock = some w.heap.size) → wpList P ops Q rest (a.put o.dst v') w') : wpList P ops Q (o :: rest) a w :=
  wpList_plain hgd fun _ hK => wp_append_apart s x t ho base e i z size bytes ht hi hz hsize hby hzs hsz v n xs hs hown ad m c news hx hl hnews h1 h63 hbytes hbase hm fun v' w' h2 h3 h4 => hK _ _ (h v' w' h2 h3 h4)
end Go.Proofs.YtdhkakjiahkjnaaDoor
/- What a call may turn: the blocks of a home, and new ones; rows of whole numbers that lie apart from it; the document's own comparison of two answers that hold the same. -/
namespace Go.Proofs.YtdhkakjiahkjnaaDoor
open Go.ChangeShapes Go.WideShapes Go.WideElems Go.RowKit Go.Lib Fx
set_option linter.unusedVariables false

namespace Ho
/-- The call answers v, and leaves the world as it was. -/
def Still (v : Value) (w : World) (e : Ending) (w' : World) : Prop := e = .returned v ∧ w = w'
/-- Blocks that an object owns. -/
abbrev Home := Nat → Prop
/-- Outside the home H nothing of what there was has turned; the home is H' now, which is of H's blocks and new ones. -/
structure Wrote (H : Home) (w : World) (H' : Home) (w' : World) : Prop where
  os : w'.os = w.os
  tape : w'.tape = w.tape
  output : w'.output = w.output
  size : w.heap.size ≤ w'.heap.size
  block : ∀ k, k < w.heap.size → ¬ H k → w'.heap[k]? = w.heap[k]?
  home : ∀ k, H' k → H k ∨ w.heap.size ≤ k
def Low (lo : Nat) (H : Home) : Prop := ∀ k, H k → lo ≤ k
/-- Nothing of it lies in H. -/
def Off (S H : Home) : Prop := ∀ k, S k → H k → False
variable {H H' H2 S : Home} {a b c w w' : World} {lo : Nat}
theorem Wrote.refl (H : Home) (w : World) : Wrote H w H w := ⟨rfl, rfl, rfl, Nat.le_refl _, fun _ _ _ => rfl, fun _ h => Or.inl h⟩
theorem Wrote.trans (h : Wrote H a H' b) (k : Wrote H' b H2 c) : Wrote H a H2 c :=
  ⟨k.os.trans h.os, k.tape.trans h.tape, k.output.trans h.output, Nat.le_trans h.size k.size,
   fun i hi ho => (k.block i (Nat.lt_of_lt_of_le hi h.size) (fun h' => (h.home i h').elim ho (fun h2 => by omega))).trans (h.block i hi ho),
   fun i hi => (k.home i hi).elim (fun h' => h.home i h') (fun h2 => Or.inr (Nat.le_trans h.size h2))⟩
theorem Wrote.same (h : Wrote H a H' b) (hs : ∀ k, H2 k → H' k) : Wrote H a H2 b := ⟨h.os, h.tape, h.output, h.size, h.block, fun k hk => h.home k (hs k hk)⟩
theorem Wrote.of_below (h : Below a.heap.size a b) : Wrote H a H b := ⟨h.os, h.tape, h.output, h.size, fun k hk _ => h.block k hk, fun _ h => Or.inl h⟩
/-- What is made is a home of new blocks. -/
theorem Wrote.of_made (h : Below a.heap.size a b) (hl : Low a.heap.size H') : Wrote H a H' b := ⟨h.os, h.tape, h.output, h.size, fun k hk _ => h.block k hk, fun k hk => Or.inr (hl k hk)⟩
theorem Wrote.drewN (h : Wrote H a H' b) (n : Nat) : Wrote H a H' (b.drewN n) := h.trans ⟨rfl, rfl, rfl, Nat.le_refl _, fun _ _ _ => rfl, fun _ h => Or.inl h⟩
theorem Wrote.of_grown {row : Option Nat} (hg : a.grownBy b row) (hr : ∀ k, row = some k → H k) : Wrote H a H b :=
  ⟨hg.os, hg.tape, hg.output, hg.size, fun k hk ho => hg.block k hk (fun e => ho (hr k e.symm)), fun _ h => Or.inl h⟩
theorem Wrote.low (h : Wrote H a H' b) (hl : Low lo H) (hs : lo ≤ a.heap.size) : Low lo H' := fun k hk => (h.home k hk).elim (hl k) (fun h2 => Nat.le_trans hs h2)
theorem Wrote.below {W : World} (h : Wrote H a H' b) (hl : Low W.heap.size H) (hb : Below W.heap.size W a) : Below W.heap.size W b :=
  ⟨h.os.trans hb.os, h.tape.trans hb.tape, h.output.trans hb.output, Nat.le_trans hb.size h.size, fun k hk => (h.block k (Nat.lt_of_lt_of_le hk hb.size) (fun h' => by have := hl k h'; omega)).trans (hb.block k hk)⟩
theorem Wrote.cell {p : Addr} {v : Value} (h : Wrote H a H' b) (hc : a.cell? p = some v) (ho : ¬ H p.block) : b.cell? p = some v := by
  rw [World.cell?_of_block (h.block p.block (World.block_lt_of_cell? a _ hc) ho)]; exact hc
/-- A home apart from the one that was written, all of it there before, stays apart. -/
theorem Wrote.off (h : Wrote H a H' b) (ho : Off S H) (hs : ∀ k, S k → k < a.heap.size) : Off S H' := fun k hk h' => (h.home k h').elim (ho k hk) (fun h2 => by have := hs k hk; omega)
theorem low_off {S : Home} (hl : Low lo H) (hs : ∀ k, S k → k < lo) : Off S H := fun k hk h => by have := hl k h; have := hs k hk; omega
theorem block_lt {W : World} {p : Nat} {o : Obj} (h : W.heap[p]? = some o) : p < W.heap.size := by
  rcases Nat.lt_or_ge p W.heap.size with h' | h'
  · exact h'
  · rw [Array.getElem?_eq_none h'] at h; cases h
theorem addr_add (b off j : Nat) : (⟨b, off, none⟩ : Addr).add j = ⟨b, off + j, none⟩ := by
  unfold Addr.add
  by_cases h : j = 0
  · rw [if_pos h, h]; rfl
  · rw [if_neg h]

theorem wpList_built {P : Program} {ops : Array Oper} {rest : List Oper} {o : Oper} {a : Act} {w : World} {Q : Exit → Act → World → Prop} (hg : o.guard = none) (t : TypeId) (parts : Array (Nat × Operand)) (ho : o.op = .build t parts)
    (cs : Array Value) (hc : P.built t (parts.map fun (i, x) => (i, a.eval x)).toList = some cs) (h : wpList P ops Q rest (a.put o.dst (.agg cs)) w) : wpList P ops Q (o :: rest) a w :=
  wpList_build hg t parts ho (by rw [hc]; rfl) (by rw [hc]; exact h)

theorem below_setRow {B : Nat} {a w : World} (h : Below B a w) {g : Nat} (hg : B ≤ g) (cs : Array Value) : Below B a (w.setRow g cs) :=
  h.trans ⟨rfl, rfl, rfl, by simp, fun k hk => setRow_other w g k cs (by omega)⟩

/-- Whole numbers as the cells of a slice. -/
def cells (zs : List Int) : List Value := zs.map (Value.int .i64)
theorem cells_app (A B : List Int) : cells (A ++ B) = cells A ++ cells B := List.map_append
theorem cells_len (A : List Int) : (cells A).length = A.length := List.length_map ..
theorem cells_one (zs : List Int) : ∀ u ∈ cells zs, u.oneCell' = true := ints_oneCell .i64 zs

theorem cell_of {W : World} {N j : Nat} {A : Array Value} {x : Value} {t : TypeId} {q : Nat × Nat} (h : W.heap[N]? = some (.cells A t q)) (hj : A[j]? = some x) : W.cell? ⟨N, j, none⟩ = some x := by
  unfold World.cell?
  show (match W.heap[N]? with | some (.cells c _ _) => _ | _ => _) = _
  rw [h]; exact hj
theorem news_one (w : World) (x : Value) (t : TypeId) : ∀ j u, ([x] : List Value)[j]? = some u → (w.alloc (.cells #[x] t)).cell? ((⟨w.heap.size, 0, none⟩ : Addr).add j) = some u := fun j u hj => by
  cases j with
  | zero =>
    simp at hj
    subst hj
    exact cell_of (heap_alloc_new _ _) rfl
  | succ j => simp at hj
theorem own_slice {base n size : Nat} {e : TypeId} {v : Value} {xs : List Value} (h : w.ownsRow base e size v n xs) : ∃ sp cap, v = .slice sp n cap := by
  rcases h.2 with ⟨rfl, rfl⟩ | ⟨g, cap, cur, rfl, _⟩
  · exact ⟨none, 0, rfl⟩
  · exact ⟨_, cap, rfl⟩
/-- A row that is owned, one of its places asked: where it lies. -/
theorem own_at {base n : Nat} {e : TypeId} {v : Value} {zs : List Int} (h : w.ownsRow base e 1 v n (cells zs)) {i : Nat} (hi : i < n) :
    ∃ g cap, v = .slice (some ⟨g, 0, none⟩) n cap ∧ n ≤ cap ∧ g < w.heap.size ∧ w.cell? ⟨g, i, none⟩ = some (.int .i64 (zs.getD i 0)) ∧ w.frozen? ⟨g, i, none⟩ = false := by
  have hl : zs.length = n := by have := h.1; rw [cells_len] at this; omega
  rcases h.2 with ⟨rfl, rfl⟩ | ⟨g, cap, cur, rfl, h1, h2, h3, h4, _⟩
  · omega
  · refine ⟨g, cap, rfl, h3, block_lt h2, ?_, h.frozenAt i⟩
    rw [h.cellAt i (by omega)]
    unfold cells
    rw [List.getElem?_map, List.getD_eq_getElem?_getD, List.getElem?_eq_getElem (by omega)]; rfl
theorem cells_set (zs : List Int) (i : Nat) (x : Int) : (cells zs).set i (.int .i64 x) = cells (zs.set i x) := by unfold cells; rw [List.map_set]
theorem wrote_setCell {H : Home} {w W : World} {a : Addr} {u : Value} (hh : W.heap = (w.setCell a u).heap) (ho : W.os = w.os) (ht : W.tape = w.tape) (hu : W.output = w.output) (ha : H a.block) : Wrote H w H W :=
  ⟨ho, ht, hu, by rw [hh]; simp [World.setCell], fun k _ hk => by rw [hh]; exact Below.heap_setCell _ _ _ _ (fun e => hk (e ▸ ha)), fun _ h => Or.inl h⟩

/-- The slice v holds the numbers zs, in a block of S (where it holds any). -/
def Ints (w : World) (S : Home) (v : Value) (zs : List Int) : Prop :=
  ∃ sp cap, v = .slice sp zs.length cap ∧ zs.length ≤ 9223372036854775807 ∧ ∀ i, i < zs.length → ∃ b off, sp = some ⟨b, off, none⟩ ∧ S b ∧ b < w.heap.size ∧ w.cell? ⟨b, off + i, none⟩ = some (.int .i64 (zs.getD i 0))
theorem Ints.wider {v : Value} {zs : List Int} {S' : Home} (h : Ints w S v zs) (hs : ∀ k, S k → k < w.heap.size → S' k) : Ints w S' v zs := by
  obtain ⟨sp, cap, e, h1, h2⟩ := h
  refine ⟨sp, cap, e, h1, fun i hi => ?_⟩
  obtain ⟨b, off, e2, h3, h4, h5⟩ := h2 i hi
  exact ⟨b, off, e2, hs b h3 h4, h4, h5⟩
theorem Ints.wrote {v : Value} {zs : List Int} (h : Ints a S v zs) (ht : Wrote H a H' b) (ho : Off S H) : Ints b S v zs := by
  obtain ⟨sp, cap, e, h1, h2⟩ := h
  refine ⟨sp, cap, e, h1, fun i hi => ?_⟩
  obtain ⟨b, off, e2, h3, h4, h5⟩ := h2 i hi
  exact ⟨b, off, e2, h3, Nat.lt_of_lt_of_le h4 ht.size, ht.cell h5 (fun h' => ho b h3 h')⟩
theorem Ints.below {v : Value} {zs : List Int} (h : Ints a S v zs) (hb : Below a.heap.size a b) : Ints b S v zs :=
  h.wrote (H := fun _ => False) (Wrote.of_below hb) (fun _ _ h => h)
theorem ints_nil (w : World) (S : Home) : Ints w S (.slice none 0 0) [] := ⟨none, 0, rfl, by simp, fun i hi => by simp at hi⟩
theorem ints_of_owns {base n : Nat} {v : Value} {zs : List Int} (h : w.ownsRow base 3 1 v n (cells zs)) : Ints w (fun k => v.ownBlock = some k) v zs := by
  have hn : zs.length = n := by have := h.1; rw [cells_len] at this; omega
  have h0 := h
  rcases h.2 with ⟨rfl, h2⟩ | ⟨g, cap, cur, rfl, h1, h2, h3, h4, _⟩
  · obtain rfl : zs = [] := List.eq_nil_of_length_eq_zero (by omega)
    exact ints_nil _ _
  · refine ⟨_, cap, by rw [hn], by unfold maxLen at h4; omega, fun i hi => ⟨g, 0, rfl, rfl, block_lt h2, ?_⟩⟩
    have e := h0.cells (g := g) rfl i (.int .i64 (zs.getD i 0)) (by
      unfold cells
      rw [List.getElem?_map, List.getD_eq_getElem?_getD, List.getElem?_eq_getElem hi]; rfl)
    rwa [addr_add] at e

/-- The slice v, an argument, holds the numbers zs. -/
def Arg (w : World) (v : Value) (zs : List Int) : Prop := Ints w (fun k => k < w.heap.size) v zs ∧ ∀ z ∈ zs, (Lit.int .i64 z).wf = true
section
variable {E : Type} {enc : TypeId × Value → E}
set_option maxRecDepth 100000 in
theorem arg_ints {W : World} {base : Nat} {v : Value} {d : DataW E} {p : List MemPlace} (hval : Value.okWide Tryd.prog W .any base 23 v) (h : DataW.Trod enc Tryd.prog W 0 (fun _ => true) true 23 v d p) : ∃ zs, Ints W (fun k => k < W.heap.size) v zs := by
  obtain ⟨a0, len, cap, rfl⟩ := okWide_slice Tryd.underlying23 hval
  obtain ⟨fuel, hf⟩ := h
  rcases open_ints Tryd.underlying23 Tryd.underlying3 (by kernel_rfl) hf with ⟨hcs, _⟩ | ⟨a, len', cap', zs, hcs, _, hl, hm, hz, _, hcell, _⟩
  · simp [Value.cells] at hcs
    obtain ⟨rfl, rfl, rfl⟩ := hcs
    exact ⟨[], none, 0, rfl, by simp, fun i hi => by simp at hi⟩
  · simp [Value.cells] at hcs
    obtain ⟨rfl, rfl, rfl⟩ := hcs
    simp only [if_true] at hz
    by_cases h0 : len = 0
    · subst h0; exact ⟨[], some a, cap, rfl, by simp, fun i hi => by simp at hi⟩
    · obtain ⟨b, off, spot⟩ := a
      have hspot : spot = none := by simpa [Addr.add] using World.cell?_spot (hcell 0 (by omega))
      subst hspot
      have hlen : (zs.take len).length = len := by rw [List.length_take]; omega
      have hb := World.block_lt_of_cell? W _ (hcell 0 (by omega))
      refine ⟨zs.take len, some ⟨b, off, none⟩, cap, by rw [hlen], by rw [hlen]; unfold maxLen at hm; omega, fun i hi => ⟨b, off, rfl, hb, hb, ?_⟩⟩
      rw [hlen] at hi
      rw [← addr_add, hcell i (by omega)]
      simp [List.getD, hi]
/-- What the row asks behind the call, the arguments read again by what they read as before. -/
theorem post_of_kept {P : Program} {f : Func} {s : ChangeSpec} {apart fresh handsOn : Bool} {W W' : World} {args : Array Value} {v : Value} {ds gs : List (DataW E)} {before pa pv : List MemPlace}
    (hW : DataW.Whole enc P f.params.toList s.vars apart W args.toList ds gs before)
    (hres : ∀ (b : Nat) (sp : Nat → Bool) (hd : Bool), DataW.TrodAll enc P W' b sp hd f.resultTypes.toList (v.resultList f.resultTypes.size) (s.fn E (ds ++ gs)).results [])
    (hargs : DataW.TrodAll enc P W' 0 (fun b => decide (b < W.heap.size)) true f.params.toList args.toList (s.fn E (ds ++ gs)).args pa)
    (hvars : ∀ sp : Nat → Bool, (∀ p ∈ before, sp p.block = true) → DataW.TrodVars enc P W' sp s.vars (s.fn E (ds ++ gs)).vars pv)
    (hps : before = pa ++ pv) (hb : Below W.heap.size W W') :
    s.post enc P f apart fresh handsOn false W args v W' := by
  have hold : ∀ p ∈ before, (fun b => decide (b < W.heap.size)) p.block = true := fun p hp => by simpa using hW.lt p hp
  refine ⟨ds, gs, before, [], pa, pv, hW, hres _ _ _, hargs, hvars _ hold, World.keptBut_mono (fun p hp => ⟨hp, ?_⟩) (hb.frame (· ∈ before)), fun h => by cases h⟩
  rw [hps, List.mem_append] at hp
  exact Or.inr hp
end
theorem laidOut : laidOutB Tryd.prog = true := by kernel_rfl
theorem infoI : (Tryd.prog.info? 3).map (fun i => (i.zero, i.size, i.bytes)) = some (some (.int .i64 0), 1, 8) := by kernel_rfl
end Ho
end Go.Proofs.YtdhkakjiahkjnaaDoor
/- Rows of any elements: a slice that holds n elements of s cells each, somewhere in a block of its own, its room within it; what append, re-slicing and storing make of it. -/
namespace Go.Proofs.YtdhkakjiahkjnaaDoor
open Go.RowKit Go.Lib Fx Ho
set_option linter.unusedVariables false
namespace Gr
/-- The slice v holds n elements, whose cells are xs, s each. -/
def GRow (s : Nat) (w : World) (v : Value) (n : Nat) (xs : List Value) : Prop :=
  ∃ ao b off cap, v = .slice ao n cap ∧ Came w s ao b off n cap xs ∧ (cap ≤ maxLen ∧ ∀ j, j < cap * s → w.frozen? ⟨b, off + j, none⟩ = false) ∧ (ao = some ⟨b, off, none⟩ ∧ b < w.heap.size ∨ ao = none ∧ cap = 0)
/-- A slice type T of elements E: how many cells, how many bytes, what a zero is. -/
structure Elt (P : Program) (T E : TypeId) (s bytes : Nat) (z : Value) : Prop where
  ty : P.underlying T = some (.slice E)
  info : (P.info? E).map (fun i => (i.zero, i.size, i.bytes)) = some (some z, s, bytes)
  size : z.cells.size = s
  pos : 0 < s
  small : bytes ≤ 10000
variable {w w' : World} {p : Nat} {v : Value} {s n m : Nat} {xs ys : List Value} {H H' : Home} {P : Program} {T E : TypeId} {bytes : Nat} {z : Value}
theorem grow_nil (s : Nat) (w : World) : GRow s w (.slice none 0 0) 0 [] := ⟨none, 0, 0, 0, rfl, ⟨by decide, fun h => (by omega), fun h => (by omega), by simp, fun j u h => (by simp at h), fun j h => (by omega)⟩, ⟨by decide, fun j h => by omega⟩, .inr ⟨rfl, rfl⟩⟩
theorem GRow.len (h : GRow s w v n xs) : xs.length = n * s := by obtain ⟨ao, b, off, cap, rfl, hc, _⟩ := h; exact hc.oldsLen
theorem GRow.slice (h : GRow s w v n xs) : ∃ sp cap, v = .slice sp n cap := by
  obtain ⟨ao, b, off, cap, rfl, _⟩ := h
  exact ⟨_, _, rfl⟩
theorem GRow.wrote (h : GRow s w v n xs) (ht : Wrote H w H' w') (ho : ∀ k, v.ownBlock = some k → ¬ H k) : GRow s w' v n xs := by
  obtain ⟨ao, b, off, cap, rfl, hc, hm, hxx⟩ := h
  have hb : 0 < cap → w'.heap[b]? = w.heap[b]? := fun h0 => by
    have ha := hc.addr h0
    subst ha
    exact ht.block b (hc.lt h0) (ho b rfl)
  refine ⟨ao, b, off, cap, rfl, ⟨hc.le, hc.addr, fun h0 => Nat.lt_of_lt_of_le (hc.lt h0) ht.size, hc.oldsLen, fun j u hj => ?_, fun j hj => ?_⟩, ⟨hm.1, fun j hj => ?_⟩, hxx.imp (fun e => ⟨e.1, Nat.lt_of_lt_of_le e.2 ht.size⟩) id⟩
  · have hl := (List.getElem?_eq_some_iff.1 hj).1
    rw [hc.oldsLen] at hl
    have hle := hc.le
    have h0 : 0 < cap := by
      rcases Nat.eq_zero_or_pos cap with h0 | h0
      · have : n = 0 := by omega
        rw [this] at hl; simp at hl
      · exact h0
    rw [World.cell?_of_block (a := ⟨b, off + j, none⟩) (hb h0)]
    exact hc.olds j u hj
  · have h0 : 0 < cap := by
      rcases Nat.eq_zero_or_pos cap with h0 | h0
      · rw [h0] at hj; simp at hj
      · exact h0
    rw [World.cell?_of_block (a := ⟨b, off + n * s + j, none⟩) (hb h0), World.frozen?_of_block (a := ⟨b, off + n * s + j, none⟩) (hb h0)]
    exact hc.spare j hj
  · have h0 : 0 < cap := by
      rcases Nat.eq_zero_or_pos cap with h0 | h0
      · rw [h0] at hj; simp at hj
      · exact h0
    rw [World.frozen?_of_block (a := ⟨b, off + j, none⟩) (hb h0)]; exact hm.2 j hj
theorem GRow.below (h : GRow s w v n xs) (hb : Below w.heap.size w w') : GRow s w' v n xs := h.wrote (H := fun _ => False) (Wrote.of_below hb) (fun _ _ h => h)
theorem GRow.lt {k : Nat} (h : GRow s w v n xs) (hk : v.ownBlock = some k) : k < w.heap.size := by
  obtain ⟨ao, b, off, cap, rfl, hc, hm, hxx⟩ := h
  rcases hxx with ⟨rfl, hb⟩ | ⟨rfl, _⟩
  · obtain rfl : b = k := Option.some.inj hk
    exact hb
  · cases hk
/-- Where the elements lie: each cell, and that it may be written. -/
theorem GRow.cell (h : GRow s w v n xs) : ∃ ao b off cap, v = .slice ao n cap ∧ n ≤ cap ∧ cap ≤ maxLen ∧ (0 < cap → ao = some ⟨b, off, none⟩ ∧ b < w.heap.size ∧ v.ownBlock = some b) ∧ ∀ j u, xs[j]? = some u → w.cell? ⟨b, off + j, none⟩ = some u ∧ w.frozen? ⟨b, off + j, none⟩ = false := by
  obtain ⟨ao, b, off, cap, rfl, hc, hm, hxx⟩ := h
  refine ⟨ao, b, off, cap, rfl, hc.le, hm.1, fun h0 => ⟨hc.addr h0, hc.lt h0, by rw [hc.addr h0]; rfl⟩, fun j u hj => ⟨hc.olds j u hj, hm.2 j ?_⟩⟩
  have hl := (List.getElem?_eq_some_iff.1 hj).1
  rw [hc.oldsLen] at hl
  exact Nat.lt_of_lt_of_le hl (Nat.mul_le_mul_right _ hc.le)
theorem tape_setCells (b : Nat) : ∀ (vs : List Value) (o : Nat) (w : World), (w.setCells b o vs).tape = w.tape
  | [], _, _ => rfl
  | v :: r, o, w => by rw [World.setCells, tape_setCells b r]; simp
/-- Some elements more. -/
theorem append_g (el : Elt P T E s bytes z) (h : GRow s w v n xs) {tx ty : TypeId} (x : Value) (hs : Src P s tx x m ys w) (hn : n + m ≤ 1000000) :
    ∃ v' w', (Builtin.append_ #[T, tx] ty #[v, x]).run P w = .ok v' w' ∧ GRow s w' v' (n + m) (xs ++ ys) ∧ Wrote (fun k => v.ownBlock = some k) w (fun k => v'.ownBlock = some k) w' := by
  obtain ⟨i0, hi, hz0, hz1, hz2⟩ := info_parts el.info
  obtain ⟨ao, b, off, cap, rfl, hc, hm, hxx⟩ := h
  have hmx : (1000000 : Nat) ≤ maxLen := by unfold maxLen; omega
  have hby : (n + 0 + m) * bytes ≤ 140737488355328 := Nat.le_trans (Nat.mul_le_mul (by omega : n + 0 + m ≤ 1000000) el.small) (by omega)
  have hby2 : (n + m) * bytes ≤ 140737488355328 := by rw [Nat.add_zero] at hby; exact hby
  obtain ⟨v', w', hr, hu⟩ := run_append_upon (P := P) hc T tx ty i0 z bytes el.ty hi hz0 hz1 hz2 el.size (Upon.start (e := E) hc) x m ys hs (by omega) hby
  have htape : w'.tape = w.tape := by
    by_cases hfit : n + m ≤ cap
    · rcases Nat.eq_zero_or_pos cap with h0 | hcap
      · have h1 : m = 0 := by omega
        subst h1
        have h2 : ys = [] := List.eq_nil_of_length_eq_zero (by have := hs.newsLen; simpa using this)
        subst h2
        have := run_append_nothing (P := P) w T tx ty E i0 el.ty hi ao n cap hc.le x (by rw [hz1]; exact hs)
        rw [this] at hr
        cases hr; rfl
      · have ha := hc.addr hcap
        subst ha
        have hyl := hs.newsLen
        have hroom : ys.length ≤ (cap - n) * s := by rw [hyl]; exact Nat.mul_le_mul_right _ (by omega)
        have := run_append_room_src (P := P) w T tx ty E i0 el.ty hi b off n cap x m ys (by rw [hz1]; exact hs) hfit
          (fun j hj => by rw [hz1]; exact (hc.spare j (by omega)).1) (fun j hj => by rw [hz1]; exact (hc.spare j (by omega)).2)
        rw [this] at hr
        cases hr
        exact tape_setCells _ _ _ _
    · have := run_append_grow_src (P := P) w T tx ty E i0 z el.ty hi hz0 ao n cap xs (by
          rw [hz1]
          rcases Nat.eq_zero_or_pos cap with h0 | hcap
          · have h1 : n = 0 := by have := hc.le; omega
            subst h1
            have h2 : xs = [] := List.eq_nil_of_length_eq_zero (by have := hc.oldsLen; simpa using this)
            subst h2
            cases ao with
            | none => exact run_firstCells_none w.drew s 0 0 cap
            | some a' => exact run_firstCells_some w.drew s 0 a' 0 cap [] (by simp) (by intro _ _ h'; simp at h')
          · rw [hc.addr hcap]
            refine run_firstCells_some w.drew s n ⟨b, off, none⟩ n cap xs hc.oldsLen (fun j u hj => ?_)
            rw [addr_add]
            exact hc.olds j u hj) x m ys (by rw [hz1]; exact hs) (by omega) (by omega) (growslice_fits (by omega) (by rw [hz2]; exact hby2))
      rw [this] at hr
      cases hr; rfl
  have hsz := hu.kept.size
  have hcl : (xs ++ ([] ++ ys)) = xs ++ ys := by simp
  have hxl := hc.oldsLen
  have hyl := hs.newsLen
  have hcn : (xs ++ ys).length = (n + m) * s := by rw [List.length_append, hxl, hyl, Nat.add_mul]
  refine ⟨v', w', hr, ?_, ⟨hu.kept.1, htape, hu.kept.2.1, hsz, fun k hk hno => ?_, fun k hk => ?_⟩⟩
  · rcases hu.val with ⟨hle, rfl, hq⟩ | ⟨hgt, g, c', rfl, ho⟩
    · have hns : n * s + m * s ≤ cap * s := by rw [← Nat.add_mul]; exact Nat.mul_le_mul_right _ (by omega)
      have hq2 : (0 : Nat) + m = m := by omega
      refine ⟨ao, b, off, cap, by rw [hq2], ⟨by omega, hc.addr, fun h0 => Nat.lt_of_lt_of_le (hc.lt h0) hsz, by rw [hcn], fun j u hj => ?_, fun j hj => ?_⟩, ⟨hm.1, fun j hj => ?_⟩, hxx.imp (fun e => ⟨e.1, Nat.lt_of_lt_of_le e.2 hsz⟩) id⟩
      · have hl := (List.getElem?_eq_some_iff.1 hj).1
        rw [hcn] at hl
        have h0 : 0 < cap := by
          rcases Nat.eq_zero_or_pos cap with h0 | h0
          · have : n + m = 0 := by omega
            rw [this] at hl; simp at hl
          · exact h0
        rw [hu.inArray hc h0 hq j (by rw [hq2]; exact hl), hcl]
        exact hj
      · have h0 : 0 < cap := by
          rcases Nat.eq_zero_or_pos cap with h0 | h0
          · rw [h0] at hj; simp at hj
          · exact h0
        have hjs : (cap - (n + m)) * s = cap * s - (n + m) * s := Nat.sub_mul ..
        have hjs2 : (cap - n) * s = cap * s - n * s := Nat.sub_mul ..
        rw [Nat.add_mul] at hjs
        have e1 : off + (n + m) * s + j = off + n * s + (ys.length + j) := by rw [Nat.add_mul, hyl]; omega
        rw [e1, hu.old (hc.lt h0) (fun j' h1 ⟨_, h2⟩ => by rw [hq] at h1; simp only [List.nil_append] at h1; omega), hu.frozen ⟨b, _, none⟩ (hc.lt h0)]
        exact hc.spare _ (by omega)
      · have h0 : 0 < cap := by
          rcases Nat.eq_zero_or_pos cap with h0 | h0
          · rw [h0] at hj; simp at hj
          · exact h0
        exact (hu.frozen ⟨b, off + j, none⟩ (hc.lt h0)).trans (hm.2 j hj)
    · have hq2 : (0 : Nat) + m = m := by omega
      have hgl : g < w'.heap.size := by
        by_cases h0 : 0 < c' * s
        · exact World.block_lt_of_cell? _ _ (Option.isSome_iff_exists.1 (ho.there 0 h0).1).choose_spec
        · exact absurd (Nat.mul_pos (by have := ho.le; omega) el.pos) h0
      refine ⟨some ⟨g, 0, none⟩, g, 0, c', by rw [hq2], ⟨by have := ho.le; omega, fun _ => rfl, fun h0 => hgl, by rw [hcn], fun j u hj => ?_, fun j hj => ?_⟩, ⟨ho.max, fun j hj => by rw [Nat.zero_add]; exact (ho.there j (by omega)).2⟩, .inl ⟨rfl, hgl⟩⟩
      · have hl := (List.getElem?_eq_some_iff.1 hj).1
        rw [hcn] at hl
        rw [Nat.zero_add, ho.holds j (by rw [hq2]; exact hl), hcl]
        exact hj
      · have hjs : (c' - (n + m)) * s = c' * s - (n + m) * s := Nat.sub_mul ..
        have := ho.there ((n + m) * s + j) (by omega)
        rw [show 0 + (n + m) * s + j = (n + m) * s + j by omega]
        exact this
  · refine hu.kept.block hk (fun p hp e => ?_)
    obtain ⟨j, hj, rfl⟩ := hp
    obtain rfl : b = k := e
    exact hno (by rw [hc.addr (hu.capPos hj)]; rfl)
  · rcases hu.val with ⟨hle, rfl, hr⟩ | ⟨hgt, g, c', rfl, ho⟩
    · exact Or.inl (by cases ao <;> exact hk)
    · exact Or.inr (by obtain rfl : g = k := Option.some.inj hk; exact ho.new)
theorem own_some {sp : Option Addr} {n cap n' cap' k b : Nat} (h : (Value.slice (sp.map (·.add k)) n cap).ownBlock = some b) : (Value.slice sp n' cap').ownBlock = some b := by
  cases sp with
  | none => cases h
  | some a =>
    obtain ⟨ab, ao, asp⟩ := a
    have : (Addr.add ⟨ab, ao, asp⟩ k).block = ab := by unfold Addr.add; split <;> rfl
    show some ab = some b
    rw [← this]; exact h
theorem own_same {sp : Option Addr} {n cap n' cap' b : Nat} (h : (Value.slice sp n cap).ownBlock = some b) : (Value.slice sp n' cap').ownBlock = some b := by
  cases sp with
  | none => cases h
  | some a => exact h
/-- The first k are left out. -/
theorem GRow.drop {sp a1 : Option Addr} {cap k : Nat} (h : GRow s w (.slice sp n cap) n xs) (hk : k ≤ n) (ha : a1 = sp.map (·.add (k * s)) ∨ cap = k ∧ a1 = sp) : GRow s w (.slice a1 (n - k) (cap - k)) (n - k) (xs.drop (k * s)) ∧ (∀ b, (Value.slice a1 (n - k) (cap - k)).ownBlock = some b → (Value.slice sp n cap).ownBlock = some b) := by
  obtain ⟨ao, b, off, cap', e, hc, hm, hxx⟩ := h
  cases e
  have hle := hc.le
  have hmul : n * s ≤ cap * s := Nat.mul_le_mul_right _ hle
  have hks : k * s ≤ n * s := Nat.mul_le_mul_right _ hk
  have hsub : (n - k) * s = n * s - k * s := Nat.sub_mul ..
  have hsubc : (cap - k) * s = cap * s - k * s := Nat.sub_mul ..
  have hsub2 : (cap - k - (n - k)) * s = (cap - n) * s := by rw [show cap - k - (n - k) = cap - n by omega]
  have hol := hc.oldsLen
  have hlen : (xs.drop (k * s)).length = (n - k) * s := by rw [List.length_drop, hol, hsub]
  rcases ha with rfl | ⟨rfl, rfl⟩
  · refine ⟨⟨_, b, off + k * s, cap - k, rfl, ⟨by omega, fun h0 => ?_, fun h0 => hc.lt (by omega), hlen, fun j u hj => ?_, fun j hj => ?_⟩, ⟨by have := hm.1; omega, fun j hj => by rw [Nat.add_assoc]; exact hm.2 (k * s + j) (by omega)⟩, hxx.elim (fun e => .inl ⟨by rw [e.1]; simp [addr_add], e.2⟩) (fun e => .inr ⟨by rw [e.1]; rfl, by omega⟩)⟩, fun b2 h => own_some h⟩
    · rw [hc.addr (by omega)]; simp [addr_add]
    · rw [List.getElem?_drop] at hj
      rw [Nat.add_assoc]; exact hc.olds _ u hj
    · rw [hsub2] at hj
      rw [show off + k * s + (n - k) * s + j = off + n * s + j by omega]
      exact hc.spare j hj
  · have hn0 : n = cap := by omega
    subst hn0
    have hz : xs.drop (n * s) = [] := by rw [← hol]; exact List.drop_length
    rw [hz, Nat.sub_self]
    exact ⟨⟨_, b, off, 0, rfl, ⟨Nat.le_refl _, fun h0 => by omega, fun h0 => by omega, by simp, fun j u hj => by simp at hj, fun j hj => by omega⟩, ⟨by decide, fun j hj => by omega⟩, hxx.elim .inl (fun e => .inr ⟨e.1, rfl⟩)⟩, fun b2 h => own_same h⟩
/-- The last ones are left out: what stood there may be written anew. -/
theorem GRow.take {sp : Option Addr} {cap k : Nat} (h : GRow s w (.slice sp n cap) n xs) (hk : k ≤ n) : GRow s w (.slice sp k cap) k (xs.take (k * s)) := by
  obtain ⟨ao, b, off, cap', e, hc, hm, hxx⟩ := h
  cases e
  have hle := hc.le
  have hol := hc.oldsLen
  have hks : k * s ≤ n * s := Nat.mul_le_mul_right _ hk
  have hsub : (cap - k) * s = cap * s - k * s := Nat.sub_mul ..
  have hsub2 : (cap - n) * s = cap * s - n * s := Nat.sub_mul ..
  have hmul : n * s ≤ cap * s := Nat.mul_le_mul_right _ hle
  refine ⟨_, b, off, cap, rfl, ⟨by omega, hc.addr, hc.lt, by rw [List.length_take, hol]; omega, fun j u hj => ?_, fun j hj => ?_⟩, hm, hxx⟩
  · rw [List.getElem?_take] at hj
    split at hj
    · exact hc.olds j u hj
    · cases hj
  · refine ⟨?_, by rw [Nat.add_assoc]; exact hm.2 _ (by omega)⟩
    by_cases h1 : k * s + j < n * s
    · have := hc.olds (k * s + j) _ (List.getElem?_eq_getElem (by rw [hol]; exact h1))
      rw [Nat.add_assoc, this]; rfl
    · have := (hc.spare (j - (n * s - k * s)) (by omega)).1
      rw [show off + n * s + (j - (n * s - k * s)) = off + k * s + j by omega] at this
      exact this
/-- A cell of it is another one. -/
theorem GRow.set {b off cap j : Nat} {u : Value} (h : GRow s w (.slice (some ⟨b, off, none⟩) n cap) n xs) (hj : j < n * s) : GRow s (w.setCell ⟨b, off + j, none⟩ u) (.slice (some ⟨b, off, none⟩) n cap) n (xs.set j u) := by
  obtain ⟨ao, b', off', cap', e, hc, hm, hxx⟩ := h
  cases e
  have hle := hc.le
  have hol := hc.oldsLen
  have hmul : n * s ≤ cap * s := Nat.mul_le_mul_right _ hle
  have hcap : 0 < cap := by
    rcases Nat.eq_zero_or_pos cap with h0 | h0
    · rw [h0] at hmul; simp at hmul; omega
    · exact h0
  have he := hc.addr hcap
  cases he
  have hsz : (w.setCell ⟨b, off + j, none⟩ u).heap.size = w.heap.size := by simp [World.setCell]
  obtain ⟨u0, hu0⟩ : ∃ u0, xs[j]? = some u0 := ⟨_, List.getElem?_eq_getElem (by rw [hol]; exact hj)⟩
  have hcj := hc.olds j u0 hu0
  refine ⟨_, b, off, cap, rfl, ⟨hle, fun _ => rfl, fun h0 => by rw [hsz]; exact hc.lt h0, by rw [List.length_set]; exact hol, fun i x hi => ?_, fun i hi => ?_⟩, ⟨hm.1, fun i hi => by rw [World.frozen?_setCell]; exact hm.2 i hi⟩, .inl ⟨rfl, by rw [hsz]; exact hc.lt hcap⟩⟩
  · by_cases e : i = j
    · subst e
      rw [List.getElem?_set_self (by rw [hol]; exact hj)] at hi
      cases hi
      exact World.cell?_setCell_same _ _ _ hcj
    · rw [List.getElem?_set_ne (fun h => e h.symm)] at hi
      rw [World.cell?_setCell_other _ _ _ _ (show (⟨b, off + j, none⟩ : Addr) ≠ ⟨b, off + i, none⟩ from fun h => by have := congrArg Addr.off h; simp at this; omega)]
      exact hc.olds i x hi
  · have hsub : (cap - n) * s = cap * s - n * s := Nat.sub_mul ..
    rw [World.frozen?_setCell, World.cell?_setCell_other _ _ _ _ (show (⟨b, off + j, none⟩ : Addr) ≠ ⟨b, off + n * s + i, none⟩ from fun h => by have := congrArg Addr.off h; simp at this; omega)]
    exact hc.spare i hi
theorem wpList_append_g {ops : Array Oper} {rest : List Oper} {o : Oper} {a : Act} {Q : Exit → Act → World → Prop} (hgd : Region.wanted o (yielded ops a.tmps) = true) (sl x : Operand) {tx ty : TypeId}
    (ho : o.op = .call { callee := .builtin .append, args := #[sl, x], argTypes := #[T, tx] }) (hty : o.type = ty) {xv : Value} (el : Elt P T E s bytes z) (h : GRow s w v n xs) (hv : a.eval sl = v) (hx : a.eval x = xv)
    (hs : Src P s tx xv m ys w) (hn : n + m ≤ 1000000)
    (hK : ∀ v' w', GRow s w' v' (n + m) (xs ++ ys) → Wrote (fun k => v.ownBlock = some k) w (fun k => v'.ownBlock = some k) w' → wpList P ops Q rest (a.put o.dst v') w') : wpList P ops Q (o :: rest) a w := by
  refine wpList_step fun K hK' => ?_
  rw [if_pos hgd]
  obtain ⟨v', w', hr, h1, h2⟩ := append_g (ty := ty) el h xv hs hn
  unfold Oper.wp
  simp [execOp, ho, resolve, invoke, builtin, hv, hx, hty, hr, Result.andThen]
  exact hK' _ _ (hK v' w' h1 h2)
theorem step_append_g {ops : Array Oper} {o : Oper} {a : Act} {K : Act → World → Prop} {Q : Exit → Act → World → Prop} {F : Prop} (hgd : Region.wanted o (yielded ops a.tmps) = true) (sl x : Operand) {tx ty : TypeId}
    (ho : o.op = .call { callee := .builtin .append, args := #[sl, x], argTypes := #[T, tx] }) (hty : o.type = ty) {xv : Value} (el : Elt P T E s bytes z) (h : GRow s w v n xs) (hv : a.eval sl = v) (hx : a.eval x = xv)
    (hs : Src P s tx xv m ys w) (hn : n + m ≤ 1000000)
    (hK : ∀ v' w', GRow s w' v' (n + m) (xs ++ ys) → Wrote (fun k => v.ownBlock = some k) w (fun k => v'.ownBlock = some k) w' → K (a.put o.dst v') w') :
    if Region.wanted o (yielded ops a.tmps) = true then Oper.wp P o a w K Q else F := by
  rw [if_pos hgd]
  obtain ⟨v', w', hr, h1, h2⟩ := append_g (ty := ty) el h xv hs hn
  unfold Oper.wp
  simp [execOp, ho, resolve, invoke, builtin, hv, hx, hty, hr, Result.andThen]
  exact hK v' w' h1 h2
/-- One element, in the block that the call itself makes for it. -/
theorem src_new {N : Nat} {A : Array Value} {e : TypeId} {tx e' : TypeId} (hk : P.underlying tx = some (.slice e')) (hA : A.size = s) (h1 : ∀ u ∈ A.toList, u.oneCell' = true) (hb : w.heap[N]? = some (.cells A e (0, 0))) : Src P s tx (.slice (some ⟨N, 0, none⟩) 1 1) 1 A.toList w :=
  Src.ofSlice _ hk ⟨N, 0, none⟩ 1 1 A.toList (by simp [hA]) (fun j u hj => by
    rw [addr_add, Nat.zero_add]
    exact cell_of hb (by rw [← hj]; simp)) h1
end Gr
end Go.Proofs.YtdhkakjiahkjnaaDoor
/- Goroutines in common as they lie in memory: a row that may begin in the midst of its block; what the reading calls of package queue answer, and the library's Clone and Index. -/
namespace Go.Proofs.YtdhkakjiahkjnaaDoor
open Go.RowKit Go.Lib Fx Ho
set_option linter.unusedVariables false
namespace Qu

/-- The slice v holds the numbers zs, somewhere in a block of its own, its room within it. -/
def OffRow (w : World) (v : Value) (zs : List Int) : Prop :=
  ∃ ao b off cap, v = .slice ao zs.length cap ∧ Came w 1 ao b off zs.length cap (cells zs) ∧ (cap ≤ maxLen ∧ ∀ j, j < cap → w.frozen? ⟨b, off + j, none⟩ = false) ∧ (ao = some ⟨b, off, none⟩ ∧ b < w.heap.size ∨ ao = none ∧ cap = 0)
def home (p : Nat) (v : Value) : Home := fun k => k = p ∨ v.ownBlock = some k
variable {w w' : World} {p : Nat} {v : Value} {zs : List Int} {H H' : Home}
theorem offrow_nil (w : World) : OffRow w (.slice none 0 0) [] := ⟨none, 0, 0, 0, rfl, ⟨by decide, fun h => (by omega), fun h => (by omega), rfl, fun j u h => (by simp [cells] at h), fun j h => (by omega)⟩, ⟨by decide, fun j h => by omega⟩, .inr ⟨rfl, rfl⟩⟩
theorem OffRow.wrote (h : OffRow w v zs) (ht : Wrote H w H' w') (ho : ∀ k, v.ownBlock = some k → ¬ H k) : OffRow w' v zs := by
  obtain ⟨ao, b, off, cap, rfl, hc, hm, hxx⟩ := h
  have hb : 0 < cap → w'.heap[b]? = w.heap[b]? := fun h0 => by
    have ha := hc.addr h0
    subst ha
    exact ht.block b (hc.lt h0) (ho b rfl)
  refine ⟨ao, b, off, cap, rfl, ⟨hc.le, hc.addr, fun h0 => Nat.lt_of_lt_of_le (hc.lt h0) ht.size, hc.oldsLen, fun j u hj => ?_, fun j hj => ?_⟩, ⟨hm.1, fun j hj => by rw [World.frozen?_of_block (a := ⟨b, off + j, none⟩) (hb (by omega))]; exact hm.2 j hj⟩, hxx.imp (fun e => ⟨e.1, Nat.lt_of_lt_of_le e.2 ht.size⟩) id⟩
  · have hl := (List.getElem?_eq_some_iff.1 hj).1
    rw [hc.oldsLen] at hl
    have hle := hc.le
    rw [World.cell?_of_block (a := ⟨b, off + j, none⟩) (hb (by omega))]
    exact hc.olds j u hj
  · have h0 : 0 < cap := by omega
    rw [World.cell?_of_block (a := ⟨b, off + zs.length * 1 + j, none⟩) (hb h0), World.frozen?_of_block (a := ⟨b, off + zs.length * 1 + j, none⟩) (hb h0)]
    exact hc.spare j hj
theorem OffRow.cell (h : OffRow w v zs) : ∃ ao b off cap, v = .slice ao zs.length cap ∧ zs.length ≤ cap ∧ cap ≤ maxLen ∧ (0 < cap → ao = some ⟨b, off, none⟩ ∧ b < w.heap.size) ∧ ∀ i, i < zs.length → w.cell? ⟨b, off + i, none⟩ = some (.int .i64 (zs.getD i 0)) := by
  obtain ⟨ao, b, off, cap, rfl, hc, hm, hxx⟩ := h
  refine ⟨ao, b, off, cap, rfl, hc.le, hm.1, fun h0 => ⟨hc.addr h0, hc.lt h0⟩, fun i hi => hc.olds i _ ?_⟩
  unfold cells
  rw [List.getElem?_map, List.getD_eq_getElem?_getD, List.getElem?_eq_getElem hi]; rfl
theorem OffRow.ints (h : OffRow w v zs) : Ints w (fun k => v.ownBlock = some k) v zs := by
  obtain ⟨ao, b, off, cap, rfl, hle, hm, ha, hcell⟩ := h.cell
  refine ⟨_, cap, rfl, by unfold maxLen at hm; omega, fun i hi => ?_⟩
  obtain ⟨rfl, hb⟩ := ha (by omega)
  exact ⟨b, off, rfl, rfl, hb, hcell i hi⟩
theorem OffRow.lt {k : Nat} (h : OffRow w v zs) (hk : v.ownBlock = some k) : k < w.heap.size := by
  obtain ⟨ao, b, off, cap, rfl, hc, hm, hxx⟩ := h
  rcases hxx with ⟨rfl, hb⟩ | ⟨rfl, _⟩
  · obtain rfl : b = k := Option.some.inj hk
    exact hb
  · cases hk
theorem OffRow.slice (h : OffRow w v zs) : ∃ sp cap, v = .slice sp zs.length cap := by
  obtain ⟨ao, b, off, cap, rfl, _⟩ := h
  exact ⟨_, _, rfl⟩
theorem tape_setCells (b : Nat) : ∀ (vs : List Value) (o : Nat) (w : World), (w.setCells b o vs).tape = w.tape
  | [], _, _ => rfl
  | v :: r, o, w => by rw [World.setCells, tape_setCells b r]; simp
/-- n numbers more at the end of a row that may begin in the midst of its block. -/
theorem append_off (h : OffRow w v zs) (x : Value) (ys : List Int) (hs : Src Tryd.prog 1 23 x ys.length (cells ys) w) (hn : zs.length + ys.length ≤ 1000000) :
    ∃ v' w', (Builtin.append_ #[23, 23] 23 #[v, x]).run Tryd.prog w = .ok v' w' ∧ OffRow w' v' (zs ++ ys) ∧ Wrote (fun k => v.ownBlock = some k) w (fun k => v'.ownBlock = some k) w' := by
  obtain ⟨i0, hi, hz0, hz1, hz2⟩ := info_parts infoI
  obtain ⟨ao, b, off, cap, rfl, hc, hm, hxx⟩ := h
  have hmx : (1000000 : Nat) ≤ maxLen := by unfold maxLen; omega
  obtain ⟨v', w', hr, hu⟩ := run_append_upon (P := Tryd.prog) hc 23 23 23 i0 (.int .i64 0) 8 Tryd.underlying23 hi hz0 hz1 hz2 rfl (Upon.start (e := 3) hc) x ys.length (cells ys) hs (by omega) (by omega)
  have htape : w'.tape = w.tape := by
    by_cases hfit : zs.length + ys.length ≤ cap
    · rcases Nat.eq_zero_or_pos cap with h0 | hcap
      · have h1 : ys.length = 0 := by omega
        have h2 : ys = [] := List.eq_nil_of_length_eq_zero h1
        subst h2
        have := run_append_nothing (P := Tryd.prog) w 23 23 23 3 i0 Tryd.underlying23 hi ao zs.length cap hc.le x (by rw [hz1]; exact hs)
        rw [this] at hr
        cases hr; rfl
      · have ha := hc.addr hcap
        subst ha
        have := run_append_room_src (P := Tryd.prog) w 23 23 23 3 i0 Tryd.underlying23 hi b off zs.length cap x ys.length (cells ys) (by rw [hz1]; exact hs) hfit
          (fun j hj => by rw [hz1]; rw [cells_len] at hj; exact (hc.spare j (by omega)).1) (fun j hj => by rw [hz1]; rw [cells_len] at hj; exact (hc.spare j (by omega)).2)
        rw [this] at hr
        cases hr
        exact tape_setCells _ _ _ _
    · have := run_append_grow_src (P := Tryd.prog) w 23 23 23 3 i0 (.int .i64 0) Tryd.underlying23 hi hz0 ao zs.length cap (cells zs) (by
          rw [hz1]
          rcases Nat.eq_zero_or_pos cap with h0 | hcap
          · have h1 : zs.length = 0 := by have := hc.le; omega
            have h2 : zs = [] := List.eq_nil_of_length_eq_zero h1
            subst h2
            cases ao with
            | none => exact run_firstCells_none w.drew 1 0 0 cap
            | some a' => exact run_firstCells_some w.drew 1 0 a' 0 cap [] (by simp) (by intro _ _ h'; simp at h')
          · rw [hc.addr hcap]
            refine run_firstCells_some w.drew 1 zs.length ⟨b, off, none⟩ zs.length cap (cells zs) hc.oldsLen (fun j u hj => ?_)
            rw [addr_add]
            exact hc.olds j u hj) x ys.length (cells ys) (by rw [hz1]; exact hs) (by omega) (by omega) (growslice_fits (by omega) (by rw [hz2]; omega))
      rw [this] at hr
      cases hr; rfl
  have hsz := hu.kept.size
  have hlen : (zs ++ ys).length = zs.length + (0 + ys.length) := by rw [List.length_append]; omega
  have hcl : (cells zs ++ ([] ++ cells ys)) = cells (zs ++ ys) := by rw [cells_app]; rfl
  have hcn : (cells (zs ++ ys)).length = zs.length + ys.length := by rw [cells_len, List.length_append]
  refine ⟨v', w', hr, ?_, ⟨hu.kept.1, htape, hu.kept.2.1, hsz, fun k hk hno => ?_, fun k hk => ?_⟩⟩
  · rcases hu.val with ⟨hle, rfl, hq⟩ | ⟨hgt, g, c', rfl, ho⟩
    · refine ⟨ao, b, off, cap, by rw [hlen], ⟨by omega, hc.addr, fun h0 => Nat.lt_of_lt_of_le (hc.lt h0) hsz, by omega, fun j u hj => ?_, fun j hj => ?_⟩, ⟨hm.1, fun j hj => (hu.frozen ⟨b, off + j, none⟩ (hc.lt (by omega))).trans (hm.2 j hj)⟩, hxx.imp (fun e => ⟨e.1, Nat.lt_of_lt_of_le e.2 hsz⟩) id⟩
      · have hl := (List.getElem?_eq_some_iff.1 hj).1
        rw [hu.inArray hc (by omega) hq j (by omega), hcl]
        exact hj
      · have h0 : 0 < cap := by omega
        have e1 : off + (zs ++ ys).length * 1 + j = off + zs.length * 1 + (ys.length + j) := by omega
        rw [e1, hu.old (hc.lt h0) (fun j' h1 ⟨_, h2⟩ => by rw [hq] at h1; simp only [List.nil_append, cells_len] at h1; omega), hu.frozen ⟨b, _, none⟩ (hc.lt h0)]
        exact hc.spare _ (by omega)
    · refine ⟨some ⟨g, 0, none⟩, g, 0, c', by rw [hlen], ⟨by have := ho.le; omega, fun _ => rfl, fun h0 => ?_, by omega, fun j u hj => ?_, fun j hj => ?_⟩, ⟨ho.max, fun j hj => by rw [Nat.zero_add]; exact (ho.there j (by omega)).2⟩, .inl ⟨rfl, World.block_lt_of_cell? _ _ (Option.isSome_iff_exists.1 (ho.there 0 (by have := ho.le; omega)).1).choose_spec⟩⟩
      · exact World.block_lt_of_cell? _ _ (Option.isSome_iff_exists.1 (ho.there 0 (by omega)).1).choose_spec
      · have hl := (List.getElem?_eq_some_iff.1 hj).1
        rw [Nat.zero_add, ho.holds j (by omega), hcl]
        exact hj
      · have := ho.there ((zs ++ ys).length + j) (by omega)
        rw [show 0 + (zs ++ ys).length * 1 + j = (zs ++ ys).length + j by omega]
        exact this
  · refine hu.kept.block hk (fun p hp e => ?_)
    obtain ⟨j, hj, rfl⟩ := hp
    obtain rfl : b = k := e
    exact hno (by rw [hc.addr (hu.capPos hj)]; rfl)
  · rcases hu.val with ⟨hle, rfl, hr⟩ | ⟨hgt, g, c', rfl, ho⟩
    · exact Or.inl (by cases ao <;> exact hk)
    · exact Or.inr (by obtain rfl : g = k := Option.some.inj hk; exact ho.new)
namespace IsQ
end IsQ
theorem own_empty {W : World} {lo N : Nat} (h : W.heap[N]? = some (.cells #[] 3 (0, 0))) (hN : lo ≤ N) : W.ownsRow lo 3 1 (.slice (some ⟨N, 0, none⟩) 0 0) 0 [] :=
  ⟨rfl, Or.inr ⟨N, 0, #[], rfl, hN, h, Nat.le_refl _, by unfold maxLen; omega, rfl, rfl⟩⟩
theorem src_of_ints {S : Home} {x : Value} {ys : List Int} (h : Ints w S x ys) : Src Tryd.prog 1 23 x ys.length (cells ys) w := by
  obtain ⟨sp, cap, rfl, _, hi⟩ := h
  cases ys with
  | nil =>
    cases sp with
    | none => exact Src.ofNil w Tryd.underlying23 cap
    | some a => exact Src.ofSlice w Tryd.underlying23 a 0 cap [] rfl (fun j u hj => by simp at hj) (fun u hu => by simp at hu)
  | cons y r =>
    obtain ⟨b, off, rfl, _, _, _⟩ := hi 0 (by simp)
    refine Src.ofSlice w Tryd.underlying23 ⟨b, off, none⟩ _ cap _ (by rw [cells_len]; omega) (fun j u hj => ?_) (cells_one _)
    have hl := (List.getElem?_eq_some_iff.1 hj).1
    rw [cells_len] at hl
    obtain ⟨b2, off2, e, _, _, hc⟩ := hi j hl
    cases e
    rw [addr_add, hc, ← hj]
    unfold cells
    rw [List.getElem?_map, List.getD_eq_getElem?_getD, List.getElem?_eq_getElem hl]; rfl
theorem wpList_append_off {ops : Array Oper} {rest : List Oper} {o : Oper} {a : Act} {Q : Exit → Act → World → Prop} (hgd : o.guard = none) (s x : Operand)
    (ho : o.op = .call { callee := .builtin .append, args := #[s, x], argTypes := #[23, 23] }) (hty : o.type = 23) {v xv : Value} {zs ys : List Int} (h : OffRow w v zs) (hv : a.eval s = v) (hx : a.eval x = xv)
    (hs : Src Tryd.prog 1 23 xv ys.length (cells ys) w) (hn : zs.length + ys.length ≤ 1000000)
    (hK : ∀ v' w', OffRow w' v' (zs ++ ys) → Wrote (fun k => v.ownBlock = some k) w (fun k => v'.ownBlock = some k) w' → wpList Tryd.prog ops Q rest (a.put o.dst v') w') : wpList Tryd.prog ops Q (o :: rest) a w := by
  refine wpList_plain hgd fun K hK' => ?_
  obtain ⟨v', w', hr, h1, h2⟩ := append_off h xv ys hs hn
  unfold Oper.wp
  simp [execOp, ho, resolve, invoke, builtin, hv, hx, hty, hr, Result.andThen]
  exact hK' _ _ (hK v' w' h1 h2)
end Qu
end Go.Proofs.YtdhkakjiahkjnaaDoor
/- What package queue's Get answers. -/
namespace Go.Proofs.YtdhkakjiahkjnaaDoor
open Go.RowKit Go.Lib Fx Ho
set_option linter.unusedVariables false
namespace Qu
variable {w w' : World} {p : Nat} {v : Value} {zs : List Int} {H H' : Home}
/-- What is left of a row once its first ones are gone. -/
theorem OffRow.drop {sp a1 : Option Addr} {n cap : Nat} (h : OffRow w (.slice sp zs.length cap) zs) (hn : n ≤ zs.length) (ha : a1 = sp.map (·.add n) ∨ cap = n ∧ a1 = sp) : OffRow w (.slice a1 (zs.length - n) (cap - n)) (zs.drop n) := by
  obtain ⟨ao, b, off, cap', e, hc, hm, hxx⟩ := h
  cases e
  have hle := hc.le
  rcases ha with rfl | ⟨rfl, rfl⟩
  · refine ⟨_, b, off + n, cap - n, by rw [List.length_drop], ⟨by rw [List.length_drop]; omega, fun h0 => ?_, fun h0 => hc.lt (by omega), by rw [cells_len]; omega, fun j u hj => ?_, fun j hj => ?_⟩, ⟨by have := hm.1; omega, fun j hj => by rw [Nat.add_assoc]; exact hm.2 (n + j) (by omega)⟩, hxx.elim (fun e => .inl ⟨by rw [e.1]; simp [addr_add], e.2⟩) (fun e => .inr ⟨by rw [e.1]; rfl, by omega⟩)⟩
    · rw [hc.addr (by omega)]; simp [addr_add]
    · rw [Nat.add_assoc]
      refine hc.olds (n + j) u ?_
      unfold cells at hj ⊢
      rw [List.map_drop, List.getElem?_drop] at hj
      exact hj
    · rw [List.length_drop] at hj ⊢
      have := hc.spare j (by omega)
      rw [show off + n + (zs.length - n) * 1 + j = off + zs.length * 1 + j by omega]
      exact this
  · have hz : zs.drop cap = [] := List.drop_eq_nil_of_le hle
    rw [hz, show zs.length - cap = 0 by omega, Nat.sub_self]
    exact ⟨_, b, off, 0, rfl, ⟨Nat.le_refl _, fun h0 => by omega, fun h0 => by omega, rfl, fun j u hj => by simp [cells] at hj, fun j hj => by omega⟩, ⟨by decide, fun j hj => by omega⟩, hxx.elim .inl (fun e => .inr ⟨e.1, rfl⟩)⟩
theorem min_four (P : Program) (ts : Array TypeId) (t : TypeId) (x y z u n : Nat) (h : n = min (min (min x y) z) u) (W : World) : (Builtin.min_ ts t #[.int .i64 (x : Int), .int .i64 (y : Int), .int .i64 (z : Int), .int .i64 (u : Int)]).run P W = .ok (.int .i64 (n : Int)) W := by
  subst h
  simp [Builtin.min_, Builtin.min2]
  omega
end Qu
end Go.Proofs.YtdhkakjiahkjnaaDoor
/- A queue that a statement made, and all else as it was. -/
namespace Go.Proofs.YtdhkakjiahkjnaaDoor
open Go.RowKit Go.Lib Fx Ho
set_option linter.unusedVariables false
namespace Qu
variable {W0 w w' : World} {p : Nat} {v v' : Value} {L L' : List Int} {H' : Home}

end Qu
end Go.Proofs.YtdhkakjiahkjnaaDoor
/- Rows of whole numbers in general: a row that a call owns is one that may lie anywhere; append in a region; the document's own Has and Out of a row; a box of one cell that holds a row which is only read. -/
namespace Go.Proofs.YtdhkakjiahkjnaaDoor
open Go.RowKit Go.Lib Fx Ho Qu
set_option linter.unusedVariables false
namespace Rw
variable {w w' : World} {p : Nat} {v : Value} {zs ys : List Int} {H H' S : Home}

theorem off_of_owns {base n : Nat} (h : w.ownsRow base 3 1 v n (cells zs)) : OffRow w v zs := by
  have hn : zs.length = n := by have := h.1; rw [cells_len] at this; omega
  have h0 := h
  rcases h.2 with ⟨rfl, h2⟩ | ⟨g, cap, cur, rfl, h1, h2, h3, h4, h5, h6⟩
  · obtain rfl : zs = [] := List.eq_nil_of_length_eq_zero (by omega)
    exact offrow_nil _
  · refine ⟨some ⟨g, 0, none⟩, g, 0, cap, by rw [hn], ⟨by omega, fun _ => rfl, fun _ => block_lt h2, by rw [cells_len]; omega, fun j u hj => ?_, fun j hj => ?_⟩, ⟨h4, fun j _ => frozen_of_row w g _ _ _ h2⟩, .inl ⟨rfl, block_lt h2⟩⟩
    · have e := h0.cells (g := g) rfl j u hj
      rwa [addr_add] at e
    · have hj2 : 0 + zs.length * 1 + j < cur.size := by omega
      exact ⟨by rw [cell_of h2 (Array.getElem?_eq_getElem hj2)]; rfl, frozen_of_row w g _ _ _ h2⟩
theorem off_empty {N : Nat} (h : w.heap[N]? = some (.cells #[] 3 (0, 0))) : OffRow w (.slice (some ⟨N, 0, none⟩) 0 0) [] :=
  off_of_owns (own_empty h (Nat.le_refl _))
theorem src_cells {xs : List Value} {N n c : Nat} (hl : xs.length = n) (h1 : ∀ u ∈ xs, u.oneCell' = true) (h : ∀ j u, xs[j]? = some u → w.cell? ⟨N, j, none⟩ = some u) : Src Tryd.prog 1 23 (.slice (some ⟨N, 0, none⟩) n c) n xs w :=
  Src.ofSlice w Tryd.underlying23 ⟨N, 0, none⟩ n c xs (by omega) (fun j u hj => by rw [addr_add, Nat.zero_add]; exact h j u hj) h1
theorem step_append_off {ops : Array Oper} {o : Oper} {a : Act} {K : Act → World → Prop} {Q : Exit → Act → World → Prop} {E : Prop} (hgd : o.guard = none) (s x : Operand)
    (ho : o.op = .call { callee := .builtin .append, args := #[s, x], argTypes := #[23, 23] }) (hty : o.type = 23) {v xv : Value} {zs ys : List Int} (h : OffRow w v zs) (hv : a.eval s = v) (hx : a.eval x = xv)
    (hs : Src Tryd.prog 1 23 xv ys.length (cells ys) w) (hn : zs.length + ys.length ≤ 1000000)
    (hK : ∀ v' w', OffRow w' v' (zs ++ ys) → Wrote (fun k => v.ownBlock = some k) w (fun k => v'.ownBlock = some k) w' → K (a.put o.dst v') w') :
    if Region.wanted o (yielded ops a.tmps) = true then Oper.wp Tryd.prog o a w K Q else E := by
  have hw : Region.wanted o (yielded ops a.tmps) = true := by simp [Region.wanted, hgd]
  rw [if_pos hw]
  obtain ⟨v', w', hr, h1, h2⟩ := append_off h xv ys hs hn
  unfold Oper.wp
  simp [execOp, ho, resolve, invoke, builtin, hv, hx, hty, hr, Result.andThen]
  exact hK v' w' h1 h2

theorem below_of_wrote {lo : Nat} (h : Wrote H w H' w') (hl : Low lo H) (hs : lo ≤ w.heap.size) : Below lo w w' :=
  ⟨h.os, h.tape, h.output, h.size, fun k hk => h.block k (Nat.lt_of_lt_of_le hk hs) (fun h' => by have := hl k h'; omega)⟩
/-- Append to a row whose block lies above lo: it lies above lo again, and below lo nothing has turned. -/
theorem append_low {lo : Nat} (h : OffRow w v zs) (hl : Low lo (fun k => v.ownBlock = some k)) (hs : lo ≤ w.heap.size) {x : Value} (hx : Src Tryd.prog 1 23 x ys.length (cells ys) w) (hn : zs.length + ys.length ≤ 1000000) :
    ∃ v' w', (Builtin.append_ #[23, 23] 23 #[v, x]).run Tryd.prog w = .ok v' w' ∧ OffRow w' v' (zs ++ ys) ∧ Low lo (fun k => v'.ownBlock = some k) ∧ Below lo w w' := by
  obtain ⟨v', w', hr, h1, h2⟩ := append_off h x ys hx hn
  exact ⟨v', w', hr, h1, h2.low hl hs, below_of_wrote h2 hl hs⟩
theorem wpList_append_low {ops : Array Oper} {rest : List Oper} {o : Oper} {a : Act} {Q : Exit → Act → World → Prop} (hgd : o.guard = none) (s x : Operand)
    (ho : o.op = .call { callee := .builtin .append, args := #[s, x], argTypes := #[23, 23] }) (hty : o.type = 23) {v xv : Value} {zs ys : List Int} (lo : Nat) (h : OffRow w v zs) (hl : Low lo (fun k => v.ownBlock = some k)) (hlo : lo ≤ w.heap.size) (hv : a.eval s = v) (hx : a.eval x = xv)
    (hs : Src Tryd.prog 1 23 xv ys.length (cells ys) w) (hn : zs.length + ys.length ≤ 1000000)
    (hK : ∀ v' w', OffRow w' v' (zs ++ ys) → Low lo (fun k => v'.ownBlock = some k) → Below lo w w' → wpList Tryd.prog ops Q rest (a.put o.dst v') w') : wpList Tryd.prog ops Q (o :: rest) a w := by
  refine wpList_plain hgd fun K hK' => ?_
  obtain ⟨v', w', hr, h1, h2, h3⟩ := append_low h hl hlo hs hn
  unfold Oper.wp
  simp [execOp, ho, resolve, invoke, builtin, hv, hx, hty, hr, Result.andThen]
  exact hK' _ _ (hK v' w' h1 h2 h3)
theorem step_append_low {ops : Array Oper} {o : Oper} {a : Act} {K : Act → World → Prop} {Q : Exit → Act → World → Prop} {E : Prop} (hgd : o.guard = none) (s x : Operand)
    (ho : o.op = .call { callee := .builtin .append, args := #[s, x], argTypes := #[23, 23] }) (hty : o.type = 23) {v xv : Value} {zs ys : List Int} (lo : Nat) (h : OffRow w v zs) (hl : Low lo (fun k => v.ownBlock = some k)) (hlo : lo ≤ w.heap.size) (hv : a.eval s = v) (hx : a.eval x = xv)
    (hs : Src Tryd.prog 1 23 xv ys.length (cells ys) w) (hn : zs.length + ys.length ≤ 1000000)
    (hK : ∀ v' w', OffRow w' v' (zs ++ ys) → Low lo (fun k => v'.ownBlock = some k) → Below lo w w' → K (a.put o.dst v') w') :
    if Region.wanted o (yielded ops a.tmps) = true then Oper.wp Tryd.prog o a w K Q else E := by
  have hw : Region.wanted o (yielded ops a.tmps) = true := by simp [Region.wanted, hgd]
  rw [if_pos hw]
  obtain ⟨v', w', hr, h1, h2, h3⟩ := append_low h hl hlo hs hn
  unfold Oper.wp
  simp [execOp, ho, resolve, invoke, builtin, hv, hx, hty, hr, Result.andThen]
  exact hK v' w' h1 h2 h3
/-- One number, in the block that the call itself makes for it. -/
theorem src_one (w : World) (x : Int) : Src Tryd.prog 1 23 (.slice (some ⟨w.heap.size, 0, none⟩) 1 1) [x].length (cells [x]) (w.alloc (.cells #[.int .i64 x] 3)) :=
  Src.ofSlice _ Tryd.underlying23 ⟨w.heap.size, 0, none⟩ 1 1 (cells [x]) rfl (fun j u hj => by
    cases j with
    | zero => simp [cells] at hj; subst hj; exact cell_of (heap_alloc_new _ _) rfl
    | succ j => simp [cells] at hj) (cells_one _)
theorem low_nil (lo : Nat) : Low lo (fun k => (Value.slice none 0 0).ownBlock = some k) := fun k hk => by cases hk
theorem low_some {lo N n c : Nat} (h : lo ≤ N) : Low lo (fun k => (Value.slice (some ⟨N, 0, none⟩) n c).ownBlock = some k) := fun k hk => by obtain rfl : N = k := Option.some.inj hk; exact h
theorem off_below (h : OffRow w v zs) (hb : Below w.heap.size w w') : OffRow w' v zs := h.wrote (H := fun _ => False) (Wrote.of_below hb) (fun _ _ h => h)
theorem off_slice {n : Nat} (h : OffRow w v zs) (hn : zs.length = n) : ∃ sp cap, v = .slice sp n cap := by
  obtain ⟨sp, cap, e⟩ := h.slice
  exact ⟨sp, cap, by rw [e, hn]⟩
/-- What lies anywhere but at p. -/
abbrev Apart (p : Nat) : Home := fun k => k ≠ p
theorem apart_of {lo : Nat} (h : OffRow w v zs) (hl : Low lo (fun k => v.ownBlock = some k)) (hp : p < lo) : Ints w (Apart p) v zs :=
  h.ints.wider (fun k hk _ e => by have := hl k hk; omega)
theorem low_of_owns {base n : Nat} {xs : List Value} {e : TypeId} {sz : Nat} (h : w.ownsRow base e sz v n xs) : Low base (fun k => v.ownBlock = some k) := fun k hk => (h.lt k hk).1
theorem wpList_append_lowg {ops : Array Oper} {rest : List Oper} {o : Oper} {a : Act} {Q : Exit → Act → World → Prop} (hgd : Region.wanted o (yielded ops a.tmps) = true) (s x : Operand)
    (ho : o.op = .call { callee := .builtin .append, args := #[s, x], argTypes := #[23, 23] }) (hty : o.type = 23) {v xv : Value} {zs ys : List Int} (lo : Nat) (h : OffRow w v zs) (hl : Low lo (fun k => v.ownBlock = some k)) (hlo : lo ≤ w.heap.size) (hv : a.eval s = v) (hx : a.eval x = xv)
    (hs : Src Tryd.prog 1 23 xv ys.length (cells ys) w) (hn : zs.length + ys.length ≤ 1000000)
    (hK : ∀ v' w', OffRow w' v' (zs ++ ys) → Low lo (fun k => v'.ownBlock = some k) → Below lo w w' → wpList Tryd.prog ops Q rest (a.put o.dst v') w') : wpList Tryd.prog ops Q (o :: rest) a w := by
  refine wpList_step fun K hK' => ?_
  rw [if_pos hgd]
  obtain ⟨v', w', hr, h1, h2, h3⟩ := append_low h hl hlo hs hn
  unfold Oper.wp
  simp [execOp, ho, resolve, invoke, builtin, hv, hx, hty, hr, Result.andThen]
  exact hK' _ _ (hK v' w' h1 h2 h3)

theorem ints_lit (w : World) (zs : List Int) (n : Nat) (hn : zs.length = n) (hs : n ≤ 1000) {A : Array Value} (hA : A.toList = cells zs) : Ints (w.alloc (.cells A 3)) (fun k => w.heap.size ≤ k) (.slice (some ⟨w.heap.size, 0, none⟩) n n) zs := by
  have h := World.ownsRow_lit (base := w.heap.size) (e := 3) (size := 1) w A n (Nat.le_refl _) (by unfold maxLen; omega) (by rw [← Array.length_toList, hA, cells_len, hn, Nat.mul_one])
  rw [hA] at h
  exact (ints_of_owns h).wider (fun k hk _ => (h.lt k hk).1)
/-- The first place of a number in a list. -/
theorem first_of {x : Int} : ∀ {L : List Int}, x ∈ L → ∃ A B, L = A ++ x :: B ∧ x ∉ A
  | [], h => by cases h
  | y :: L, h => by
    by_cases e : y = x
    · exact ⟨[], L, by rw [e]; rfl, by simp⟩
    · obtain ⟨A, B, h1, h2⟩ := first_of (L := L) (by rcases List.mem_cons.1 h with h | h; exact absurd h.symm e; exact h)
      exact ⟨y :: A, B, by rw [h1]; rfl, fun h3 => by rcases List.mem_cons.1 h3 with h3 | h3; exact e h3.symm; exact h2 h3⟩
theorem not_at {x : Int} {A : List Int} (h : x ∉ A) : ∀ j, j < A.length → A.getD j 0 ≠ x := fun j hj e => h (by
  rw [← e, List.getD_eq_getElem?_getD, List.getElem?_eq_getElem hj]; exact List.getElem_mem _)
theorem at_first {x : Int} {A B : List Int} : (A ++ x :: B).getD A.length 0 = x := by
  rw [List.getD_eq_getElem?_getD, List.getElem?_append_right (Nat.le_refl _), Nat.sub_self]; rfl
theorem before_first {x : Int} {A B : List Int} (h : x ∉ A) : ∀ j, j < A.length → (A ++ x :: B).getD j 0 ≠ x := fun j hj => by
  rw [List.getD_eq_getElem?_getD, List.getElem?_append_left hj, ← List.getD_eq_getElem?_getD]; exact not_at h j hj
/-- n numbers that rise by one, from c on. -/
def seqI (c : Int) : Nat → List Int
  | 0 => []
  | n + 1 => seqI c n ++ [c + (n : Int)]
theorem seq_len (c : Int) : ∀ n, (seqI c n).length = n
  | 0 => rfl
  | n + 1 => by show (seqI c n ++ _).length = _; rw [List.length_append, seq_len c n]; rfl
theorem gd_left {A B : List Int} {i : Nat} (h : i < A.length) : (A ++ B).getD i 0 = A.getD i 0 := by
  rw [List.getD_eq_getElem?_getD, List.getD_eq_getElem?_getD, List.getElem?_append_left h]
theorem gd_right {A B : List Int} {i : Nat} (h : A.length ≤ i) : (A ++ B).getD i 0 = B.getD (i - A.length) 0 := by
  rw [List.getD_eq_getElem?_getD, List.getD_eq_getElem?_getD, List.getElem?_append_right h]
theorem gd_take {A : List Int} {i n : Nat} (h : i < n) : (A.take n).getD i 0 = A.getD i 0 := by
  rw [List.getD_eq_getElem?_getD, List.getD_eq_getElem?_getD, List.getElem?_take_of_lt h]
theorem gd_drop {A : List Int} {i n : Nat} : (A.drop n).getD i 0 = A.getD (n + i) 0 := by
  rw [List.getD_eq_getElem?_getD, List.getD_eq_getElem?_getD, List.getElem?_drop]
theorem tk_more {A : List Int} {i : Nat} (h : i < A.length) : A.take (i + 1) = A.take i ++ [A.getD i 0] := by
  rw [List.take_succ_eq_append_getElem h, List.getD_eq_getElem?_getD, List.getElem?_eq_getElem h]; rfl
theorem seq_get (c : Int) : ∀ (n i : Nat), i < n → (seqI c n).getD i 0 = c + i
  | 0, i, h => by omega
  | n + 1, i, h => by
    show (seqI c n ++ _).getD i 0 = _
    by_cases e : i < n
    · rw [gd_left (by rw [seq_len]; exact e), seq_get c n i e]
    · obtain rfl : i = n := by omega
      rw [gd_right (by rw [seq_len]; exact Nat.le_refl _), seq_len, Nat.sub_self]; rfl

/-- A box of one cell at p, of type T, that holds the slice v, whose numbers lie in blocks of S. -/
structure Box (T : TypeId) (S : Home) (w : World) (p : Nat) (v : Value) (zs : List Int) : Prop where
  head : w.heap[p]? = some (.cells #[v] T (0, 0))
  row : Ints w S v zs
namespace Box
variable {T : TypeId}
theorem c0 (h : Box T S w p v zs) : w.cell? ⟨p, 0, none⟩ = some v := cell_of h.head rfl
theorem fz (h : Box T S w p v zs) : w.frozen? ⟨p, 0, none⟩ = false := frozen_of_row w p 0 _ _ h.head
theorem lt (h : Box T S w p v zs) : p < w.heap.size := block_lt h.head
theorem wrote (h : Box T S w p v zs) (ht : Wrote H w H' w') (ho : ¬ H p) (hs : Off S H) : Box T S w' p v zs :=
  ⟨by rw [ht.block p h.lt ho]; exact h.head, h.row.wrote ht hs⟩
theorem below (h : Box T S w p v zs) (hb : Below w.heap.size w w') : Box T S w' p v zs := h.wrote (H := fun _ => False) (Wrote.of_below hb) (fun h => h) (fun _ _ h => h)
theorem of_heap (h : Box T S w p v zs) (hh : w'.heap = w.heap) : Box T S w' p v zs := by
  refine ⟨by rw [hh]; exact h.head, ?_⟩
  obtain ⟨sp, cap, e, h1, h2⟩ := h.row
  refine ⟨sp, cap, e, h1, fun i hi => ?_⟩
  obtain ⟨b, off, e2, h3, h4, h5⟩ := h2 i hi
  exact ⟨b, off, e2, h3, by rw [hh]; exact h4, by rw [← h5]; unfold World.cell?; rw [hh]⟩
/-- Another row is laid into the box. -/
theorem stored {W1 W : World} {v1 : Value} {zs2 : List Int} (h : Box T S w p v zs) (hb : Below w.heap.size w W1) (hr : Ints W1 S v1 zs2) (hp : ¬ S p) (hh : W.heap = (W1.setCell ⟨p, 0, none⟩ v1).heap) (ho : W.os = W1.os) (ht : W.tape = W1.tape) (hu : W.output = W1.output) :
    Wrote (fun k => k = p) w (fun k => k = p) W ∧ Box T S W p v1 zs2 := by
  have h1 := h.below hb
  have hw : Wrote (fun k => k = p) W1 (fun k => k = p) W := wrote_setCell (H := fun k => k = p) (a := ⟨p, 0, none⟩) (u := v1) hh ho ht hu rfl
  refine ⟨(Wrote.of_below hb).trans hw, ?_, hr.wrote hw (fun k hk e => hp (e ▸ hk))⟩
  rw [hh, heap_setCell_same _ p 0 _ _ _ h1.head]; rfl
end Box
end Rw
end Go.Proofs.YtdhkakjiahkjnaaDoor
/- Heaps in rows, as container/heap keeps them: plain mathematics. -/
namespace Go.Proofs.YtdhkakjiahkjnaaDoor
namespace Hm
variable {α : Type} {d : α} {lt : α → α → Bool}
/-- An order of all, asked by a test. -/
structure Ord (lt : α → α → Bool) : Prop where
  asym : ∀ a b, lt a b = true → lt b a = false
  trans : ∀ a b c, lt b a = false → lt c b = false → lt c a = false
def swp (d : α) (L : List α) (i j : Nat) : List α := (L.set i (L.getD j d)).set j (L.getD i d)
theorem swp_len (L : List α) (i j : Nat) : (swp d L i j).length = L.length := by simp [swp]
theorem swp_get (L : List α) {i j : Nat} (hi : i < L.length) (hj : j < L.length) (k : Nat) : (swp d L i j).getD k d = if k = j then L.getD i d else if k = i then L.getD j d else L.getD k d := by
  unfold swp
  simp only [List.getD_eq_getElem?_getD, List.getElem?_set, List.length_set]
  by_cases h1 : k = j
  · subst h1; simp [hj]
  · by_cases h2 : k = i
    · subst h2; simp [h1, hi, Ne.symm h1]
    · simp [h1, h2, Ne.symm h1, Ne.symm h2]
theorem swp_self (L : List α) {i : Nat} (hi : i < L.length) : swp d L i i = L := by
  refine List.ext_getElem (by rw [swp_len]) (fun k h1 h2 => ?_)
  have e := swp_get (d := d) L hi hi k
  rw [List.getD_eq_getElem?_getD, List.getElem?_eq_getElem h1, List.getD_eq_getElem?_getD, List.getD_eq_getElem?_getD, List.getElem?_eq_getElem h2, List.getElem?_eq_getElem hi] at e
  by_cases h : k = i
  · subst h; simpa using e
  · simpa [h] using e
theorem getD_at {L : List α} {i : Nat} (h : i < L.length) : L.getD i d = L[i] := by
  rw [List.getD_eq_getElem?_getD, List.getElem?_eq_getElem h]; rfl
theorem swp_perm (L : List α) {i j : Nat} (hi : i < L.length) (hj : j < L.length) : (swp d L i j).Perm L := by
  unfold swp
  rw [getD_at hi, getD_at hj]
  exact List.set_set_perm hi hj
/-- All pairs of a child below n and its parent from b on are in order. -/
def Ok (d : α) (lt : α → α → Bool) (b n : Nat) (L : List α) : Prop := ∀ c, 0 < c → c < n → b ≤ (c - 1) / 2 → lt (L.getD c d) (L.getD ((c - 1) / 2) d) = false
/-- .. but for the pairs of i and its children; the children are in order with i's parent. -/
structure Hole (d : α) (lt : α → α → Bool) (b n i : Nat) (L : List α) : Prop where
  ok : ∀ c, 0 < c → c < n → b ≤ (c - 1) / 2 → (c - 1) / 2 ≠ i → c ≠ i → lt (L.getD c d) (L.getD ((c - 1) / 2) d) = false
  grand : ∀ c, 0 < c → c < n → (c - 1) / 2 = i → 0 < i → b ≤ (i - 1) / 2 → lt (L.getD c d) (L.getD ((i - 1) / 2) d) = false
/-- i is in order with its parent. -/
def Up (d : α) (lt : α → α → Bool) (b i : Nat) (L : List α) : Prop := 0 < i → b ≤ (i - 1) / 2 → lt (L.getD i d) (L.getD ((i - 1) / 2) d) = false
/-- i's children are in order with it. -/
def Kids (d : α) (lt : α → α → Bool) (n i : Nat) (L : List α) : Prop := ∀ c, 0 < c → c < n → (c - 1) / 2 = i → lt (L.getD c d) (L.getD i d) = false
theorem Hole.done {b n i : Nat} {L : List α} (h : Hole d lt b n i L) (hu : Up d lt b i L) (hk : Kids d lt n i L) : Ok d lt b n L := fun c c0 cn cb => by
  by_cases h1 : c = i
  · subst h1; exact hu c0 cb
  · by_cases h2 : (c - 1) / 2 = i
    · rw [h2]; exact hk c c0 cn h2
    · exact h.ok c c0 cn cb h2 h1
/-- The least of i's children, where it is to go ahead of i. -/
theorem Hole.sink (o : Ord lt) {b n i j : Nat} {L : List α} (h : Hole d lt b n i L) (hn : n ≤ L.length) (hb : b ≤ i) (hj : j < n) (hp : (j - 1) / 2 = i) (j0 : 0 < j) (hl : lt (L.getD j d) (L.getD i d) = true)
    (hs : ∀ s, 0 < s → s < n → (s - 1) / 2 = i → lt (L.getD s d) (L.getD j d) = false) : Hole d lt b n j (swp d L i j) ∧ Up d lt b j (swp d L i j) ∧ Up d lt b i (swp d L i j) := by
  have hi : i < L.length := by omega
  have hjl : j < L.length := by omega
  have hij : i ≠ j := by omega
  have g := swp_get (d := d) L hi hjl
  have gi : (swp d L i j).getD i d = L.getD j d := by rw [g, if_neg hij, if_pos rfl]
  have gj : (swp d L i j).getD j d = L.getD i d := by rw [g, if_pos rfl]
  have gk : ∀ k, k ≠ i → k ≠ j → (swp d L i j).getD k d = L.getD k d := fun k h1 h2 => by rw [g, if_neg h2, if_neg h1]
  have hui : Up d lt b i (swp d L i j) := fun i0 ib => by
    rw [gi, gk _ (by omega) (by omega)]
    exact h.grand j j0 hj hp i0 ib
  refine ⟨⟨fun c c0 cn cb h1 h2 => ?_, fun c c0 cn cp _ _ => ?_⟩, fun _ _ => ?_, hui⟩
  · by_cases h3 : c = i
    · subst h3; exact hui c0 cb
    · rw [gk c h3 h2]
      by_cases h4 : (c - 1) / 2 = i
      · rw [h4, gi]; exact hs c c0 cn h4
      · rw [gk _ h4 h1]; exact h.ok c c0 cn cb h4 h3
  · rw [gk c (by omega) (by omega), hp, gi, ← cp]
    exact h.ok c c0 cn (by omega) (by omega) (by omega)
  · rw [gj, hp, gi]
    exact o.asym _ _ hl
/-- i goes ahead of its parent. -/
theorem Hole.rise (o : Ord lt) {n j i : Nat} {L : List α} (h : Hole d lt 0 n j L) (hk : Kids d lt n j L) (hn : n ≤ L.length) (hj : j < n) (j0 : 0 < j) (hi : (j - 1) / 2 = i) (hl : lt (L.getD j d) (L.getD i d) = true) : Hole d lt 0 n i (swp d L i j) ∧ Kids d lt n i (swp d L i j) := by
  have hil : i < L.length := by omega
  have hjl : j < L.length := by omega
  have hij : i ≠ j := by omega
  have g := swp_get (d := d) L hil hjl
  have gi : (swp d L i j).getD i d = L.getD j d := by rw [g, if_neg hij, if_pos rfl]
  have gj : (swp d L i j).getD j d = L.getD i d := by rw [g, if_pos rfl]
  have gk : ∀ k, k ≠ i → k ≠ j → (swp d L i j).getD k d = L.getD k d := fun k h1 h2 => by rw [g, if_neg h2, if_neg h1]
  have old : ∀ c, 0 < c → c < n → (c - 1) / 2 = i → c ≠ j → lt (L.getD c d) (L.getD i d) = false := fun c c0 cn cp cj => by
    have := h.ok c c0 cn (by omega) (by omega) cj
    rwa [cp] at this
  have hkid : Kids d lt n i (swp d L i j) := fun c c0 cn cp => by
    rw [gi]
    by_cases h1 : c = j
    · subst h1; rw [gj]; exact o.asym _ _ hl
    · rw [gk c (by omega) h1]
      exact o.trans _ _ _ (o.asym _ _ hl) (old c c0 cn cp h1)
  refine ⟨⟨fun c c0 cn cb h1 h2 => ?_, fun c c0 cn cp i0 _ => ?_⟩, hkid⟩
  · by_cases h3 : (c - 1) / 2 = j
    · rw [gk c h2 (by omega), h3, gj, ← hi]
      exact h.grand c c0 cn h3 j0 (by omega)
    · by_cases h4 : c = j
      · subst h4; exact absurd hi h1
      · rw [gk c h2 h4, gk _ h1 h3]
        exact h.ok c c0 cn cb h3 h4
  · rw [gk ((i - 1) / 2) (by omega) (by omega)]
    have hg : lt (L.getD i d) (L.getD ((i - 1) / 2) d) = false := h.ok i i0 (by omega) (by omega) (by omega) hij
    by_cases h1 : c = j
    · subst h1; rw [gj]; exact hg
    · rw [gk c (by omega) h1]
      exact o.trans _ _ _ hg (old c c0 cn cp h1)
/-- In a heap the first one is ahead of all. -/
theorem Ok.least (o : Ord lt) {n : Nat} {L : List α} (h : Ok d lt 0 n L) : ∀ k c, c ≤ k → c < n → lt (L.getD c d) (L.getD 0 d) = false := by
  have ir : ∀ a, lt a a = false := fun a => by
    cases e : lt a a with
    | false => rfl
    | true => have := o.asym a a e; rw [e] at this; exact this
  intro k
  induction k with
  | zero => intro c hc _; obtain rfl : c = 0 := by omega
            exact ir _
  | succ k ih =>
    intro c hc cn
    rcases Nat.eq_zero_or_pos c with rfl | c0
    · exact ir _
    · exact o.trans _ _ _ (ih ((c - 1) / 2) (by omega) (by omega)) (h c c0 cn (by omega))
theorem Ok.less {b n m : Nat} {L : List α} (h : Ok d lt b n L) (hm : m ≤ n) : Ok d lt b m L := fun c c0 cm cb => h c c0 (by omega) cb
/-- A heap of n, its places below n as they were. -/
theorem Ok.same {b n : Nat} {L M : List α} (h : Ok d lt b n L) (hs : ∀ k, k < n → M.getD k d = L.getD k d) : Ok d lt b n M := fun c c0 cn cb => by
  rw [hs c cn, hs _ (by omega)]; exact h c c0 cn cb
theorem ok_one {b n : Nat} {L : List α} (hn : n ≤ 2 * b + 1) : Ok d lt b n L := fun c c0 cn cb => by omega
/-- Where the pairs from i + 1 on are in order, i is the hole. -/
theorem hole_at {n i : Nat} {L : List α} (h : Ok d lt (i + 1) n L) : Hole d lt i n i L ∧ Up d lt i i L :=
  ⟨⟨fun c c0 cn cb h1 _ => h c c0 cn (by omega), fun c c0 cn cp i0 hb => by omega⟩, fun i0 hb => by omega⟩
/-- The first one gone to the end, and the last one in its place: the hole is 0. -/
theorem hole_top {n : Nat} {L M : List α} (h : Ok d lt 0 n L) (hs : ∀ k, 0 < k → k < n → M.getD k d = L.getD k d) : Hole d lt 0 n 0 M ∧ Up d lt 0 0 M :=
  ⟨⟨fun c c0 cn cb h1 _ => by rw [hs c c0 cn, hs _ (by omega) (by omega)]; exact h c c0 cn cb, fun c c0 cn cp i0 hb => by omega⟩, fun i0 hb => by omega⟩
/-- Another one in the midst. -/
theorem hole_mid (o : Ord lt) {n i : Nat} {L M : List α} (h : Ok d lt 0 n L) (hi : i < n) (hs : ∀ k, k ≠ i → k < n → M.getD k d = L.getD k d) : Hole d lt 0 n i M :=
  ⟨fun c c0 cn cb h1 h2 => by rw [hs c h2 cn, hs _ h1 (by omega)]; exact h c c0 cn cb, fun c c0 cn cp i0 hb => by
    rw [hs c (by omega) cn, hs _ (by omega) (by omega)]
    have h1 := h c c0 cn (by omega)
    rw [cp] at h1
    exact o.trans _ _ _ (h i i0 hi hb) h1⟩
/-- One more at the end. -/
theorem hole_end {n : Nat} {L M : List α} (h : Ok d lt 0 n L) (hs : ∀ k, k < n → M.getD k d = L.getD k d) : Hole d lt 0 (n + 1) n M ∧ Kids d lt (n + 1) n M :=
  ⟨⟨fun c c0 cn cb h1 h2 => by rw [hs c (by omega), hs _ (by omega)]; exact h c c0 (by omega) cb, fun c c0 cn cp _ _ => by omega⟩, fun c c0 cn cp => by omega⟩
end Hm
end Go.Proofs.YtdhkakjiahkjnaaDoor
/- The ways of container/heap's up and down: what holds at each round; plain mathematics. -/
namespace Go.Proofs.YtdhkakjiahkjnaaDoor
set_option linter.unusedVariables false
namespace Hm
variable {α : Type} {d : α} {lt : α → α → Bool}
/-- up: the one at j is on its way. -/
structure UpI (d : α) (lt : α → α → Bool) (n : Nat) (ys0 : List α) (j : Nat) (ys : List α) : Prop where
  perm : ys.Perm ys0
  len : ys.length = n
  hole : Hole d lt 0 n j ys
  kids : Kids d lt n j ys
  lt : j < n
theorem UpI.step (o : Ord lt) {n j i : Nat} {ys0 ys : List α} (h : UpI d lt n ys0 j ys) (hi : i = (j - 1) / 2) (j0 : 0 < j) (hl : lt (ys.getD j d) (ys.getD i d) = true) : UpI d lt n ys0 i (swp d ys i j) := by
  subst hi
  have hj := h.lt
  have hn := h.len
  obtain ⟨h1, h2⟩ := h.hole.rise o h.kids (by omega) h.lt j0 rfl hl
  exact ⟨(swp_perm _ (by omega) (by omega)).trans h.perm, by rw [swp_len]; exact hn, h1, h2, by omega⟩
theorem UpI.done {n j : Nat} {ys0 ys : List α} (h : UpI d lt n ys0 j ys) (hu : 0 < j → lt (ys.getD j d) (ys.getD ((j - 1) / 2) d) = false) : Ok d lt 0 n ys :=
  h.hole.done (fun j0 _ => hu j0) h.kids
/-- down: the one at i is on its way, from i0 on. -/
structure DownI (d : α) (lt : α → α → Bool) (b n i0 : Nat) (ys0 : List α) (i : Nat) (ys : List α) : Prop where
  perm : ys.Perm ys0
  len : ys.length = ys0.length
  hole : Hole d lt b n i ys
  low : b ≤ i0
  from_ : i0 ≤ i
  start : i = i0 → ys = ys0
  up : i0 < i → Up d lt b i ys
  rest : ∀ k, n ≤ k → ys.getD k d = ys0.getD k d
  n : n ≤ ys0.length
/-- What down leaves: it moved, and it is a heap; or it did not, and the one at i0 is ahead of its children. -/
structure DownO (d : α) (lt : α → α → Bool) (b n i0 : Nat) (ys0 : List α) (m : Bool) (ys : List α) : Prop where
  perm : ys.Perm ys0
  len : ys.length = ys0.length
  moved : m = true → Ok d lt b n ys
  still : m = false → ys = ys0 ∧ Kids d lt n i0 ys0
  rest : ∀ k, n ≤ k → ys.getD k d = ys0.getD k d
theorem DownI.begin {b n i0 : Nat} {ys0 : List α} (h : Hole d lt b n i0 ys0) (hb : b ≤ i0) (hn : n ≤ ys0.length) : DownI d lt b n i0 ys0 i0 ys0 :=
  ⟨.refl _, rfl, h, hb, Nat.le_refl _, fun _ => rfl, fun h => by omega, fun _ _ => rfl, hn⟩
theorem DownI.step (o : Ord lt) {b n i0 i j : Nat} {ys0 ys : List α} (h : DownI d lt b n i0 ys0 i ys) (hj : j < n) (hp : j = 2 * i + 1 ∨ j = 2 * i + 2) (hl : lt (ys.getD j d) (ys.getD i d) = true)
    (hs : ∀ s, s < n → (s = 2 * i + 1 ∨ s = 2 * i + 2) → lt (ys.getD s d) (ys.getD j d) = false) : DownI d lt b n i0 ys0 j (swp d ys i j) := by
  have hn := h.n
  have hlen := h.len
  have hlow := h.low
  have hfrom := h.from_
  obtain ⟨h1, h2, h3⟩ := h.hole.sink o (by omega) (by omega) hj (by omega) (by omega) hl (fun s s0 sn sp => hs s sn (by omega))
  refine ⟨(swp_perm _ (by omega) (by omega)).trans h.perm, by rw [swp_len]; exact hlen, h1, hlow, by omega, fun e => by omega, fun _ => h2, fun k hk => ?_, hn⟩
  rw [swp_get _ (by omega) (by omega), if_neg (by omega), if_neg (by omega)]
  exact h.rest k hk
theorem DownI.done {b n i0 i : Nat} {ys0 ys : List α} (h : DownI d lt b n i0 ys0 i ys) (hk : ∀ s, s < n → (s = 2 * i + 1 ∨ s = 2 * i + 2) → lt (ys.getD s d) (ys.getD i d) = false) : DownO d lt b n i0 ys0 (decide (i0 < i)) ys := by
  have hk2 : Kids d lt n i ys := fun c c0 cn cp => hk c cn (by omega)
  have hf := h.from_
  refine ⟨h.perm, h.len, fun e => h.hole.done (h.up (by simpa using e)) hk2, fun e => ?_, h.rest⟩
  have e2 : i = i0 := by simp only [decide_eq_false_iff_not] at e; omega
  have := h.start e2
  subst e2 this
  exact ⟨rfl, hk2⟩
/-- The answer of down, whatever it was, where the hole was in order with its parent. -/
theorem DownO.ok {b n i0 : Nat} {ys0 ys : List α} {m : Bool} (h : DownO d lt b n i0 ys0 m ys) (hh : Hole d lt b n i0 ys0) (hu : Up d lt b i0 ys0) : Ok d lt b n ys := by
  cases m with
  | true => exact h.moved rfl
  | false =>
    obtain ⟨h1, h2⟩ := h.still rfl
    subst h1
    exact hh.done hu h2
theorem irrefl (o : Ord lt) (a : α) : lt a a = false := by
  cases e : lt a a with
  | false => rfl
  | true => have := o.asym a a e; rw [e] at this; exact this
/-- A heap of one more, put at the end. -/
theorem UpI.begin {n : Nat} {L : List α} {x : α} (h : Ok d lt 0 n L) (hn : L.length = n) : UpI d lt (n + 1) (L ++ [x]) n (L ++ [x]) := by
  obtain ⟨h1, h2⟩ := hole_end (n := n) h (M := L ++ [x]) (fun k hk => by
    simp only [List.getD_eq_getElem?_getD]
    rw [List.getElem?_append_left (by omega)])
  exact ⟨.refl _, by simp [hn], h1, h2, by omega⟩
/-- The first one and the last one in each other's place: the hole is 0. -/
theorem top_swap {n : Nat} {L : List α} (h : Ok d lt 0 (n + 1) L) (hn : L.length = n + 1) : Hole d lt 0 n 0 (swp d L 0 n) ∧ Up d lt 0 0 (swp d L 0 n) ∧ (swp d L 0 n).getD n d = L.getD 0 d := by
  obtain ⟨h1, h2⟩ := hole_top (n := n) (h.less (Nat.le_succ n)) (M := swp d L 0 n) (fun k k0 hk => by
    rw [swp_get _ (by omega) (by omega), if_neg (by omega), if_neg (by omega)])
  refine ⟨h1, h2, ?_⟩
  rw [swp_get _ (by omega) (by omega), if_pos rfl]
/-- All but the last one, of a row of n + 1. -/
theorem cut_last {n : Nat} {L : List α} (hn : L.length = n + 1) : (L.take n ++ [L.getD n d]) = L := by
  rw [getD_at (by omega)]
  have : L.take n ++ L.drop n = L := List.take_append_drop n L
  rw [List.drop_eq_getElem_cons (by omega), List.drop_eq_nil_of_le (by omega)] at this
  exact this
theorem take_get {n k : Nat} {L : List α} (hk : k < n) : (L.take n).getD k d = L.getD k d := by
  simp only [List.getD_eq_getElem?_getD]
  rw [List.getElem?_take, if_pos hk]
/-- Pop's end: what is left, and the one that was first. -/
theorem pop_end {n : Nat} {L ys : List α} {m : Bool} (h : Ok d lt 0 (n + 1) L) (hn : L.length = n + 1) (ho : DownO d lt 0 n 0 (swp d L 0 n) m ys) : ys.length = n + 1 ∧ ys.getD n d = L.getD 0 d ∧ Ok d lt 0 n (ys.take n) ∧ (L.getD 0 d :: ys.take n).Perm L := by
  obtain ⟨h1, h2, h3⟩ := top_swap h hn
  have hl : ys.length = n + 1 := by rw [ho.len, swp_len]; exact hn
  have hlast : ys.getD n d = L.getD 0 d := by rw [ho.rest n (Nat.le_refl n)]; exact h3
  refine ⟨hl, hlast, ((ho.ok h1 h2).same (fun k hk => take_get hk)), ?_⟩
  have hp : ys.Perm L := ho.perm.trans (swp_perm _ (by omega) (by omega))
  rw [← cut_last (d := d) hl, hlast] at hp
  exact (List.perm_append_comm (l₁ := [L.getD 0 d])).trans hp
end Hm
end Go.Proofs.YtdhkakjiahkjnaaDoor
/- The document's own Put: a rising list with a number, once. -/

namespace Go.Proofs.YtdhkakjiahkjnaaDoor
open Go.RowKit Go.Lib Fx Ho Qu
set_option linter.unusedVariables false
namespace Rw
variable {w w' : World} {v : Value} {zs A B : List Int} {S : Home}
def putL : List Int → Int → List Int
  | [], x => [x]
  | y :: l, x => if y < x then y :: putL l x else if y = x then y :: l else x :: y :: l
theorem mem_putL {x z : Int} : ∀ l : List Int, z ∈ putL l x ↔ z = x ∨ z ∈ l
  | [] => by simp [putL]
  | y :: l => by
    unfold putL
    by_cases h : y < x
    · rw [if_pos h, List.mem_cons, mem_putL l, List.mem_cons]
      constructor
      · rintro (h | h | h) <;> simp [h]
      · rintro (h | h | h) <;> simp [h]
    · rw [if_neg h]
      by_cases e : y = x
      · rw [if_pos e, e]; simp
      · rw [if_neg e]; simp
theorem rise_putL {x : Int} : ∀ l : List Int, l.Pairwise (· < ·) → (putL l x).Pairwise (· < ·)
  | [], _ => by simp [putL]
  | y :: l, h => by
    obtain ⟨h1, h2⟩ := List.pairwise_cons.1 h
    unfold putL
    by_cases e : y < x
    · rw [if_pos e]
      refine List.pairwise_cons.2 ⟨fun z hz => ?_, rise_putL l h2⟩
      rcases (mem_putL l).1 hz with rfl | hz
      · exact e
      · exact h1 z hz
    · rw [if_neg e]
      by_cases e2 : y = x
      · rw [if_pos e2]; exact h
      · rw [if_neg e2]
        refine List.pairwise_cons.2 ⟨fun z hz => ?_, h⟩
        rcases List.mem_cons.1 hz with rfl | hz
        · omega
        · have := h1 z hz; omega
/-- Two rising lists with the same members are one. -/
theorem rise_eq : ∀ {l m : List Int}, l.Pairwise (· < ·) → m.Pairwise (· < ·) → (∀ z, z ∈ l ↔ z ∈ m) → l = m
  | [], [], _, _, _ => rfl
  | [], y :: m, _, _, h => by have := (h y).2 (by simp); simp at this
  | y :: l, [], _, _, h => by have := (h y).1 (by simp); simp at this
  | x :: l, y :: m, h1, h2, h => by
    obtain ⟨a1, a2⟩ := List.pairwise_cons.1 h1
    obtain ⟨b1, b2⟩ := List.pairwise_cons.1 h2
    have hxy : x = y := by
      have hx := (h x).1 (by simp)
      have hy := (h y).2 (by simp)
      rcases List.mem_cons.1 hx with hx | hx
      · exact hx
      · rcases List.mem_cons.1 hy with hy | hy
        · exact hy.symm
        · have := b1 x hx; have := a1 y hy; omega
    subst hxy
    rw [rise_eq a2 b2 (fun z => ?_)]
    constructor
    · intro hz
      rcases List.mem_cons.1 ((h z).1 (List.mem_cons_of_mem _ hz)) with e | e
      · have := a1 z hz; omega
      · exact e
    · intro hz
      rcases List.mem_cons.1 ((h z).2 (List.mem_cons_of_mem _ hz)) with e | e
      · have := b1 z hz; omega
      · exact e
/-- Where the number belongs. -/
theorem put_at {x : Int} : ∀ l : List Int, ∃ A B, l = A ++ B ∧ (∀ a ∈ A, a < x) ∧ ((∃ C, B = x :: C ∧ putL l x = l) ∨ ((∀ y C, B = y :: C → x < y) ∧ putL l x = A ++ x :: B))
  | [] => ⟨[], [], rfl, by simp, Or.inr ⟨by simp, rfl⟩⟩
  | y :: l => by
    by_cases e : y < x
    · obtain ⟨A, B, h1, h2, h3⟩ := put_at (x := x) l
      refine ⟨y :: A, B, by rw [h1]; rfl, fun a ha => ?_, ?_⟩
      · rcases List.mem_cons.1 ha with rfl | ha
        · exact e
        · exact h2 a ha
      · have hp : putL (y :: l) x = y :: putL l x := by show (if _ then _ else _) = _; rw [if_pos e]
        rcases h3 with ⟨C, h4, h5⟩ | ⟨h4, h5⟩
        · exact Or.inl ⟨C, h4, by rw [hp, h5]⟩
        · exact Or.inr ⟨h4, by rw [hp, h5]; rfl⟩
    · refine ⟨[], y :: l, rfl, by simp, ?_⟩
      by_cases e2 : y = x
      · exact Or.inl ⟨l, by rw [e2], by show (if _ then _ else _) = _; rw [if_neg e, if_pos e2]⟩
      · exact Or.inr ⟨fun z C h => by injection h with h1 h2; omega, by show (if _ then _ else _) = _; rw [if_neg e, if_neg e2]; rfl⟩
end Rw
end Go.Proofs.YtdhkakjiahkjnaaDoor
/- What the document's own Out makes of a row: it without the first such number, in a new block, or itself. -/
namespace Go.Proofs.YtdhkakjiahkjnaaDoor
open Go.RowKit Go.Lib Fx Ho Qu
set_option linter.unusedVariables false
namespace Rw
variable {w w' : World} {p : Nat} {v : Value} {zs A B : List Int} {H H' S : Home}
end Rw
end Go.Proofs.YtdhkakjiahkjnaaDoor
/- The document's own Put, where the number is new: three appends in one region. -/
namespace Go.Proofs.YtdhkakjiahkjnaaDoor
open Go.RowKit Go.Lib Fx Ho Qu
set_option linter.unusedVariables false
namespace Rw
variable {w w' : World} {v : Value} {zs A B : List Int} {S : Home}
theorem lt_new (w : World) (o : Obj) : w.heap.size < (w.alloc o).heap.size := by
  show _ < (w.heap.push _).size; rw [Array.size_push]; omega
theorem size_new (w : World) (o : Obj) : (w.alloc o).heap.size = w.heap.size + 1 := by
  show (w.heap.push _).size = _; rw [Array.size_push]
theorem lt_new1 {w W : World} {o : Obj} (h : W.heap.size = w.heap.size + 1) : w.heap.size + 1 < (W.alloc o).heap.size := by have := lt_new W o; omega
theorem heap_new1 {w W : World} {C : Array Value} {t : TypeId} (h : W.heap.size = w.heap.size + 1) : (W.alloc (.cells C t)).heap[w.heap.size + 1]? = some (.cells C t (0, 0)) := by rw [← h]; exact heap_alloc_new _ _
theorem old_new {w W : World} {C : Array Value} {t : TypeId} (hb : Below (w.alloc (.cells C t)).heap.size (w.alloc (.cells C t)) W) : W.heap[w.heap.size]? = some (.cells C t (0, 0)) := (hb.block _ (lt_new _ _)).trans (heap_alloc_new _ _)
theorem lit_off {W : World} {N : Nat} (h : N < W.heap.size) : OffRow W (.slice (some ⟨N, 0, none⟩) 0 0) [] := ⟨some ⟨N, 0, none⟩, N, 0, 0, rfl, ⟨by decide, fun h => (by simp at h), fun h => (by simp at h), by simp [cells], fun j u h => (by simp [cells] at h), fun j h => (by simp at h)⟩, ⟨by decide, fun j h => by omega⟩, .inl ⟨rfl, h⟩⟩
theorem src1_at {W : World} {N : Nat} {x : Int} (hb : W.heap[N]? = some (.cells #[.int .i64 x] 3 (0, 0))) : Src Tryd.prog 1 23 (.slice (some ⟨N, 0, none⟩) 1 1) [x].length (cells [x]) W :=
  Src.ofSlice _ Tryd.underlying23 ⟨N, 0, none⟩ 1 1 (cells [x]) rfl (fun j u hj => by
    cases j with
    | zero => simp [cells] at hj; subst hj; exact cell_of hb rfl
    | succ j => simp [cells] at hj) (cells_one _)
theorem off_one {wq W w1 : World} {N : Nat} {L : List Int} {v1 : Value} (hb : Below wq.heap.size wq W) (hN : wq.heap.size ≤ N) (g1 : OffRow w1 v1 ([] ++ L)) (g2 : Wrote (fun k => (Value.slice (some ⟨N, 0, none⟩) 0 0).ownBlock = some k) W (fun k => v1.ownBlock = some k) w1) : OffRow w1 v1 L ∧ Low wq.heap.size (fun k => v1.ownBlock = some k) ∧ Below wq.heap.size wq w1 ∧ ∀ k o, k ≠ N → W.heap[k]? = some o → w1.heap[k]? = some o := by
  have hlow := low_some (n := 0) (c := 0) hN
  exact ⟨g1, g2.low hlow hb.size, g2.below hlow hb, fun k o hk ho => (g2.block k (block_lt ho) (fun e => hk (Option.some.inj e).symm)).trans ho⟩
def PutNew (w : World) (zs : List Int) (e : Ending) (w' : World) : Prop := ∃ v', e = .returned v' ∧ OffRow w' v' zs ∧ Low w.heap.size (fun k => v'.ownBlock = some k) ∧ Below w.heap.size w w'
end Rw
end Go.Proofs.YtdhkakjiahkjnaaDoor
