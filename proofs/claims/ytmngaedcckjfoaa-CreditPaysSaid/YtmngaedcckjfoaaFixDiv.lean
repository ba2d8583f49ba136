/- What math/bits' Div64 answers, for every number of two words and every divisor that is greater than the upper word: quotient and rest. -/
import Derived.Test.YtmngaedcckjfoaaFixMath
import Derived.Test.YtmngaedcckjfoaaFixBits
namespace Go.Proofs.Ytmngaedcckjfoaa
open Go.RowKit Go.Lib
set_option linter.unusedVariables false
namespace Fx
def GuessI (u d a b : Nat) (q r : Int) : Prop := Guess u d a b q.toNat r.toNat
def DigitI (u d a b : Nat) (q : Int) : Prop := Digit u d a b q.toNat

/-- How the numbers of the division belong together. -/
structure Pre (hi lo y L u a b d1 d0 : Nat) (Y U A B1 D1 D0 : Int) : Prop where
  hL : 1 ≤ L ∧ L ≤ 64
  y0 : 0 < y
  hY : Y = ((a * 4294967296 + b : Nat) : Int)
  hYS : a * 4294967296 + b = y * 2 ^ (64 - L)
  hYB : a * 4294967296 + b < 18446744073709551616
  hU : U = (u : Int)
  hu : u < a * 4294967296 + b
  hA : A = (a : Int)
  hB : B1 = (b : Int)
  hD1 : D1 = (d1 : Int)
  hD0 : D0 = (d0 : Int)
  ha : 2147483648 ≤ a
  ha' : a < 4294967296
  hb : b < 4294967296
  hd1 : d1 < 4294967296
  hd0 : d0 < 4294967296
  hN : (hi * 18446744073709551616 + lo) * 2 ^ (64 - L) = u * 18446744073709551616 + d1 * 4294967296 + d0

theorem wnat (z : Nat) (h : z < 18446744073709551616) : IntKind.u64.wrap (z : Int) = (z : Int) := by rw [IntKind.wrap_u64]; omega
theorem wmod (z : Nat) : IntKind.u64.wrap (z : Int) = ((z % 18446744073709551616 : Nat) : Int) := by rw [IntKind.wrap_u64]; omega

theorem pre_of {hi lo y L : Nat} (h : hi < y) (hlo : lo < 18446744073709551616) (b1 : 1 ≤ L) (b2 : L ≤ 64) (b3 : 2 ^ (L - 1) ≤ y) (b4 : y < 2 ^ L) :
    ∃ (Y Hs l2 U D A B1 D1 D0 : Int) (u a b d1 d0 : Nat), IntKind.u64.wrap ((y : Int) * 2 ^ (64 - L)) = Y ∧ IntKind.u64.wrap ((hi : Int) * 2 ^ (64 - L)) = Hs ∧ (lo : Int) / 2 ^ (64 - (64 - L)) = l2 ∧ bits .or .u64 Hs l2 = U ∧
      IntKind.u64.wrap ((lo : Int) * 2 ^ (64 - L)) = D ∧ Y / 4294967296 = A ∧ bits .and .u64 Y 4294967295 = B1 ∧ D / 4294967296 = D1 ∧ bits .and .u64 D 4294967295 = D0 ∧ Pre hi lo y L u a b d1 d0 Y U A B1 D1 D0 := by
  obtain ⟨s1, s2, s3, s4, s5⟩ := shifted (s := 64 - L) (by omega) h (by rw [show 64 - (64 - L) = L by omega]; exact b4) hlo
  have s6 := shifted_high (y := y) (s := 64 - L) (by omega) (by rw [show 63 - (64 - L) = L - 1 by omega]; exact b3)
  have s7 : y * 2 ^ (64 - L) < 18446744073709551616 := by
    have e : (2 : Nat) ^ L * 2 ^ (64 - L) = 18446744073709551616 := by rw [← Nat.pow_add, show L + (64 - L) = 64 by omega]
    have : y * 2 ^ (64 - L) < 2 ^ L * 2 ^ (64 - L) := Nat.mul_lt_mul_of_pos_right b4 (Nat.two_pow_pos _)
    omega
  have eY : IntKind.u64.wrap ((y : Int) * 2 ^ (64 - L)) = ((y * 2 ^ (64 - L) : Nat) : Int) := by
    rw [← wnat _ s7]; push_cast; rfl
  have eH : IntKind.u64.wrap ((hi : Int) * 2 ^ (64 - L)) = ((hi * 2 ^ (64 - L) : Nat) : Int) := by
    rw [← wnat _ s1]; push_cast; rfl
  have eD : IntKind.u64.wrap ((lo : Int) * 2 ^ (64 - L)) = ((lo * 2 ^ (64 - L) % 18446744073709551616 : Nat) : Int) := by
    rw [← wmod]; push_cast; rfl
  have el : (lo : Int) / 2 ^ (64 - (64 - L)) = ((lo / 2 ^ (64 - (64 - L)) : Nat) : Int) := by push_cast; rfl
  have eU : bits .or .u64 ((hi * 2 ^ (64 - L) : Nat) : Int) ((lo / 2 ^ (64 - (64 - L)) : Nat) : Int) = ((hi * 2 ^ (64 - L) + lo / 2 ^ (64 - (64 - L)) : Nat) : Int) := by
    rw [bits_or_u64_nat _ _ s1 (by omega), or_low s5]
  refine ⟨_, _, _, _, _, _, _, _, _, hi * 2 ^ (64 - L) + lo / 2 ^ (64 - (64 - L)), y * 2 ^ (64 - L) / 4294967296, y * 2 ^ (64 - L) % 4294967296, lo * 2 ^ (64 - L) % 18446744073709551616 / 4294967296, lo * 2 ^ (64 - L) % 18446744073709551616 % 4294967296, eY, eH, el, eU, eD, rfl, Fb.maskN _ s7, rfl, Fb.maskN _ (Nat.mod_lt _ (by omega)), ?_⟩
  have hDD : lo * 2 ^ (64 - L) % 18446744073709551616 < 18446744073709551616 := Nat.mod_lt _ (by omega)
  clear eY eH eD el eU
  generalize hYY : y * 2 ^ (64 - L) = YY at *
  generalize lo * 2 ^ (64 - L) % 18446744073709551616 = DD at *
  generalize hi * 2 ^ (64 - L) + lo / 2 ^ (64 - (64 - L)) = UU at *
  refine ⟨⟨b1, b2⟩, by omega, ?_, by rw [hYY]; omega, by omega, rfl, by omega, by omega, rfl, by omega, rfl, by omega, by omega, by omega, by omega, by omega, ?_⟩
  · omega
  · rw [s4]; omega

theorem sub_wrap (x p : Int) : IntKind.u64.wrap (x - IntKind.u64.wrap p) = (x - p) % 18446744073709551616 := by
  rw [IntKind.wrap_u64, IntKind.wrap_u64, Int.sub_emod, Int.emod_emod, ← Int.sub_emod]
theorem rest_wrap (x d p : Int) : IntKind.u64.wrap (IntKind.u64.wrap (IntKind.u64.wrap x + d) - IntKind.u64.wrap p) = (x + d - p) % 18446744073709551616 := by
  rw [sub_wrap, IntKind.wrap_u64, IntKind.wrap_u64, Int.emod_add_emod, Int.sub_emod, Int.emod_emod, ← Int.sub_emod]
theorem small_mod (x : Int) (n : Nat) (h : x = (n : Int)) (hn : n < 18446744073709551616) : x % 18446744073709551616 = (n : Int) := by subst h; omega
theorem rest_nat (q a r u : Nat) (e : q * a + r = u) : (u : Int) - ((q * a : Nat) : Int) = (r : Int) := by omega
/-- Behind the first digit. -/
theorem mid_of {hi lo y L u a b d1 d0 : Nat} {Y U A B1 D1 D0 q : Int} (p : Pre hi lo y L u a b d1 d0 Y U A B1 D1 D0) (hq0 : 0 ≤ q) (g : DigitI u d1 a b q) :
    ∃ (U1 Q0 R0 : Int) (u1 : Nat), IntKind.u64.wrap (IntKind.u64.wrap (IntKind.u64.wrap (U * 4294967296) + D1) - IntKind.u64.wrap (q * Y)) = U1 ∧ IntKind.u64.wrap (U1.tdiv A) = Q0 ∧ IntKind.u64.wrap (U1 - IntKind.u64.wrap (Q0 * A)) = R0 ∧
      GuessI u1 d0 a b Q0 R0 ∧ 0 ≤ Q0 ∧ Q0 ≤ 4294967297 ∧ 0 ≤ R0 ∧ R0 < 4294967296 ∧ q < 4294967296 ∧ U1 = (u1 : Int) ∧ u1 = u * 4294967296 + d1 - q.toNat * (a * 4294967296 + b) := by
  obtain ⟨hL, y0, hY, hYS, hYB, hU, hu, hA, hB, hD1, hD0, ha, ha', hb, hd1, hd0, hN⟩ := p
  obtain ⟨n, rfl⟩ : ∃ n : Nat, q = (n : Int) := ⟨q.toNat, by omega⟩
  unfold DigitI at g
  rw [Int.toNat_natCast] at g ⊢
  have hlt := digit_lt hd1 hu g
  obtain ⟨e1, e2⟩ := digit_rest hYB g
  have eU1 : IntKind.u64.wrap (IntKind.u64.wrap (IntKind.u64.wrap (U * 4294967296) + D1) - IntKind.u64.wrap ((n : Int) * Y)) = ((u * 4294967296 + d1 - n * (a * 4294967296 + b) : Nat) : Int) := by
    rw [hU, hD1, hY, Fb.mulN n, rest_wrap, ← e1]
    congr 1
  generalize hu1 : u * 4294967296 + d1 - n * (a * 4294967296 + b) = u1 at *
  have g0 := guess_start ha ha' hb hd0 e2
  have bq : u1 / a ≤ 4294967297 := g0.2.2.1
  have br : u1 % a < 4294967296 := g0.2.2.2
  have em := Nat.div_add_mod' u1 a
  have eQ : IntKind.u64.wrap ((u1 : Int).tdiv A) = ((u1 / a : Nat) : Int) := by
    rw [hA, ← wnat (u1 / a) (by omega)]; rfl
  have eR : IntKind.u64.wrap ((u1 : Int) - IntKind.u64.wrap (((u1 / a : Nat) : Int) * A)) = ((u1 % a : Nat) : Int) := by
    rw [hA, Fb.mulN (u1 / a), sub_wrap]
    exact small_mod _ _ (rest_nat _ _ _ _ em) (Nat.lt_trans br (by decide))
  refine ⟨_, _, _, u1, eU1, eQ, eR, ?_, Int.natCast_nonneg _, by clear eQ eR eU1 e1; omega, Int.natCast_nonneg _, by clear eQ eR eU1 e1; omega, by clear eQ eR eU1 e1; omega, rfl, rfl⟩
  unfold GuessI
  rw [Int.toNat_natCast, Int.toNat_natCast]
  exact g0
/-- The first guess. -/
theorem start_of {hi lo y L u a b d1 d0 : Nat} {Y U A B1 D1 D0 : Int} (p : Pre hi lo y L u a b d1 d0 Y U A B1 D1 D0) :
    ∃ (Q R : Int), IntKind.u64.wrap (U.tdiv A) = Q ∧ IntKind.u64.wrap (U - IntKind.u64.wrap (Q * A)) = R ∧ GuessI u d1 a b Q R ∧ 0 ≤ Q ∧ Q ≤ 4294967297 ∧ 0 ≤ R ∧ R < 4294967296 := by
  obtain ⟨hL, y0, hY, hYS, hYB, hU, hu, hA, hB, hD1, hD0, ha, ha', hb, hd1, hd0, hN⟩ := p
  have g0 := guess_start ha ha' hb hd1 hu
  have bq : u / a ≤ 4294967297 := g0.2.2.1
  have br : u % a < 4294967296 := g0.2.2.2
  have em := Nat.div_add_mod' u a
  have eQ : IntKind.u64.wrap (U.tdiv A) = ((u / a : Nat) : Int) := by
    rw [hU, hA, ← wnat (u / a) (by omega)]; rfl
  have eR : IntKind.u64.wrap (U - IntKind.u64.wrap (((u / a : Nat) : Int) * A)) = ((u % a : Nat) : Int) := by
    rw [hU, hA, Fb.mulN (u / a), sub_wrap]
    exact small_mod _ _ (rest_nat _ _ _ _ em) (Nat.lt_trans br (by decide))
  refine ⟨_, _, eQ, eR, ?_, Int.natCast_nonneg _, by clear eQ eR; omega, Int.natCast_nonneg _, by clear eQ eR; omega⟩
  unfold GuessI
  rw [Int.toNat_natCast, Int.toNat_natCast]
  exact g0
/-- The two numbers that a round's test compares, where the guess is below 2^32. -/
theorem test_of {d b : Nat} {q r B1 D1 : Int} (hb : b < 4294967296) (hd : d < 4294967296) (hB : B1 = (b : Int)) (hD : D1 = (d : Int)) (h0 : 0 ≤ q) (h1 : q < 4294967296) (h2 : 0 ≤ r) (h3 : r < 4294967296) :
    IntKind.u64.wrap (q * B1) = ((q.toNat * b : Nat) : Int) ∧ IntKind.u64.wrap (4294967296 * r) = 4294967296 * r ∧ IntKind.u64.wrap (4294967296 * r + D1) = ((4294967296 * r.toNat + d : Nat) : Int) := by
  obtain ⟨n, rfl⟩ : ∃ n : Nat, q = (n : Int) := ⟨q.toNat, by omega⟩
  obtain ⟨m, rfl⟩ : ∃ m : Nat, r = (m : Int) := ⟨r.toNat, by omega⟩
  have : n * b ≤ 4294967295 * 4294967295 := Nat.mul_le_mul (by omega) (by omega)
  refine ⟨?_, ?_, ?_⟩
  · rw [hB, Fb.mulN, wnat _ (by omega)]; simp
  · rw [IntKind.wrap_u64]; omega
  · rw [hD, IntKind.wrap_u64]; omega
theorem step_of {u d a b : Nat} {q r : Int} (ha : 2147483648 ≤ a) (ha' : a < 4294967296) (hb : b < 4294967296) (hd : d < 4294967296) (hu : u < a * 4294967296 + b) (h0 : 0 ≤ q) (h2 : 0 ≤ r) (g : GuessI u d a b q r)
    (h : 4294967296 ≤ q ∨ ((4294967296 * r.toNat + d : Nat) : Int) < ((q.toNat * b : Nat) : Int)) : 1 ≤ q ∧ (r + a < 4294967296 → GuessI u d a b (q - 1) (r + a)) ∧ (4294967296 ≤ r + a → DigitI u d a b (q - 1)) := by
  obtain ⟨n, rfl⟩ : ∃ n : Nat, q = (n : Int) := ⟨q.toNat, by omega⟩
  obtain ⟨m, rfl⟩ : ∃ m : Nat, r = (m : Int) := ⟨r.toNat, by omega⟩
  unfold GuessI at *
  unfold DigitI
  rw [Int.toNat_natCast, Int.toNat_natCast] at g
  have hn : n ≤ 4294967297 := g.2.2.1
  obtain ⟨s1, s2, s3, s4⟩ := guess_step ha ha' hb hd hu g (by rw [Int.toNat_natCast, Int.toNat_natCast] at h; omega)
  rw [show ((n : Int) - 1).toNat = n - 1 by omega, show ((m : Int) + (a : Int)).toNat = m + a by omega]
  refine ⟨by omega, fun hr => ⟨s2, s3, s4, by omega⟩, fun hr => guess_break ha' hb s2 s3 (by omega) (by omega)⟩
theorem done_of {u d a b : Nat} {q r : Int} (h0 : 0 ≤ q) (h2 : 0 ≤ r) (g : GuessI u d a b q r) (h : ¬ ((4294967296 * r.toNat + d : Nat) : Int) < ((q.toNat * b : Nat) : Int)) : DigitI u d a b q := by
  unfold GuessI at g
  unfold DigitI
  exact guess_done g (by omega)
/-- The end. -/
theorem fin_of {hi lo y L u a b d1 d0 u1 : Nat} {Y U A B1 D1 D0 q U1 q0 : Int} (p : Pre hi lo y L u a b d1 d0 Y U A B1 D1 D0) (hq : 0 ≤ q) (g : DigitI u d1 a b q) (hU1 : U1 = (u1 : Int)) (hu1 : u1 = u * 4294967296 + d1 - q.toNat * (a * 4294967296 + b)) (hq0 : 0 ≤ q0) (g0 : DigitI u1 d0 a b q0) :
    q0 < 4294967296 ∧ q * 4294967296 + q0 = (((hi * 18446744073709551616 + lo) / y : Nat) : Int) ∧ IntKind.u64.wrap (IntKind.u64.wrap (IntKind.u64.wrap (U1 * 4294967296) + D0) - IntKind.u64.wrap (q0 * Y)) / 2 ^ (64 - L) = (((hi * 18446744073709551616 + lo) % y : Nat) : Int) := by
  obtain ⟨hL, y0, hY, hYS, hYB, hU, hu, hA, hB, hD1, hD0, ha, ha', hb, hd1, hd0, hN⟩ := p
  obtain ⟨n, rfl⟩ : ∃ n : Nat, q = (n : Int) := ⟨q.toNat, by omega⟩
  obtain ⟨m, rfl⟩ : ∃ m : Nat, q0 = (m : Int) := ⟨q0.toNat, by omega⟩
  unfold DigitI at g g0
  rw [Int.toNat_natCast] at g g0 hu1
  obtain ⟨_, er⟩ := digit_rest hYB g
  rw [← hu1] at er
  have hlt := digit_lt hd0 er g0
  obtain ⟨e1, e2⟩ := digit_rest hYB g0
  have g0' := g0
  rw [hu1] at g0'
  obtain ⟨t1, t2⟩ := two_digits (Nat.two_pow_pos (64 - L)) y0 hYS hN g g0'
  rw [← hu1] at t2
  refine ⟨by omega, by rw [t1]; omega, ?_⟩
  rw [← t2, hU1, hD0, hY, Fb.mulN m]
  have : IntKind.u64.wrap (IntKind.u64.wrap (IntKind.u64.wrap ((u1 : Int) * 4294967296) + (d0 : Int)) - IntKind.u64.wrap ((m * (a * 4294967296 + b) : Nat) : Int)) = ((u1 * 4294967296 + d0 - m * (a * 4294967296 + b) : Nat) : Int) := by
    rw [rest_wrap, ← e1]
    congr 1
  rw [this]; push_cast; rfl
end Fx
end Go.Proofs.Ytmngaedcckjfoaa
