/- Plain arithmetic behind math/bits' OnesCount64: its foldings come to the number of set bits, for every number of 64 bits. -/
import Derived.Test.YtoamabmnbldgkaaDoorBitMath
import Derived.Test.YtoamabmnbldgkaaDoorKit
import Derived.Laws.Bits64b
namespace Go.Proofs.YtoamabmnbldgkaaDoor
open Go.RowKit Go.Lib Fx Bm
set_option linter.unusedVariables false

namespace Oc
theorem and_digit (b q r q' r' : Nat) (h : r < 2 ^ b) (h' : r' < 2 ^ b) : (2 ^ b * q + r) &&& (2 ^ b * q' + r') = 2 ^ b * (q &&& q') + (r &&& r') := by
  apply Nat.eq_of_testBit_eq
  intro i
  have hr : r &&& r' < 2 ^ b := Nat.and_lt_two_pow _ h'
  rw [Nat.testBit_and, Nat.testBit_two_pow_mul_add _ h, Nat.testBit_two_pow_mul_add _ h', Nat.testBit_two_pow_mul_add _ hr]
  split <;> rw [Nat.testBit_and]
def M1 : Nat → Nat | 0 => 0 | k + 1 => 1 + 4 * M1 k
def M2 : Nat → Nat | 0 => 0 | k + 1 => 3 + 16 * M2 k
def M4 : Nat → Nat | 0 => 0 | k + 1 => 15 + 256 * M4 k
def F1 : Nat → Nat → Nat | 0, _ => 0 | k + 1, y => (y % 4 / 2 + y % 2) + 4 * F1 k (y / 4)
def F2 : Nat → Nat → Nat | 0, _ => 0 | k + 1, y => (y % 16 / 4 + y % 4) + 16 * F2 k (y / 16)
def F4 : Nat → Nat → Nat | 0, _ => 0 | k + 1, y => (y % 256 / 16 + y % 16) + 256 * F4 k (y / 256)
theorem fold1 : ∀ k y, (y / 2 &&& M1 k) + (y &&& M1 k) = F1 k y
  | 0, y => by simp [M1, F1]
  | k + 1, y => by
    have ih := fold1 k (y / 4)
    have e1 := and_digit 2 (y / 4 / 2) (y % 4 / 2 + 2 * (y / 4 % 2)) (M1 k) 1 (by omega) (by omega)
    have e2 := and_digit 2 (y / 4) (y % 4) (M1 k) 1 (by omega) (by omega)
    rw [show 2 ^ 2 * (y / 4 / 2) + (y % 4 / 2 + 2 * (y / 4 % 2)) = y / 2 by omega, Nat.and_one_is_mod] at e1
    rw [show 2 ^ 2 * (y / 4) + y % 4 = y by omega, Nat.and_one_is_mod] at e2
    show (y / 2 &&& (1 + 4 * M1 k)) + (y &&& (1 + 4 * M1 k)) = (y % 4 / 2 + y % 2) + 4 * F1 k (y / 4)
    rw [show 1 + 4 * M1 k = 2 ^ 2 * M1 k + 1 by omega, e1, e2, ← ih]
    omega
theorem fold2 : ∀ k y, (y / 4 &&& M2 k) + (y &&& M2 k) = F2 k y
  | 0, y => by simp [M2, F2]
  | k + 1, y => by
    have ih := fold2 k (y / 16)
    have e1 := and_digit 4 (y / 16 / 4) (y % 16 / 4 + 4 * (y / 16 % 4)) (M2 k) 3 (by omega) (by omega)
    have e2 := and_digit 4 (y / 16) (y % 16) (M2 k) 3 (by omega) (by omega)
    rw [show 2 ^ 4 * (y / 16 / 4) + (y % 16 / 4 + 4 * (y / 16 % 4)) = y / 4 by omega, nat_mask2] at e1
    rw [show 2 ^ 4 * (y / 16) + y % 16 = y by omega, nat_mask2] at e2
    show (y / 4 &&& (3 + 16 * M2 k)) + (y &&& (3 + 16 * M2 k)) = (y % 16 / 4 + y % 4) + 16 * F2 k (y / 16)
    rw [show 3 + 16 * M2 k = 2 ^ 4 * M2 k + 3 by omega, e1, e2, ← ih]
    omega
def Nib (y : Nat) : Prop := ∀ i, y / 16 ^ i % 16 ≤ 7
theorem Nib.head {y : Nat} (h : Nib y) : y % 16 ≤ 7 := by have := h 0; rwa [Nat.pow_zero, Nat.div_one] at this
theorem Nib.tail {y : Nat} (h : Nib y) : Nib (y / 16) := fun i => by
  have := h (i + 1)
  rwa [Nat.pow_succ, Nat.mul_comm, ← Nat.div_div_eq_div_mul] at this
theorem nib_F2 : ∀ k z, Nib (F2 k z)
  | 0, z => fun i => by simp [F2]
  | k + 1, z => fun i => by
    have e : F2 (k + 1) z = (z % 16 / 4 + z % 4) + 16 * F2 k (z / 16) := rfl
    cases i with
    | zero =>
      have p1 : z % 16 / 4 ≤ 3 := by omega
      have p2 : z % 4 ≤ 3 := by omega
      rw [e, Nat.pow_zero, Nat.div_one]
      generalize z % 16 / 4 = p at *
      generalize z % 4 = q at *
      generalize F2 k (z / 16) = F at *
      omega
    | succ i =>
      have := nib_F2 k (z / 16) i
      rw [Nat.pow_succ, Nat.mul_comm, ← Nat.div_div_eq_div_mul, e, show (z % 16 / 4 + z % 4 + 16 * F2 k (z / 16)) / 16 = F2 k (z / 16) by omega]
      exact this
theorem fold4 : ∀ k y, Nib y → (y / 16 + y) &&& M4 k = F4 k y
  | 0, y, _ => by simp [M4, F4]
  | k + 1, y, h => by
    have n0 := h.head
    have n1 := h.tail.head
    have n2 := h.tail.tail.head
    have ih := fold4 k (y / 256) (by have := h.tail.tail; rwa [Nat.div_div_eq_div_mul] at this)
    have e1 := and_digit 8 (y / 256 / 16 + y / 256) (y % 16 + y / 16 % 16 + 16 * (y / 16 % 16 + y / 16 / 16 % 16)) (M4 k) 15 (by omega) (by omega)
    rw [show 2 ^ 8 * (y / 256 / 16 + y / 256) + (y % 16 + y / 16 % 16 + 16 * (y / 16 % 16 + y / 16 / 16 % 16)) = y / 16 + y by omega, nat_mask4, ih] at e1
    show (y / 16 + y) &&& (15 + 256 * M4 k) = (y % 256 / 16 + y % 16) + 256 * F4 k (y / 256)
    rw [show 15 + 256 * M4 k = 2 ^ 8 * M4 k + 15 by omega, e1]
    omega
/-- Byte by byte. -/
theorem byte1 (k x : Nat) : F1 (4 * (k + 1)) x = F1 4 (x % 256) + 256 * F1 (4 * k) (x / 256) := by
  show (x % 4 / 2 + x % 2) + 4 * ((x / 4 % 4 / 2 + x / 4 % 2) + 4 * ((x / 4 / 4 % 4 / 2 + x / 4 / 4 % 2) + 4 * ((x / 4 / 4 / 4 % 4 / 2 + x / 4 / 4 / 4 % 2) + 4 * F1 (4 * k) (x / 4 / 4 / 4 / 4)))) = (x % 256 % 4 / 2 + x % 256 % 2) + 4 * ((x % 256 / 4 % 4 / 2 + x % 256 / 4 % 2) + 4 * ((x % 256 / 4 / 4 % 4 / 2 + x % 256 / 4 / 4 % 2) + 4 * ((x % 256 / 4 / 4 / 4 % 4 / 2 + x % 256 / 4 / 4 / 4 % 2) + 4 * 0))) + 256 * F1 (4 * k) (x / 256)
  rw [show x / 4 / 4 / 4 / 4 = x / 256 by omega]
  generalize F1 (4 * k) (x / 256) = z
  omega
theorem byte2 (k r q : Nat) (h : r < 256) : F2 (2 * (k + 1)) (r + 256 * q) = F2 2 r + 256 * F2 (2 * k) q := by
  show ((r + 256 * q) % 16 / 4 + (r + 256 * q) % 4) + 16 * (((r + 256 * q) / 16 % 16 / 4 + (r + 256 * q) / 16 % 4) + 16 * F2 (2 * k) ((r + 256 * q) / 16 / 16)) = (r % 16 / 4 + r % 4) + 16 * ((r / 16 % 16 / 4 + r / 16 % 4) + 16 * 0) + 256 * F2 (2 * k) q
  rw [show (r + 256 * q) / 16 / 16 = q by omega]
  generalize F2 (2 * k) q = z
  omega
theorem byte4 (k r q : Nat) (h : r < 256) : F4 (k + 1) (r + 256 * q) = (r / 16 + r % 16) + 256 * F4 k q := by
  show ((r + 256 * q) % 256 / 16 + (r + 256 * q) % 16) + 256 * F4 k ((r + 256 * q) / 256) = _
  rw [show (r + 256 * q) / 256 = q by omega]
  generalize F4 k q = z
  omega
def pop8 (r : Nat) : Nat := F2 2 (F1 4 r) / 16 + F2 2 (F1 4 r) % 16
theorem bytes_small : ∀ r : Fin 256, F1 4 r.val < 256 ∧ F2 2 (F1 4 r.val) < 256 ∧ pop8 r.val ≤ 8 ∧ cnt (fun t => r.val.testBit t) 8 = pop8 r.val := by decide +kernel
def all (k x : Nat) : Nat := F4 k (F2 (2 * k) (F1 (4 * k) x))
theorem all_byte (k x : Nat) : all (k + 1) x = pop8 (x % 256) + 256 * all k (x / 256) := by
  have h := bytes_small ⟨x % 256, by omega⟩
  unfold all
  rw [byte1, byte2 _ _ _ h.1, byte4 _ _ _ h.2.1]
  rfl
theorem pop_byte (x : Nat) (k : Nat) : cnt (fun t => x.testBit t) (8 + k) = pop8 (x % 256) + cnt (fun t => (x / 256).testBit t) k := by
  rw [cnt_add]
  have h := (bytes_small ⟨x % 256, by omega⟩).2.2.2
  congr 1
  · rw [← h]
    refine cnt_congr fun t ht => ?_
    show x.testBit t = (x % 2 ^ 8).testBit t
    rw [Nat.testBit_mod_two_pow, decide_eq_true ht, Bool.true_and]
  · refine cnt_congr fun t _ => ?_
    show x.testBit (8 + t) = (x / 2 ^ 8).testBit t
    rw [Nat.testBit_div_two_pow, Nat.add_comm]
theorem pop_le (x : Nat) : pop8 (x % 256) ≤ 8 := (bytes_small ⟨x % 256, by omega⟩).2.2.1
/-- The sum of eight bytes, by the three foldings. -/
theorem bytes_sum (c0 c1 c2 c3 c4 c5 c6 c7 r0 r1 r2 r3 r4 r5 r6 : Nat) (h0 : c0 ≤ 8) (h1 : c1 ≤ 8) (h2 : c2 ≤ 8) (h3 : c3 ≤ 8) (h4 : c4 ≤ 8) (h5 : c5 ≤ 8) (h6 : c6 ≤ 8) (h7 : c7 ≤ 8)
    (e0 : r0 = c0 + 256 * r1) (e1 : r1 = c1 + 256 * r2) (e2 : r2 = c2 + 256 * r3) (e3 : r3 = c3 + 256 * r4) (e4 : r4 = c4 + 256 * r5) (e5 : r5 = c5 + 256 * r6) (e6 : r6 = c6 + 256 * c7) :
    r0 + r0 / 256 < 18446744073709551616 ∧ r0 + r0 / 256 + (r0 + r0 / 256) / 65536 < 18446744073709551616 ∧ r0 + r0 / 256 + (r0 + r0 / 256) / 65536 + (r0 + r0 / 256 + (r0 + r0 / 256) / 65536) / 4294967296 < 9223372036854775808 ∧
    (r0 + r0 / 256 + (r0 + r0 / 256) / 65536 + (r0 + r0 / 256 + (r0 + r0 / 256) / 65536) / 4294967296) % 128 = c0 + c1 + c2 + c3 + c4 + c5 + c6 + c7 := by
  have b6 : r6 ≤ 2056 := by omega
  have b5 : r5 ≤ 526344 := by omega
  have b4 : r4 ≤ 134744072 := by omega
  have b3 : r3 ≤ 34494482440 := by omega
  have b2 : r2 ≤ 8830587504648 := by omega
  have b1 : r1 ≤ 2260630401189896 := by omega
  have b0 : r0 ≤ 578721382704613384 := by omega
  have d0 : r0 / 256 = r1 := by rw [e0]; clear e0 e1 e2 e3 e4 e5 e6 b0 b1 b2 b3 b4 b5 b6; omega
  have d1 : (r0 + r1) / 65536 = r2 + r3 := by
    have : r0 + r1 = (c0 + c1) + 256 * (c1 + c2) + 65536 * (r2 + r3) := by clear b0 b1 b2 b3 b4 b5 b6 d0 e3 e4 e5 e6; omega
    rw [this]; clear e0 e1 e2 e3 e4 e5 e6 b0 b1 b2 b3 b4 b5 b6 d0 this; generalize r2 + r3 = z; omega
  have d2 : (r0 + r1 + (r2 + r3)) / 4294967296 = r4 + r5 + r6 + c7 := by
    have : r0 + r1 + (r2 + r3) = ((c0 + c1 + c2 + c3) + 256 * (c1 + c2 + c3 + c4) + 65536 * (c2 + c3 + c4 + c5) + 16777216 * (c3 + c4 + c5 + c6)) + 4294967296 * (r4 + r5 + r6 + c7) := by clear b0 b1 b2 b3 b4 b5 b6 d0 d1; omega
    rw [this]; clear e0 e1 e2 e3 e4 e5 e6 b0 b1 b2 b3 b4 b5 b6 d0 d1 this; generalize r4 + r5 + r6 + c7 = z; omega
  rw [d0, d1, d2]
  refine ⟨by omega, by omega, by omega, ?_⟩
  have : r0 + r1 + (r2 + r3) + (r4 + r5 + r6 + c7) = (c0 + c1 + c2 + c3 + c4 + c5 + c6 + c7) + 256 * (r1 + r2 + r3 + r4 + r5 + r6 + c7) := by clear b0 b1 b2 b3 b4 b5 b6 d0 d1 d2; omega
  rw [this]
  clear e0 e1 e2 e3 e4 e5 e6 b0 b1 b2 b3 b4 b5 b6 d0 d1 d2 this
  generalize r1 + r2 + r3 + r4 + r5 + r6 + c7 = z
  omega
/-- What OnesCount64's foldings come to. -/
theorem ones (x s1 s2 s3 : Nat) (e1 : s1 = (x / 2 &&& 6148914691236517205) + (x &&& 6148914691236517205)) (e2 : s2 = (s1 / 4 &&& 3689348814741910323) + (s1 &&& 3689348814741910323)) (e3 : s3 = (s2 / 16 + s2) &&& 1085102592571150095) :
    s3 + s3 / 256 < 18446744073709551616 ∧ s3 + s3 / 256 + (s3 + s3 / 256) / 65536 < 18446744073709551616 ∧ s3 + s3 / 256 + (s3 + s3 / 256) / 65536 + (s3 + s3 / 256 + (s3 + s3 / 256) / 65536) / 4294967296 < 9223372036854775808 ∧
    (s3 + s3 / 256 + (s3 + s3 / 256) / 65536 + (s3 + s3 / 256 + (s3 + s3 / 256) / 65536) / 4294967296) % 128 = cnt (fun t => x.testBit t) 64 := by
  have f1 : s1 = F1 32 x := by rw [e1, ← fold1 32 x]; rfl
  have f2 : s2 = F2 16 s1 := by rw [e2, ← fold2 16 s1]; rfl
  have f3 : s3 = F4 8 s2 := by rw [e3, ← fold4 8 s2 (by rw [f2]; exact nib_F2 _ _)]; rfl
  have f4 : s3 = all 8 x := by rw [f3, f2, f1]; rfl
  rw [f4]
  clear e1 e2 e3 f1 f2 f3 f4
  have hz : ∀ y, all 0 y = 0 := fun y => rfl
  obtain ⟨x1, hx1⟩ : ∃ x1, x1 = x / 256 := ⟨_, rfl⟩
  obtain ⟨x2, hx2⟩ : ∃ x2, x2 = x1 / 256 := ⟨_, rfl⟩
  obtain ⟨x3, hx3⟩ : ∃ x3, x3 = x2 / 256 := ⟨_, rfl⟩
  obtain ⟨x4, hx4⟩ : ∃ x4, x4 = x3 / 256 := ⟨_, rfl⟩
  obtain ⟨x5, hx5⟩ : ∃ x5, x5 = x4 / 256 := ⟨_, rfl⟩
  obtain ⟨x6, hx6⟩ : ∃ x6, x6 = x5 / 256 := ⟨_, rfl⟩
  obtain ⟨x7, hx7⟩ : ∃ x7, x7 = x6 / 256 := ⟨_, rfl⟩
  have a0 := all_byte 7 x
  have a1 := all_byte 6 x1
  have a2 := all_byte 5 x2
  have a3 := all_byte 4 x3
  have a4 := all_byte 3 x4
  have a5 := all_byte 2 x5
  have a6 := all_byte 1 x6
  have a7 : all 1 x7 = pop8 (x7 % 256) := all_byte 0 x7
  have p0 := pop_byte x 56
  have p1 := pop_byte x1 48
  have p2 := pop_byte x2 40
  have p3 := pop_byte x3 32
  have p4 := pop_byte x4 24
  have p5 := pop_byte x5 16
  have p6 := pop_byte x6 8
  have p7 := pop_byte x7 0
  rw [show cnt (fun t => (x7 / 256).testBit t) 0 = 0 from rfl] at p7
  rw [← hx1] at a0 p0
  rw [← hx2] at a1 p1
  rw [← hx3] at a2 p2
  rw [← hx4] at a3 p3
  rw [← hx5] at a4 p4
  rw [← hx6] at a5 p5
  rw [← hx7] at a6 p6
  have g0 := pop_le x
  have g1 := pop_le x1
  have g2 := pop_le x2
  have g3 := pop_le x3
  have g4 := pop_le x4
  have g5 := pop_le x5
  have g6 := pop_le x6
  have g7 := pop_le x7
  rw [a7] at a6
  have key := bytes_sum _ _ _ _ _ _ _ _ _ _ _ _ _ _ _ g0 g1 g2 g3 g4 g5 g6 g7 a0 a1 a2 a3 a4 a5 a6
  refine ⟨key.1, key.2.1, key.2.2.1, ?_⟩
  refine key.2.2.2.trans ?_
  rw [show (64 : Nat) = 8 + 56 from rfl, p0, show (56 : Nat) = 8 + 48 from rfl, p1, show (48 : Nat) = 8 + 40 from rfl, p2, show (40 : Nat) = 8 + 32 from rfl, p3, show (32 : Nat) = 8 + 24 from rfl, p4, show (24 : Nat) = 8 + 16 from rfl, p5, show (16 : Nat) = 8 + 8 from rfl, p6, show cnt (fun t => x7.testBit t) 8 = _ from p7]
  omega
end Oc
end Go.Proofs.YtoamabmnbldgkaaDoor
