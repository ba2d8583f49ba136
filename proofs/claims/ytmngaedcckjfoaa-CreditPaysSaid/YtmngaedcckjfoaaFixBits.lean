/- What math/bits' Mul64, Len64 and LeadingZeros64 answer, for every number of 64 bits: product in two words, least number of bits, zeros in front; no other condition. -/
import Derived.Test.YtmngaedcckjfoaaRows
import Derived.WalkKit
import Derived.WalkSpells
import Derived.Lib.Mul64
import Derived.Laws.Bits64b
import Derived.Lib.Strings
import Derived.Lib.Slices
import Derived.Lib.Small
import Derived.Lib.BitFns
import Derived.Lib.ItoaNum
import Derived.Lib.Hide
namespace Go.Proofs.Ytmngaedcckjfoaa
open Go.RowKit Go.Lib
namespace Fb
theorem maskN (a : Nat) (ha : a < 18446744073709551616) : bits .and .u64 (a : Int) 4294967295 = ((a % 4294967296 : Nat) : Int) := by
  have h := bits_and_u64_nat a 4294967295 ha (by omega)
  have e : a &&& 4294967295 = a % 4294967296 := Nat.and_two_pow_sub_one_eq_mod a 32
  rw [e] at h
  exact h
theorem divN (a : Nat) : (a : Int) / 4294967296 = ((a / 4294967296 : Nat) : Int) := by omega
theorem mulN (a b : Nat) : (a : Int) * (b : Int) = ((a * b : Nat) : Int) := (Int.natCast_mul a b).symm
theorem addN (a b : Nat) : (a : Int) + (b : Int) = ((a + b : Nat) : Int) := (Int.natCast_add a b).symm
theorem wrapN (a : Nat) (ha : a < 18446744073709551616) : IntKind.u64.wrap (a : Int) = (a : Int) := by rw [IntKind.wrap_u64]; omega
theorem wrapM (a : Nat) : IntKind.u64.wrap (a : Int) = ((a % 18446744073709551616 : Nat) : Int) := by rw [IntKind.wrap_u64]; omega
end Fb

set_option maxHeartbeats 1000000 in
theorem mul64_any (x y : Nat) (hx : x < 18446744073709551616) (hy : y < 18446744073709551616) (w : World) :
    Calls Try.prog 90 #[.int .u64 x, .int .u64 y] w fun e w' => e = .returned (.tuple #[.int .u64 ((x * y / 18446744073709551616 : Nat) : Int), .int .u64 ((x * y % 18446744073709551616 : Nat) : Int)]) ∧ w = w' := by
  obtain ⟨bd, bt, bw, hhi⟩ := Lib.mul64_hi x y hx hy
  have ba := Lib.half_mul_le (a := x / 4294967296) (b := y / 4294967296) (by omega) (by omega)
  have bb := Lib.half_mul_le (a := x / 4294967296) (b := y % 4294967296) (by omega) (by omega)
  have bc := Lib.half_mul_le (a := x % 4294967296) (b := y / 4294967296) (by omega) (by omega)
  have ba' : x / 4294967296 * (y / 4294967296) < 18446744073709551616 := by omega
  have bb' : x / 4294967296 * (y % 4294967296) < 18446744073709551616 := by omega
  have bc' : x % 4294967296 * (y / 4294967296) < 18446744073709551616 := by omega
  have bh1 : x / 4294967296 * (y / 4294967296) + (x / 4294967296 * (y % 4294967296) + x % 4294967296 * (y % 4294967296) / 4294967296) / 4294967296 < 18446744073709551616 := by omega
  have bh : x / 4294967296 * (y / 4294967296) + (x / 4294967296 * (y % 4294967296) + x % 4294967296 * (y % 4294967296) / 4294967296) / 4294967296 + ((x / 4294967296 * (y % 4294967296) + x % 4294967296 * (y % 4294967296) / 4294967296) % 4294967296 + x % 4294967296 * (y / 4294967296)) / 4294967296 < 18446744073709551616 := by omega
  go_enter Try.func90, Try.ntmps90
  go_wp2
  simp only [Fb.maskN x hx, Fb.maskN y hy, Fb.divN, Fb.mulN, Fb.addN, Fb.wrapN _ bd, Fb.wrapN _ bb', Fb.wrapN _ bt, Fb.maskN _ bt, Fb.wrapN _ bc', Fb.wrapN _ bw, Fb.wrapN _ ba', Fb.wrapN _ bh1, Fb.wrapN _ bh, Fb.wrapM (x * y)]
  rw [hhi]
  go_ret2
  exact ⟨rfl, rfl⟩

/-- A byte of the table of lengths, below 256. -/
theorem len8_at (t : TypeId) (k : IntKind) (i : Int) (h : Try.prog.underlying t = some .string) (h0 : 0 ≤ i) (h1 : i < 256) (w : World) :
    (Instr.index t (.string Lib.len8tab) (.int k i)).run Try.prog w = .ok (.int .u8 (Lib.bitLen i.toNat)) w := by
  rw [Lib.run_index_len8tab (P := Try.prog) w t k i h h0 (by omega), Lib.len8_of i h0 (by omega)]
theorem bitLen_bounds (y : Nat) (h0 : 0 < y) (h1 : y < 18446744073709551616) : 1 ≤ Lib.bitLen y ∧ Lib.bitLen y ≤ 64 ∧ 2 ^ (Lib.bitLen y - 1) ≤ y ∧ y < 2 ^ Lib.bitLen y := by
  obtain ⟨a, b, c⟩ := Lib.bitLenAux_bounds 64 y h1 (by omega)
  exact ⟨a, Lib.bitLen_le y 64 (by omega) h1, b, c⟩
theorem len_close (k : Nat) {i x : Int} (hk : k ≤ 56) (h0 : 0 ≤ i) (h1 : i < 256) (h : Lib.bitLen x.toNat = k + Lib.bitLen i.toNat) : wrap64 ((k : Int) + wrap64 (Lib.bitLen i.toNat : Int)) = (Lib.bitLen x.toNat : Int) := by
  have := Lib.bitLen_le8' i h0 (by omega)
  rw [IntWalk.wrap64_in (Lib.bitLen i.toNat : Int) ⟨by omega, by omega⟩, IntWalk.wrap64_in _ ⟨by omega, by omega⟩]; omega
set_option maxRecDepth 100000 in
set_option maxHeartbeats 1000000 in
theorem len64_any (x : Int) (w : World) (h0 : 0 ≤ x) (h1 : x < 18446744073709551616) :
    Calls Try.prog 119 #[.int .u64 x] w fun e w' => e = .returned (.int .i64 (Lib.bitLen x.toNat)) ∧ w = w' := by
  have hix := fun i h0 h1 w => len8_at 9 .u8 i Try.underlying9 h0 h1 w
  have hb : x / 4294967296 < 4294967296 := by omega
  have k1 : x / 4294967296 / 65536 / 256 < 256 := by omega
  have k2 : x / 4294967296 < 65536 → x / 4294967296 / 256 < 256 := by omega
  have k3 : x < 4294967296 → x / 65536 / 256 < 256 := by omega
  have k4 : x < 65536 → x / 256 < 256 := by omega
  have n1 : 0 ≤ x / 4294967296 / 65536 / 256 := by omega
  have n2 : 0 ≤ x / 4294967296 / 65536 := by omega
  have n3 : 0 ≤ x / 4294967296 / 256 := by omega
  have n4 : 0 ≤ x / 4294967296 := by omega
  have n5 : 0 ≤ x / 65536 / 256 := by omega
  have n6 : 0 ≤ x / 65536 := by omega
  have n7 : 0 ≤ x / 256 := by omega
  have H := Lib.hid h1
  clear h1
  go_enter Try.func119, Try.ntmps119
  go_wp2
  all_goals (have h1 := H.out; go_ret; refine ⟨congrArg Ending.returned (congrArg (Value.int IntKind.i64) ?_), rfl⟩)
  · exact len_close 56 (by omega) (by omega) (by omega) (by rw [Lib.bitLen_shift56 x.toNat (by omega) (by omega)]; congr 2; omega)
  · exact len_close 48 (by omega) (by omega) (by omega) (by rw [Lib.bitLen_shift48 x.toNat (by omega) (by omega)]; congr 2; omega)
  · exact len_close 40 (by omega) (by omega) (by omega) (by rw [Lib.bitLen_shift40 x.toNat (by omega) (by omega)]; congr 2; omega)
  · exact len_close 32 (by omega) (by omega) (by omega) (by rw [Lib.bitLen_shift32 x.toNat (by omega) (by omega)]; congr 2; omega)
  · exact len_close 24 (by omega) (by omega) (by omega) (by rw [Lib.bitLen_shift24 x.toNat (by omega) (by omega)]; congr 2; omega)
  · exact len_close 16 (by omega) (by omega) (by omega) (by rw [Lib.bitLen_shift16 x.toNat (by omega) (by omega)]; congr 2; omega)
  · exact len_close 8 (by omega) (by omega) (by omega) (by rw [Lib.bitLen_shift8 x.toNat (by omega) (by omega)]; congr 2; omega)
  · have := len_close 0 (x := x) (i := x) (by omega) (by omega) (by omega) (by omega)
    simpa using this
set_option maxRecDepth 100000 in
theorem leading64_any (x : Int) (w : World) (h0 : 0 ≤ x) (h1 : x < 18446744073709551616) :
    Calls Try.prog 118 #[.int .u64 x] w fun e w' => e = .returned (.int .i64 (64 - (Lib.bitLen x.toNat : Int))) ∧ w = w' := by
  have hc := fun w => len64_any x w h0 h1
  have hl := Lib.bitLen_le x.toNat 64 (by omega) (by omega)
  clear h0 h1
  go_enter Try.func118, Try.ntmps118
  go_wp2_with (go_at_call 119; refine (hc _).mono ?_; rintro e w' ⟨rfl, rfl⟩)
  go_ret
  exact ⟨rfl, rfl⟩
end Go.Proofs.Ytmngaedcckjfoaa
