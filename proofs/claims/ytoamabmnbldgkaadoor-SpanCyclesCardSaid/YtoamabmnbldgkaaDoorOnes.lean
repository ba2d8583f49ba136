/- What math/bits' OnesCount64 and TrailingZeros64 answer for every number of 64 bits: how many bits are set; the place of the lowest (where the library's table lies as its initialiser lays it). -/
import Derived.Test.YtoamabmnbldgkaaDoorOnesMath
namespace Go.Proofs.YtoamabmnbldgkaaDoor
open Go.RowKit Go.Lib Fx Bm Oc
set_option linter.unusedVariables false

/-- The call answers v; the world is as it was. -/
def Same (v : Value) (w : World) (e : Ending) (w' : World) : Prop := e = .returned v ∧ w = w'
theorem Same.ans {P : Program} {f : FuncId} {args : Array Value} {w : World} {v : Value} (h : Calls P f args w (Same v w)) : Calls P f args w (Ans v w) := ans_of_same h

set_option maxRecDepth 100000 in
set_option maxHeartbeats 1000000 in
theorem ones_any (x : Nat) (hx : x < 18446744073709551616) (w : World) : Calls Tryd.prog 52 #[.int .u64 x] w (Ans (.int .i64 (cnt (fun t => x.testBit t) 64)) w) := by
  obtain ⟨s1, h1⟩ : ∃ s1, s1 = (x / 2 &&& 6148914691236517205) + (x &&& 6148914691236517205) := ⟨_, rfl⟩
  obtain ⟨s2, h2⟩ : ∃ s2, s2 = (s1 / 4 &&& 3689348814741910323) + (s1 &&& 3689348814741910323) := ⟨_, rfl⟩
  obtain ⟨s3, h3⟩ : ∃ s3, s3 = (s2 / 16 + s2) &&& 1085102592571150095 := ⟨_, rfl⟩
  obtain ⟨k1, k2, k3, k4⟩ := ones x s1 s2 s3 h1 h2 h3
  have l1 : (x / 2 &&& 6148914691236517205) ≤ 6148914691236517205 := Nat.and_le_right
  have l2 : (x &&& 6148914691236517205) ≤ 6148914691236517205 := Nat.and_le_right
  have l3 : (s1 / 4 &&& 3689348814741910323) ≤ 3689348814741910323 := Nat.and_le_right
  have l4 : (s1 &&& 3689348814741910323) ≤ 3689348814741910323 := Nat.and_le_right
  have q1 : bits .and .u64 ((x : Int) / 2) 6148914691236517205 = ((x / 2 &&& 6148914691236517205 : Nat) : Int) := bits_and_u64_nat (x / 2) 6148914691236517205 (by omega) (by omega)
  have q2 : bits .and .u64 (x : Int) 6148914691236517205 = ((x &&& 6148914691236517205 : Nat) : Int) := bits_and_u64_nat x 6148914691236517205 hx (by omega)
  have q3 : bits .and .u64 ((s1 : Int) / 4) 3689348814741910323 = ((s1 / 4 &&& 3689348814741910323 : Nat) : Int) := bits_and_u64_nat (s1 / 4) 3689348814741910323 (by omega) (by omega)
  have q4 : bits .and .u64 (s1 : Int) 3689348814741910323 = ((s1 &&& 3689348814741910323 : Nat) : Int) := bits_and_u64_nat s1 3689348814741910323 (by omega) (by omega)
  have q5 : bits .and .u64 ((s2 / 16 + s2 : Nat) : Int) 1085102592571150095 = ((s3 : Nat) : Int) := by rw [h3]; exact bits_and_u64_nat (s2 / 16 + s2) 1085102592571150095 (by omega) (by omega)
  obtain ⟨s4, h4⟩ : ∃ s4, s4 = s3 + s3 / 256 := ⟨_, rfl⟩
  rw [← h4] at k1 k2 k3 k4
  obtain ⟨s5, h5⟩ : ∃ s5, s5 = s4 + s4 / 65536 := ⟨_, rfl⟩
  rw [← h5] at k2 k3 k4
  obtain ⟨s6, h6⟩ : ∃ s6, s6 = s5 + s5 / 4294967296 := ⟨_, rfl⟩
  rw [← h6] at k3 k4
  have q6 : bits .and .i64 (s6 : Int) 127 = ((s6 % 128 : Nat) : Int) := by have := mask_i64 (s6 : Int) 7 (by decide); rw [show ((2 ^ 7 - 1 : Nat) : Int) = 127 from rfl] at this; rw [this, Int.natCast_emod]
  rw [k4] at q6
  generalize cnt (fun t => x.testBit t) 64 = res at *
  obtain ⟨a, ha⟩ : ∃ a, a = (x / 2 &&& 6148914691236517205) := ⟨_, rfl⟩
  obtain ⟨b, hb⟩ : ∃ b, b = (x &&& 6148914691236517205) := ⟨_, rfl⟩
  obtain ⟨c, hc⟩ : ∃ c, c = (s1 / 4 &&& 3689348814741910323) := ⟨_, rfl⟩
  obtain ⟨d, hd⟩ : ∃ d, d = (s1 &&& 3689348814741910323) := ⟨_, rfl⟩
  rw [← ha] at q1 l1 h1
  rw [← hb] at q2 l2 h1
  rw [← hc] at q3 l3 h2
  rw [← hd] at q4 l4 h2
  have w1 : IntKind.u64.wrap ((a : Int) + (b : Int)) = (s1 : Int) := by rw [IntKind.wrap_u64]; omega
  have w2 : IntKind.u64.wrap ((c : Int) + (d : Int)) = (s2 : Int) := by rw [IntKind.wrap_u64]; omega
  have w3 : IntKind.u64.wrap ((s2 : Int) / 16 + (s2 : Int)) = ((s2 / 16 + s2 : Nat) : Int) := by rw [IntKind.wrap_u64]; omega
  have w4 : IntKind.u64.wrap ((s3 : Int) + (s3 : Int) / 256) = (s4 : Int) := by rw [IntKind.wrap_u64]; omega
  have w5 : IntKind.u64.wrap ((s4 : Int) + (s4 : Int) / 65536) = (s5 : Int) := by rw [IntKind.wrap_u64]; omega
  have w6 : IntKind.u64.wrap ((s5 : Int) + (s5 : Int) / 4294967296) = (s6 : Int) := by rw [IntKind.wrap_u64]; omega
  have p6 : (s6 : Int) ≤ 9223372036854775807 := by omega
  have z0 := Int.natCast_nonneg x
  have z1 := Int.natCast_nonneg s1
  have z2 := Int.natCast_nonneg s2
  have z3 := Int.natCast_nonneg s3
  have z4 := Int.natCast_nonneg s4
  have z5 := Int.natCast_nonneg s5
  have z6 := Int.natCast_nonneg s6
  generalize ((s2 / 16 + s2 : Nat) : Int) = t at *
  clear hx h1 h2 h3 h4 h5 h6 k1 k2 k3 k4 ha hb hc hd l1 l2 l3 l4
  generalize (x : Int) = X at *
  generalize (a : Int) = A at *
  generalize (b : Int) = B at *
  generalize (c : Int) = C at *
  generalize (d : Int) = D at *
  generalize (s1 : Int) = S1 at *
  generalize (s2 : Int) = S2 at *
  generalize (s3 : Int) = S3 at *
  generalize (s4 : Int) = S4 at *
  generalize (s5 : Int) = S5 at *
  generalize (s6 : Int) = S6 at *
  generalize (res : Int) = R at *
  go_enter Tryd.func52, Tryd.ntmps52
  go_wp2_with fail
  go_ret
  exact ⟨rfl, 0, rfl⟩

theorem tz_key (x a : Nat) (hx : x < 18446744073709551616) (hx0 : x ≠ 0) (hlow : x &&& (18446744073709551616 - x) = a) :
    IntKind.u64.wrap (bits BinOp.and IntKind.u64 (x : Int) (IntKind.u64.wrap (-(x : Int))) * 285870213051353865) / 288230376151711744 = ((a * 285870213051353865 % 18446744073709551616 / 288230376151711744 : Nat) : Int) := by
  have e1 : IntKind.u64.wrap (-(x : Int)) = ((18446744073709551616 - x : Nat) : Int) := by rw [IntKind.wrap_u64]; omega
  rw [e1, bits_and_u64_nat x _ hx (by omega), hlow, IntKind.wrap_u64]
  omega
/-- The library's table lies as its initialiser lays it. -/
def TabAt (w : World) : Prop := ∀ j, j < 64 → w.cell? ⟨0, j, none⟩ = some (.int .u8 (Lib.deBruijn64tab.getD j 0))
set_option maxRecDepth 100000 in
set_option maxHeartbeats 1000000 in
theorem tz_core (X : Int) (k idx : Nat) (w : World) (x0 : 0 ≤ X) (x1 : X ≤ 18446744073709551615) (hx0 : (X == 0) = false)
    (key : IntKind.u64.wrap (bits BinOp.and IntKind.u64 X (IntKind.u64.wrap (-X)) * 285870213051353865) / 288230376151711744 = (idx : Int))
    (hi : idx < 64) (hk : k < 64) (hcell : w.cell? ⟨0, idx, none⟩ = some (.int .u8 k)) :
    Calls Tryd.prog 51 #[.int .u64 X] w (Same (.int .i64 k) w) := by
  go_enter Tryd.func51, Tryd.ntmps51
  go_wp2_with (simp only [key])
  go_ret
  exact ⟨rfl, rfl⟩
theorem tz_any (x : Nat) (h0 : x ≠ 0) (hx : x < 18446744073709551616) (w : World) (hT : TabAt w) : Calls Tryd.prog 51 #[.int .u64 x] w (Same (.int .i64 (Lib.ctz 64 x)) w) := by
  obtain ⟨hlow, hk⟩ := Lib.lowest_bit 64 x h0 hx
  obtain ⟨hi, htab⟩ := Lib.deBruijn64_at _ hk
  have hcell := hT _ hi
  rw [htab] at hcell
  exact tz_core x _ _ w (Int.natCast_nonneg _) (by omega) (by simp; omega) (tz_key x _ hx h0 hlow) hi hk hcell
end Go.Proofs.YtoamabmnbldgkaaDoor
