/- What the package fix's Float and Real answer, told by the values of their numbers, for every float and every whole number of 64 bits. -/
import Derived.Test.YtpofkaigikphgaaFixOps
import Derived.Test.YtpofkaigikphgaaFloatOps
import Derived.WalkLawsBesides
namespace Go.Proofs.Ytpofkaigikphgaa
open Go.RowKit Go.Lib Fx Fl
set_option linter.unusedVariables false

theorem arch_find : Extern.find Try.f38 = some (Extern.MathFloor.toIntegral "math.archFloor" .down) := by kernel_rfl
theorem arch_next : Extern.findNext Try.f38 = none := by kernel_rfl
theorem arch_run (x : Nat) {n : Nat} {s : Bool} {m : Nat} {i : Int} (hx : FloatKind.f64.decode x = .number s m i) (h : (FloatKind.f64.decode x).integral .down = .number s n 0) (w : World) :
    (callFunc 38 #[.float .f64 x]).run Try.prog w = .ok (.value (.float .f64 (FloatKind.f64.encode (.number s n 0)))) w := by
  rw [run_callFunc_extern Try.func38 (by kernel_rfl) (by kernel_rfl) arch_next arch_find]
  have e : Extern.MathFloor.toIntegral "math.archFloor" .down #[.float .f64 x] = pure (.float .f64 (FloatKind.f64.encode ((FloatKind.f64.decode x).integral .down))) := by
    refine Eq.trans (b := Extern.MathFloor.toIntegral.match_1 (fun _ => Sem Value) (FloatKind.f64.decode x) _ _) rfl ?_
    rw [hx]
  rw [e, h]
  rfl
set_option maxRecDepth 100000 in
theorem floor_any (x : Nat) {n : Nat} {s : Bool} {m : Nat} {i : Int} (hx : FloatKind.f64.decode x = .number s m i) (h : (FloatKind.f64.decode x).integral .down = .number s n 0) (w : World) :
    Calls Try.prog 33 #[.float .f64 x] w (Ans (.float .f64 (FloatKind.f64.encode (.number s n 0))) w) := by
  have hr := arch_run x hx h
  generalize FloatKind.f64.encode (.number s n 0) = z at *
  clear hx h
  go_enter Try.func33, Try.ntmps33
  go_wp2_with fail
  go_ret
  exact ⟨rfl, 0, rfl⟩

namespace Fl
open Ieee
/-- What a float comes to: not a number: 0; else rounded down, kept within 64 bits. -/
def floatI (x : Nat) : Int :=
  match double.read x with
  | .nan _ _ => 0
  | .infinity s => if s then -9223372036854775808 else 9223372036854775807
  | .number s m i => clampI (val s m i * 1048576 / (TT : Int))
theorem floatI_number {x : Nat} {s : Bool} {m : Nat} {i : Int} (h : double.read x = .number s m i) : floatI x = clampI (val s m i * 1048576 / (TT : Int)) := by
  unfold floatI; rw [h]
theorem pow_NN (a : Nat) : 2 ^ (a + NN) = 2 ^ a * TT := Nat.pow_add _ _ _
theorem small_place {s : Bool} {m : Nat} {i : Int} (hm : m < 9007199254740992) (hi : -1074 ≤ i) (h1 : val s m i < 8796093022208 * (TT : Int)) (h2 : -(8796093022208 * (TT : Int)) < val s m i) (h0 : m ≠ 0) : i ≤ 43 := by
  refine Int.not_lt.1 fun hlt => ?_
  have e : 1 * 2 ^ (43 + NN) ≤ m * 2 ^ (i + 1200).toNat := Nat.mul_le_mul (by omega) (Nat.pow_le_pow_right (by decide) (by unfold NN; omega))
  have e2 : (2 : Nat) ^ (43 + NN) = 8796093022208 * TT := by rw [pow_NN, show (2 : Nat) ^ 43 = 8796093022208 from by decide]
  rw [Nat.one_mul, e2] at e
  unfold val sg at h1 h2
  generalize m * 2 ^ (i + 1200).toNat = V at *
  cases s
  · rw [if_neg (by decide)] at h1; omega
  · rw [if_pos rfl] at h2; omega
/-- What stands between x and the answer, where x is less than 2^43 in size. -/
theorem mid_steps {x : Nat} {s : Bool} {m : Nat} {i : Int} (hx : double.read x = .number s m i) (h1 : val s m i < 8796093022208 * (TT : Int)) (h2 : -(8796093022208 * (TT : Int)) < val s m i) :
    ∃ y m' i' n z, double.mul x c20 = some y ∧ double.read y = .number s m' i' ∧ (double.read y).integral .down = .number s n 0 ∧ double.write (.number s n 0) = z ∧ floatToIntVal .f64 z .i64 = some (floatI x) := by
  obtain ⟨b1, b2, b3⟩ := read_bounds hx
  have hi : i ≤ 900 := by
    by_cases h0 : m = 0
    · have : i = -1074 := by
        unfold Format.read at hx
        simp only [leastPlace_eq, binade_eq, infRung_eq, signWeight_eq] at hx
        split at hx
        · cases hx; rfl
        · split at hx
          · cases hx; omega
          · split at hx <;> cases hx
      omega
    · have := small_place b1 b2 h1 h2 h0; omega
  obtain ⟨y, m', i', e1, e2, e3⟩ := mul_c20 hx hi
  obtain ⟨c1, c2, c3⟩ := read_bounds e2
  have hT : (0 : Int) < (TT : Int) := by have := TT_pos; omega
  have hi' : i' ≤ 900 := by
    by_cases h0 : m' = 0
    · have : i' = -1074 := by
        unfold Format.read at e2
        simp only [leastPlace_eq, binade_eq, infRung_eq, signWeight_eq] at e2
        split at e2
        · cases e2; rfl
        · split at e2
          · cases e2; omega
          · split at e2 <;> cases e2
      omega
    · refine Int.not_lt.1 fun hlt => ?_
      have e : 1 * 2 ^ (63 + NN) ≤ m' * 2 ^ (i' + 1200).toNat := Nat.mul_le_mul (by omega) (Nat.pow_le_pow_right (by decide) (by unfold NN; omega))
      have e4 : (2 : Nat) ^ (63 + NN) = 9223372036854775808 * TT := by rw [pow_NN, show (2 : Nat) ^ 63 = 9223372036854775808 from by decide]
      rw [Nat.one_mul, e4] at e
      generalize val s m i = V at *
      unfold val sg at e3
      generalize m' * 2 ^ (i' + 1200).toNat = V' at *
      cases s
      · rw [if_neg (by decide)] at e3; omega
      · rw [if_pos rfl] at e3; omega
  obtain ⟨n, m2, i2, f1, f2, f3, f4⟩ := floor_word e2 hi'
  refine ⟨y, m', i', n, _, e1, e2, f1, rfl, ?_⟩
  have f5 := toInt_val f2
  have f6 : (val s m2 i2).tdiv (TT : Int) = val s m i * 1048576 / (TT : Int) := by
    rw [f3, Int.natCast_mul, ← Int.mul_assoc, Int.mul_tdiv_cancel _ (by omega), f4, e3]
  have hin : inI (val s m i * 1048576 / (TT : Int)) := by
    unfold inI
    have g1 : -9223372036854775808 ≤ val s m i * 1048576 / (TT : Int) := Int.le_ediv_of_mul_le hT (by omega)
    have g2 : val s m i * 1048576 / (TT : Int) < 9223372036854775808 := Int.ediv_lt_of_lt_mul hT (by omega)
    omega
  rw [floatI_number hx, clampI_id hin]
  unfold floatToIntVal
  rw [show FloatKind.f64.decode (double.write (.number s n 0)) = double.read (double.write (.number s n 0)) from rfl, f5, f6]
  unfold inI at hin
  exact if_pos hin
end Fl

set_option maxRecDepth 100000 in
set_option maxHeartbeats 1000000 in
theorem float_any (x : Nat) (w : World) :
    Calls Try.prog 20 #[.float .f64 x] w (Ans (.int .i64 (floatI x)) w) := by
  have rx : ∃ d, Ieee.double.read x = d := ⟨_, rfl⟩
  obtain ⟨d, hd⟩ := rx
  cases d with
  | nan s t =>
    have z : floatI x = 0 := by unfold floatI; rw [hd]
    have o1 : FloatKind.f64.format.order x x = none := by show Ieee.double.order x x = none; unfold Ieee.Format.order; rw [hd]; rfl
    rw [z]
    clear z hd
    go_enter Try.func20, Try.ntmps20
    go_wp2_with fail
    go_ret
    exact ⟨rfl, 0, rfl⟩
  | infinity s =>
    have o1 : FloatKind.f64.format.order x x = some .eq := by show Ieee.double.order x x = _; unfold Ieee.Format.order; rw [hd]; cases s <;> rfl
    cases s with
    | false =>
      have z : floatI x = 9223372036854775807 := by unfold floatI; rw [hd]; rfl
      have o2 : FloatKind.f64.format.order x 4800837202776948736 = some .gt := by show Ieee.double.order x c43 = _; unfold Ieee.Format.order; rw [hd, read_c43]; rfl
      rw [z]
      clear z hd
      go_enter Try.func20, Try.ntmps20
      go_wp2_with fail
      go_ret
      exact ⟨rfl, 0, rfl⟩
    | true =>
      have z : floatI x = -9223372036854775808 := by unfold floatI; rw [hd]; rfl
      have o2 : FloatKind.f64.format.order x 4800837202776948736 = some .lt := by show Ieee.double.order x c43 = _; unfold Ieee.Format.order; rw [hd, read_c43]; rfl
      have o3 : FloatKind.f64.format.order x 14024209239631724544 = some .lt := by show Ieee.double.order x m43 = _; unfold Ieee.Format.order; rw [hd, read_m43]; rfl
      rw [z]
      clear z hd
      go_enter Try.func20, Try.ntmps20
      go_wp2_with fail
      go_ret
      exact ⟨rfl, 0, rfl⟩
  | number s m i =>
    have o1 : FloatKind.f64.format.order x x = some .eq := by show Ieee.double.order x x = _; rw [order_val hd hd, compare_eq rfl]
    have q2 : Ieee.double.order x c43 = some (compare (val s m i) (8796093022208 * (TT : Int))) := by rw [order_val hd read_c43, val_c43]
    have q3 : Ieee.double.order x m43 = some (compare (val s m i) (-(8796093022208 * (TT : Int)))) := by rw [order_val hd read_m43, val_m43]
    have hT : (0 : Int) < (TT : Int) := by have := TT_pos; omega
    by_cases h1 : 8796093022208 * (TT : Int) ≤ val s m i
    · have z : floatI x = 9223372036854775807 := by
        rw [floatI_number hd, clampI_top]
        exact Int.le_trans (by decide) (Int.le_ediv_of_mul_le hT (a := 9223372036854775808) (by omega))
      rw [z]
      have o2 : FloatKind.f64.format.order x 4800837202776948736 = some .gt ∨ FloatKind.f64.format.order x 4800837202776948736 = some .eq := by
        show Ieee.double.order x c43 = _ ∨ Ieee.double.order x c43 = _
        rw [q2]
        by_cases h : 8796093022208 * (TT : Int) = val s m i
        · right; rw [compare_eq h.symm]
        · left; rw [compare_gt (by omega)]
      clear z hd q2 q3 hT h1
      rcases o2 with o2 | o2
      all_goals
        go_enter Try.func20, Try.ntmps20
        go_wp2_with fail
        go_ret
        exact ⟨rfl, 0, rfl⟩
    · have o2 : FloatKind.f64.format.order x 4800837202776948736 = some .lt := by
        show Ieee.double.order x c43 = _
        rw [q2, compare_lt (by omega)]
      by_cases h2 : val s m i ≤ -(8796093022208 * (TT : Int))
      · have z : floatI x = -9223372036854775808 := by
          rw [floatI_number hd, clampI_low]
          have := Int.ediv_lt_of_lt_mul hT (a := val s m i * 1048576) (b := -9223372036854775808 + 1) (by omega)
          omega
        rw [z]
        have o3 : FloatKind.f64.format.order x 14024209239631724544 = some .lt ∨ FloatKind.f64.format.order x 14024209239631724544 = some .eq := by
          show Ieee.double.order x m43 = _ ∨ Ieee.double.order x m43 = _
          rw [q3]
          by_cases h : val s m i = -(8796093022208 * (TT : Int))
          · right; rw [compare_eq h]
          · left; rw [compare_lt (by omega)]
        clear z hd q2 q3 hT h1 h2
        rcases o3 with o3 | o3
        all_goals
          go_enter Try.func20, Try.ntmps20
          go_wp2_with fail
          go_ret
          exact ⟨rfl, 0, rfl⟩
      · have o3 : FloatKind.f64.format.order x 14024209239631724544 = some .gt := by
          show Ieee.double.order x m43 = _
          rw [q3, compare_gt (by omega)]
        obtain ⟨y, m', i', n, zz, e1, e2, e3, e4, e5⟩ := mid_steps hd (by omega) (by omega)
        have hmul : ∀ w, (binOp .mul 27 (.float .f64 x) (.float .f64 4697254411347427328)).run Try.prog w = .ok (.float .f64 y) w := fun w => run_float_arith w .mul 27 .f64 x c20 y e1
        have hfl : ∀ w, Calls Try.prog 33 #[.float .f64 y] w (Ans (.float .f64 zz) w) := fun w => by
          have := floor_any y e2 e3 w
          rw [show FloatKind.f64.encode (.number s n 0) = zz from e4] at this
          exact this
        have hcv : ∀ w, (convert 27 2 (.float .f64 zz)).run Try.prog w = .ok (.int .i64 (floatI x)) w := fun w => run_convert_float_int w 27 2 .f64 .i64 zz _ (by rw [Try.underlying27]; rfl) Try.underlying2 e5
        generalize floatI x = res at *
        clear hd q2 q3 hT h1 h2 e1 e2 e3 e4 e5
        go_enter Try.func20, Try.ntmps20
        go_wp2_with (go_at_call 33; ((with_reducible refine (hfl _).mono ?_); rintro e w' ⟨rfl, nn, rfl⟩))
        go_ret
        exact ⟨rfl, _, rfl⟩
end Go.Proofs.Ytpofkaigikphgaa
