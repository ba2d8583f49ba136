/- What the document's own answer for a float is: rounded down, kept within 64 bits, for every float of 64 bits. -/
import Derived.Test.YtpofkaigikphgaaFixRef
namespace Go.Proofs.Ytpofkaigikphgaa
open Go.RowKit Go.Lib Fx Fl
set_option linter.unusedVariables false

namespace Fl
open Ieee
theorem zero_place {x : Nat} {s : Bool} {m : Nat} {i : Int} (hx : double.read x = .number s m i) (h0 : m = 0) : i = -1074 := by
  unfold Format.read at hx
  simp only [leastPlace_eq, binade_eq, infRung_eq, signWeight_eq] at hx
  split at hx
  · cases hx; rfl
  · split at hx
    · cases hx; omega
    · split at hx <;> cases hx
theorem place_le {s : Bool} {m : Nat} {i : Int} {k : Nat} {B : Int} (hB : B = ((2 ^ k : Nat) : Int) * (TT : Int)) (h1 : val s m i < B) (h2 : -B < val s m i) (h0 : m ≠ 0) : i < k := by
  refine Int.not_le.1 fun hle => ?_
  have e : 1 * 2 ^ (k + NN) ≤ m * 2 ^ (i + 1200).toNat := Nat.mul_le_mul (by omega) (Nat.pow_le_pow_right (by decide) (by unfold NN; omega))
  rw [Nat.one_mul, pow_NN] at e
  have e' : B ≤ ((m * 2 ^ (i + 1200).toNat : Nat) : Int) := by rw [hB, ← Int.natCast_mul]; exact Int.ofNat_le.2 e
  unfold val sg at h1 h2
  generalize ((m * 2 ^ (i + 1200).toNat : Nat) : Int) = V at *
  cases s
  · rw [if_neg (by decide)] at h1; omega
  · rw [if_pos rfl] at h2; omega
theorem mid_mul {x : Nat} {s : Bool} {m : Nat} {i : Int} (hx : double.read x = .number s m i) (h1 : val s m i < 8796093022208 * (TT : Int)) (h2 : -(8796093022208 * (TT : Int)) < val s m i) :
    ∃ y m' i', double.mul x c20 = some y ∧ double.read y = .number s m' i' ∧ val s m' i' = val s m i * 1048576 ∧ i' ≤ 900 := by
  have hi : i ≤ 900 := by
    by_cases h0 : m = 0
    · have := zero_place hx h0; omega
    · have := place_le (k := 43) (by rw [show (2 : Nat) ^ 43 = 8796093022208 from by decide]; rfl) h1 h2 h0; omega
  obtain ⟨y, m', i', e1, e2, e3⟩ := mul_c20 hx hi
  refine ⟨y, m', i', e1, e2, e3, ?_⟩
  by_cases h0 : m' = 0
  · have := zero_place e2 h0; omega
  · have := place_le (k := 63) (B := 9223372036854775808 * (TT : Int)) (by rw [show (2 : Nat) ^ 63 = 9223372036854775808 from by decide]; rfl) (by rw [e3]; generalize val s m i = V at *; omega) (by rw [e3]; generalize val s m i = V at *; omega) h0; omega
/-- What is cut off towards zero is a whole number that a word holds. -/
theorem trunc_word {y : Nat} {s : Bool} {m : Nat} {i : Int} (hy : double.read y = .number s m i) (hi : i ≤ 900) :
    ∃ m' i', double.read (floatOfInt .f64 ((val s m i).tdiv (TT : Int))) = .number (decide ((val s m i).tdiv (TT : Int) < 0)) m' i' ∧ val (decide ((val s m i).tdiv (TT : Int) < 0)) m' i' = (val s m i).tdiv (TT : Int) * (TT : Int) := by
  obtain ⟨b1, b2, b3⟩ := read_bounds hy
  have hv := (cut_val (s := s) (m := m) b2).2
  rw [(cut_low s (m <<< i.toNat) (-i).toNat).1] at hv
  obtain ⟨n, hn⟩ : ∃ n, n = m <<< i.toNat / 2 ^ (-i).toNat := ⟨_, rfl⟩
  rw [← hn] at hv
  have hab : ((val s m i).tdiv (TT : Int)).natAbs = n := by
    rw [← hv]; unfold sg; cases s
    · rw [if_neg (by decide)]; omega
    · rw [if_pos rfl]; omega
  by_cases h : 0 ≤ i
  · refine int_word (k := m) (p := i) b1 b2 hi ?_
    rw [hab, hn, show (-i).toNat = 0 by omega, Nat.pow_zero, Nat.div_one, Nat.shiftLeft_eq, show (i + 1200).toNat = i.toNat + NN by unfold NN; omega, pow_NN, Nat.mul_assoc]
  · refine int_word (k := n) (p := 0) ?_ (by omega) (by omega) (by rw [hab, pow_TT])
    rw [hn, show i.toNat = 0 by omega, Nat.shiftLeft_zero]
    exact Nat.lt_of_le_of_lt (Nat.div_le_self _ _) b1
theorem floor_of_trunc (v T : Int) (hT : 0 < T) : v / T = (if v < v.tdiv T * T then v.tdiv T - 1 else v.tdiv T) := by
  obtain ⟨d1, d2, d3, d4, d5⟩ := trem v hT
  have h1 := Int.mul_ediv_add_emod v T
  have h2 := Int.emod_nonneg v (by omega : T ≠ 0)
  have h3 := Int.emod_lt_of_pos v hT
  generalize v.tdiv T = q at *
  generalize v.tmod T = r at *
  rw [Int.mul_comm q T]
  split
  · have e : v = T + r + T * (q - 1) := by rw [Int.mul_sub, Int.mul_one]; omega
    rw [e, Int.add_mul_ediv_left _ _ (by omega), Int.ediv_eq_zero_of_lt (by omega) (by omega)]; omega
  · have e : v = r + T * q := by omega
    rw [e, Int.add_mul_ediv_left _ _ (by omega), Int.ediv_eq_zero_of_lt (by omega) (by omega)]; omega
end Fl

set_option maxRecDepth 100000 in
set_option maxHeartbeats 1000000 in
theorem rfloat_any (x : Nat) (w : World) :
    Calls Try.prog 27 #[.float .f64 x] w (Ans (.int .i64 (floatI x)) w) := by
  have rx : ∃ d, Ieee.double.read x = d := ⟨_, rfl⟩
  obtain ⟨d, hd⟩ := rx
  cases d with
  | nan s t =>
    have z : floatI x = 0 := by unfold floatI; rw [hd]
    have o1 : FloatKind.f64.format.order x x = none := by show Ieee.double.order x x = none; unfold Ieee.Format.order; rw [hd]; rfl
    rw [z]
    clear z hd
    go_enter Try.func27, Try.ntmps27
    go_wp2_with fail
    go_ret
    exact ⟨rfl, 0, rfl⟩
  | infinity s =>
    have o1 : FloatKind.f64.format.order x x = some .eq := by show Ieee.double.order x x = _; unfold Ieee.Format.order; rw [hd]; cases s <;> rfl
    cases s with
    | false =>
      have z : floatI x = 9223372036854775807 := by unfold floatI; rw [hd]; rfl
      have o2 : FloatKind.f64.format.order x 4800837202776948736 = some .gt := by show Ieee.double.order x c43 = _; unfold Ieee.Format.order; rw [hd, read_c43]; rfl
      rw [z]
      clear z hd
      go_enter Try.func27, Try.ntmps27
      go_wp2_with fail
      go_ret
      exact ⟨rfl, 0, rfl⟩
    | true =>
      have z : floatI x = -9223372036854775808 := by unfold floatI; rw [hd]; rfl
      have o2 : FloatKind.f64.format.order x 4800837202776948736 = some .lt := by show Ieee.double.order x c43 = _; unfold Ieee.Format.order; rw [hd, read_c43]; rfl
      have o3 : FloatKind.f64.format.order x 14024209239631724544 = some .lt := by show Ieee.double.order x m43 = _; unfold Ieee.Format.order; rw [hd, read_m43]; rfl
      rw [z]
      clear z hd
      go_enter Try.func27, Try.ntmps27
      go_wp2_with fail
      go_ret
      exact ⟨rfl, 0, rfl⟩
  | number s m i =>
    have o1 : FloatKind.f64.format.order x x = some .eq := by show Ieee.double.order x x = _; rw [order_val hd hd, compare_eq rfl]
    have q2 : Ieee.double.order x c43 = some (compare (val s m i) (8796093022208 * (TT : Int))) := by rw [order_val hd read_c43, val_c43]
    have q3 : Ieee.double.order x m43 = some (compare (val s m i) (-(8796093022208 * (TT : Int)))) := by rw [order_val hd read_m43, val_m43]
    have hT : (0 : Int) < (TT : Int) := by have := TT_pos; omega
    by_cases h1 : 8796093022208 * (TT : Int) ≤ val s m i
    · have z : floatI x = 9223372036854775807 := by
        rw [floatI_number hd, clampI_top]
        exact Int.le_trans (by decide) (Int.le_ediv_of_mul_le hT (a := 9223372036854775808) (by omega))
      rw [z]
      have o2 : FloatKind.f64.format.order x 4800837202776948736 = some .gt ∨ FloatKind.f64.format.order x 4800837202776948736 = some .eq := by
        show Ieee.double.order x c43 = _ ∨ Ieee.double.order x c43 = _
        rw [q2]
        by_cases h : 8796093022208 * (TT : Int) = val s m i
        · right; rw [compare_eq h.symm]
        · left; rw [compare_gt (by omega)]
      clear z hd q2 q3 hT h1
      rcases o2 with o2 | o2
      all_goals
        go_enter Try.func27, Try.ntmps27
        go_wp2_with fail
        go_ret
        exact ⟨rfl, 0, rfl⟩
    · have o2 : FloatKind.f64.format.order x 4800837202776948736 = some .lt := by
        show Ieee.double.order x c43 = _
        rw [q2, compare_lt (by omega)]
      by_cases h2 : val s m i ≤ -(8796093022208 * (TT : Int))
      · have z : floatI x = -9223372036854775808 := by
          rw [floatI_number hd, clampI_low]
          have := Int.ediv_lt_of_lt_mul hT (a := val s m i * 1048576) (b := -9223372036854775808 + 1) (by omega)
          omega
        rw [z]
        have o3 : FloatKind.f64.format.order x 14024209239631724544 = some .lt ∨ FloatKind.f64.format.order x 14024209239631724544 = some .eq := by
          show Ieee.double.order x m43 = _ ∨ Ieee.double.order x m43 = _
          rw [q3]
          by_cases h : val s m i = -(8796093022208 * (TT : Int))
          · right; rw [compare_eq h]
          · left; rw [compare_lt (by omega)]
        clear z hd q2 q3 hT h1 h2
        rcases o3 with o3 | o3
        all_goals
          go_enter Try.func27, Try.ntmps27
          go_wp2_with fail
          go_ret
          exact ⟨rfl, 0, rfl⟩
      · have o3 : FloatKind.f64.format.order x 14024209239631724544 = some .gt := by
          show Ieee.double.order x m43 = _
          rw [q3, compare_gt (by omega)]
        obtain ⟨y, m', i', e1, e2, e3, e4⟩ := mid_mul hd (by omega) (by omega)
        obtain ⟨m2, i2, f1, f2⟩ := trunc_word e2 e4
        have hfl := floor_of_trunc (val s m' i') (TT : Int) hT
        obtain ⟨d1, d2, d3, d4, d5⟩ := trem (val s m' i') hT
        have hz : floatI x = (if val s m' i' < (val s m' i').tdiv (TT : Int) * (TT : Int) then (val s m' i').tdiv (TT : Int) - 1 else (val s m' i').tdiv (TT : Int)) := by
          rw [floatI_number hd, ← e3, hfl]
          rw [← hfl]
          refine clampI_id ?_
          have g1 : -9223372036854775808 ≤ val s m' i' / (TT : Int) := Int.le_ediv_of_mul_le hT (by omega)
          have g2 : val s m' i' / (TT : Int) < 9223372036854775808 := Int.ediv_lt_of_lt_mul hT (by omega)
          unfold inI; omega
        have ht1 : -9223372036854775808 < (val s m' i').tdiv (TT : Int) := by
          refine Int.lt_of_mul_lt_mul_left (a := (TT : Int)) ?_ (Int.le_of_lt hT)
          rw [Int.mul_comm (TT : Int) (-9223372036854775808)]; omega
        have ht2 : (val s m' i').tdiv (TT : Int) < 9223372036854775808 := by
          refine Int.lt_of_mul_lt_mul_left (a := (TT : Int)) ?_ (Int.le_of_lt hT)
          rw [Int.mul_comm (TT : Int) 9223372036854775808]; omega
        have hcv : floatToIntVal .f64 y .i64 = some ((val s m' i').tdiv (TT : Int)) := by
          unfold floatToIntVal
          rw [show FloatKind.f64.decode y = Ieee.double.read y from rfl, toInt_val e2]
          exact if_pos (show -9223372036854775808 ≤ (val s m' i').tdiv (TT : Int) ∧ (val s m' i').tdiv (TT : Int) ≤ 9223372036854775807 from by omega)
        have hor : Ieee.double.order (floatOfInt .f64 ((val s m' i').tdiv (TT : Int))) y = some (compare ((val s m' i').tdiv (TT : Int) * (TT : Int)) (val s m' i')) := by rw [order_val f1 e2, f2]
        obtain ⟨t, ht⟩ : ∃ t : Int, t = (val s m' i').tdiv (TT : Int) := ⟨_, rfl⟩
        rw [← ht] at hz ht1 ht2 hcv hor
        have hmul : ∀ w, (binOp .mul 27 (.float .f64 x) (.float .f64 4697254411347427328)).run Try.prog w = .ok (.float .f64 y) w := fun w => run_float_arith w .mul 27 .f64 x c20 y e1
        have hcc : ∀ w, (convert 27 2 (.float .f64 y)).run Try.prog w = .ok (.int .i64 t) w := fun w => run_convert_float_int w 27 2 .f64 .i64 y _ (by rw [Try.underlying27]; rfl) Try.underlying2 hcv
        rw [hz]
        by_cases hlt : val s m' i' < t * (TT : Int)
        · have og : FloatKind.f64.format.order (floatOfInt .f64 t) y = some .gt := by show Ieee.double.order _ _ = _; rw [hor, compare_gt hlt]
          rw [if_pos hlt]
          clear hd q2 q3 hT h1 h2 e1 e2 e3 e4 f1 f2 hfl d1 d2 d3 d4 d5 hz hcv hor ht hlt
          go_enter Try.func27, Try.ntmps27
          go_wp2_with fail
          go_ret
          exact ⟨rfl, 0, rfl⟩
        · have og : FloatKind.f64.format.order (floatOfInt .f64 t) y = some .lt ∨ FloatKind.f64.format.order (floatOfInt .f64 t) y = some .eq := by
            show Ieee.double.order _ _ = _ ∨ Ieee.double.order _ _ = _
            rw [hor]
            by_cases h : t * (TT : Int) = val s m' i'
            · right; rw [compare_eq h]
            · left; rw [compare_lt (by omega)]
          rw [if_neg hlt]
          clear hd q2 q3 hT h1 h2 e1 e2 e3 e4 f1 f2 hfl d1 d2 d3 d4 d5 hz hcv hor ht hlt
          rcases og with og | og
          all_goals
            go_enter Try.func27, Try.ntmps27
            go_wp2_with fail
            go_ret
            exact ⟨rfl, 0, rfl⟩
end Go.Proofs.Ytpofkaigikphgaa
