/- What the operations of the package fix on whole numbers answer, for any numbers of 64 bits: sum, difference, product, quotient, whole number and whole part, kept within 64 bits. -/
import Derived.Test.YtmngaedcckjfoaaFixDivWalk
import Derived.Test.YtmngaedcckjfoaaKit
import Derived.Deep.QuietTactic
import Derived.BigQuiet
import Derived.Deep.Draws
namespace Go.Proofs.Ytmngaedcckjfoaa
open Go.RowKit Go.Lib Fx
set_option linter.unusedVariables false

set_option maxRecDepth 100000 in
set_option maxHeartbeats 1000000 in
theorem div64_low (lo y : Nat) (h : 0 < y) (hy : y < 18446744073709551616) (hlo : lo < 18446744073709551616) (w : World) :
    Calls Try.prog 116 #[.int .u64 0, .int .u64 lo, .int .u64 y] w (Ans (.tuple #[.int .u64 ((lo / y : Nat) : Int), .int .u64 ((lo % y : Nat) : Int)]) w) := by
  have e1 : IntKind.u64.wrap ((lo : Int) / (y : Int)) = ((lo / y : Nat) : Int) := by
    rw [← wnat (lo / y) (Nat.lt_of_le_of_lt (Nat.div_le_self _ _) hlo)]; rfl
  have e2 : (lo : Int) % (y : Int) = ((lo % y : Nat) : Int) := rfl
  have E1 := Lib.hid e1
  have E2 := Lib.hid e2
  clear hy hlo e1 e2
  go_enter Try.func116, Try.ntmps116
  go_wp2_with fail
  go_quiet (fail)
  go_wp2_with fail
  go_ret2
  exact ⟨ret_two E1.out E2.out, _, rfl⟩

/-- Quotient and rest as two numbers, whatever the upper word below the divisor. -/
theorem div64_any (hi lo y : Nat) (h : hi < y) (hy : y < 18446744073709551616) (hlo : lo < 18446744073709551616) (w : World) :
    Calls Try.prog 116 #[.int .u64 hi, .int .u64 lo, .int .u64 y] w (Ans (.tuple #[.int .u64 (((hi * 18446744073709551616 + lo) / y : Nat) : Int), .int .u64 (((hi * 18446744073709551616 + lo) % y : Nat) : Int)]) w) := by
  by_cases h0 : 0 < hi
  · exact ans_of_same (div64_high hi lo y h0 h hy hlo w)
  · obtain rfl : hi = 0 := by omega
    have := div64_low lo y h hy hlo w
    rw [show 0 * 18446744073709551616 + lo = lo from by rw [Nat.zero_mul, Nat.zero_add]]
    exact this

set_option maxRecDepth 100000 in
theorem size_any (a : Int) (ha : inI a) (w : World) :
    Calls Try.prog 91 #[.int .i64 a] w fun e w' => e = .returned (.int .u64 (a.natAbs : Int)) ∧ w = w' := by
  unfold inI at ha
  by_cases h : a < 0
  · have e : IntKind.u64.wrap (-IntKind.u64.wrap a) = (a.natAbs : Int) := by rw [IntKind.wrap_u64, IntKind.wrap_u64]; omega
    clear ha
    go_enter Try.func91, Try.ntmps91
    go_wp2_with fail
    go_ret
    exact ⟨rfl, rfl⟩
  · have e : IntKind.u64.wrap a = (a.natAbs : Int) := by rw [IntKind.wrap_u64]; omega
    clear ha
    go_enter Try.func91, Try.ntmps91
    go_wp2_with fail
    go_ret
    exact ⟨rfl, rfl⟩

set_option maxRecDepth 100000 in
theorem end_any (a : Int) (w : World) :
    Calls Try.prog 89 #[.int .i64 a] w fun e w' => e = .returned (.int .i64 (endI a)) ∧ w = w' := by
  unfold endI
  by_cases h : 0 < a
  · rw [if_pos h]
    go_enter Try.func89, Try.ntmps89
    go_wp2_with fail
    go_ret
    exact ⟨rfl, rfl⟩
  · rw [if_neg h]
    by_cases h2 : a < 0
    · rw [if_pos h2]
      go_enter Try.func89, Try.ntmps89
      go_wp2_with fail
      go_ret
      exact ⟨rfl, rfl⟩
    · rw [if_neg h2]
      go_enter Try.func89, Try.ntmps89
      go_wp2_with fail
      go_ret
      exact ⟨rfl, rfl⟩

set_option maxRecDepth 100000 in
theorem int_any (a : Int) (w : World) :
    Calls Try.prog 19 #[.int .i64 a] w fun e w' => e = .returned (.int .i64 (intI a)) ∧ w = w' := by
  unfold intI
  go_enter Try.func19, Try.ntmps19
  go_wp2_with fail
  go_ret
  exact ⟨rfl, rfl⟩

set_option maxRecDepth 100000 in
theorem lower_any (hi lo d : Nat) (hd : 0 < d) (hd' : d < 18446744073709551616) (hlo : lo < 18446744073709551616) (w : World) :
    Calls Try.prog 115 #[.int .u64 hi, .int .u64 lo, .int .u64 d] w (Ans (.int .i64 (quoI hi lo d true)) w) := by
  by_cases h : d ≤ hi
  · rw [quo_neg_big hd h]
    clear hd' hlo
    go_enter Try.func115, Try.ntmps115
    go_wp2_with fail
    go_ret
    exact ⟨rfl, 0, rfl⟩
  · have hc := fun w => div64_any hi lo d (by omega) hd' hlo w
    rw [quo_neg hd]
    obtain ⟨q, hq⟩ : ∃ q : Int, q = (((hi * 18446744073709551616 + lo) / d : Nat) : Int) := ⟨_, rfl⟩
    obtain ⟨r, hr⟩ : ∃ r : Int, r = (((hi * 18446744073709551616 + lo) % d : Nat) : Int) := ⟨_, rfl⟩
    have hq0 : 0 ≤ q := by rw [hq]; exact Int.natCast_nonneg _
    have hr0 : 0 ≤ r := by rw [hr]; exact Int.natCast_nonneg _
    have hrr : (if 0 < (hi * 18446744073709551616 + lo) % d then (1 : Int) else 0) = if 0 < r then 1 else 0 := by
      rw [hr]; congr 1; exact propext (by omega)
    rw [hrr]
    rw [← hq, ← hr] at hc
    rw [← hq]
    clear hq hr hrr hd' hlo
    by_cases h1 : 9223372036854775807 < q
    · rw [clampI_low (by split <;> omega)]
      go_enter Try.func115, Try.ntmps115
      go_wp2_with (go_at_call 116; refine (hc _).mono ?_; rintro e w' ⟨rfl, n, rfl⟩)
      go_ret
      exact ⟨rfl, _, rfl⟩
    · by_cases h2 : 0 < r
      · rw [if_pos h2, clampI_id (by unfold inI; omega)]
        go_enter Try.func115, Try.ntmps115
        go_wp2_with (go_at_call 116; refine (hc _).mono ?_; rintro e w' ⟨rfl, n, rfl⟩)
        go_ret
        exact ⟨rfl, _, rfl⟩
      · rw [if_neg h2, clampI_id (by unfold inI; omega)]
        go_enter Try.func115, Try.ntmps115
        go_wp2_with (go_at_call 116; refine (hc _).mono ?_; rintro e w' ⟨rfl, n, rfl⟩)
        go_ret
        exact ⟨ret_i64 (by omega), _, rfl⟩

set_option maxRecDepth 100000 in
theorem quotient_any (hi lo d : Nat) (below : Bool) (hd : 0 < d) (hd' : d < 18446744073709551616) (hlo : lo < 18446744073709551616) (w : World) :
    Calls Try.prog 92 #[.int .u64 hi, .int .u64 lo, .int .u64 d, .bool below] w (Ans (.int .i64 (quoI hi lo d below)) w) := by
  cases below with
  | true =>
    have hc := fun w => lower_any hi lo d hd hd' hlo w
    generalize quoI hi lo d true = z at *
    clear hd hd' hlo
    go_enter Try.func92, Try.ntmps92
    go_wp2_with (go_at_call 115; refine (hc _).mono ?_; rintro e w' ⟨rfl, n, rfl⟩)
    go_ret
    exact ⟨rfl, _, rfl⟩
  | false =>
    by_cases h : d ≤ hi
    · rw [quo_pos_big hd h]
      clear hd' hlo
      go_enter Try.func92, Try.ntmps92
      go_wp2_with fail
      go_ret
      exact ⟨rfl, 0, rfl⟩
    · have hc := fun w => div64_any hi lo d (by omega) hd' hlo w
      rw [quo_pos hd]
      obtain ⟨q, hq⟩ : ∃ q : Int, q = (((hi * 18446744073709551616 + lo) / d : Nat) : Int) := ⟨_, rfl⟩
      obtain ⟨r, hr⟩ : ∃ r : Int, r = (((hi * 18446744073709551616 + lo) % d : Nat) : Int) := ⟨_, rfl⟩
      have hq0 : 0 ≤ q := by rw [hq]; exact Int.natCast_nonneg _
      rw [← hq, ← hr] at hc
      rw [← hq]
      clear hq hr hd' hlo
      by_cases h1 : 9223372036854775807 < q
      · rw [clampI_top (by omega)]
        go_enter Try.func92, Try.ntmps92
        go_wp2_with (go_at_call 116; refine (hc _).mono ?_; rintro e w' ⟨rfl, n, rfl⟩)
        go_ret
        exact ⟨rfl, _, rfl⟩
      · rw [clampI_id (by unfold inI; omega)]
        go_enter Try.func92, Try.ntmps92
        go_wp2_with (go_at_call 116; refine (hc _).mono ?_; rintro e w' ⟨rfl, n, rfl⟩)
        go_ret
        exact ⟨rfl, _, rfl⟩

namespace Fx
theorem mul_neg_of {a b : Int} (h : (decide (a < 0) != decide (b < 0)) = true) : a * b = -((a.natAbs * b.natAbs : Nat) : Int) := by
  have e := Int.natAbs_mul a b
  have : a * b ≤ 0 := by
    by_cases ha : a < 0 <;> by_cases hb : b < 0 <;> simp [ha, hb] at h
    · exact Int.mul_nonpos_of_nonpos_of_nonneg (by omega) (by omega)
    · exact Int.mul_nonpos_of_nonneg_of_nonpos (by omega) (by omega)
  rw [← e]; omega
theorem mul_pos_of {a b : Int} (h : (decide (a < 0) != decide (b < 0)) = false) : a * b = ((a.natAbs * b.natAbs : Nat) : Int) := by
  have e := Int.natAbs_mul a b
  have : 0 ≤ a * b := by
    by_cases ha : a < 0 <;> by_cases hb : b < 0 <;> simp [ha, hb] at h
    · exact Int.mul_nonneg_of_nonpos_of_nonpos (by omega) (by omega)
    · exact Int.mul_nonneg (by omega) (by omega)
  rw [← e]; omega
theorem words (n : Nat) : n / 18446744073709551616 * 18446744073709551616 + n % 18446744073709551616 = n := Nat.div_add_mod' _ _
theorem mul_quo (a b : Int) : quoI (a.natAbs * b.natAbs / 18446744073709551616) (a.natAbs * b.natAbs % 18446744073709551616) 1048576 (decide (a < 0) != decide (b < 0)) = mulI a b := by
  unfold quoI mulI
  rw [words]
  cases h : (decide (a < 0) != decide (b < 0)) with
  | true => rw [if_pos rfl, mul_neg_of h]; rfl
  | false => rw [if_neg (by simp), mul_pos_of h]; rfl
theorem div_quo (a b : Int) (hb : b ≠ 0) : quoI (a.natAbs * 1048576 / 18446744073709551616) (a.natAbs * 1048576 % 18446744073709551616) b.natAbs (decide (a < 0) != decide (b < 0)) = divI a b := by
  unfold quoI divI
  rw [words, if_neg hb]
  by_cases hb' : 0 < b
  · rw [if_pos hb', show ((b.natAbs : Nat) : Int) = b by omega]
    by_cases ha : a < 0
    · rw [if_pos (by simp [ha]; omega)]; congr 2; omega
    · rw [if_neg (by simp [ha]; omega)]; congr 2; omega
  · rw [if_neg hb', show ((b.natAbs : Nat) : Int) = -b by omega]
    by_cases ha : a < 0
    · rw [if_neg (by simp [ha]; omega)]; congr 2; omega
    · rw [if_pos (by simp [ha]; omega)]; congr 2; omega
end Fx

set_option maxRecDepth 100000 in
set_option maxHeartbeats 1000000 in
theorem div_any (a b : Int) (ha : inI a) (hb : inI b) (w : World) :
    Calls Try.prog 20 #[.int .i64 a, .int .i64 b] w (Ans (.int .i64 (divI a b)) w) := by
  by_cases hz : b = 0
  · subst hz
    have c1 := fun w => end_any a w
    rw [show divI a 0 = endI a from by unfold divI; rw [if_pos rfl]]
    generalize endI a = z at *
    clear ha hb
    go_enter Try.func20, Try.ntmps20
    go_wp2_with (go_at_call 89; ((with_reducible refine (c1 _).mono ?_); rintro e w' ⟨rfl, rfl⟩))
    go_ret
    exact ⟨rfl, 0, rfl⟩
  have c1 := fun w => size_any a ha w
  have c2 := fun w => size_any b hb w
  have b1 : a.natAbs < 18446744073709551616 := by unfold inI at ha; omega
  have b2 : b.natAbs < 18446744073709551616 := by unfold inI at hb; omega
  have b3 : 0 < b.natAbs := by omega
  have c3 : ∀ w, Calls Try.prog 90 #[.int .u64 (a.natAbs : Int), .int .u64 1048576] w fun e w' => e = .returned (.tuple #[.int .u64 ((a.natAbs * 1048576 / 18446744073709551616 : Nat) : Int), .int .u64 ((a.natAbs * 1048576 % 18446744073709551616 : Nat) : Int)]) ∧ w = w' :=
    fun w => mul64_any a.natAbs 1048576 b1 (by decide) w
  have c4 : ∀ w, Calls Try.prog 92 #[.int .u64 ((a.natAbs * 1048576 / 18446744073709551616 : Nat) : Int), .int .u64 ((a.natAbs * 1048576 % 18446744073709551616 : Nat) : Int), .int .u64 (b.natAbs : Int), .bool (decide (a < 0) != decide (b < 0))] w (Ans (.int .i64 (divI a b)) w) := fun w => by
    rw [← div_quo a b hz]; exact quotient_any _ _ _ _ b3 b2 (Nat.mod_lt _ (by decide)) w
  generalize divI a b = z at *
  generalize a.natAbs * 1048576 / 18446744073709551616 = hi at *
  generalize a.natAbs * 1048576 % 18446744073709551616 = lo at *
  generalize a.natAbs = na at *
  generalize b.natAbs = nb at *
  clear b1 b2 b3 ha hb
  obtain ⟨s1, h1⟩ : ∃ s : Bool, decide (a < 0) = s := ⟨_, rfl⟩
  obtain ⟨s2, h2⟩ : ∃ s : Bool, decide (b < 0) = s := ⟨_, rfl⟩
  have hz' : (b == 0) = false := by simpa using hz
  clear hz
  rw [h1, h2] at c4
  cases s1 <;> cases s2 <;> simp only [bne_self_eq_false, Bool.true_bne, Bool.false_bne, Bool.not_false] at c4
  all_goals
    go_enter Try.func20, Try.ntmps20
    go_wp2_with (first | (go_at_call 91; ((with_reducible refine (c1 _).mono ?_); rintro e w' ⟨rfl, rfl⟩)) | (go_at_call 91; ((with_reducible refine (c2 _).mono ?_); rintro e w' ⟨rfl, rfl⟩)) | (go_at_call 90; ((with_reducible refine (c3 _).mono ?_); rintro e w' ⟨rfl, rfl⟩)) | (go_at_call 92; ((with_reducible refine (c4 _).mono ?_); rintro e w' ⟨rfl, n, rfl⟩)))
    go_ret
    exact ⟨rfl, _, rfl⟩

set_option maxRecDepth 100000 in
set_option maxHeartbeats 1000000 in
theorem add_any (a b : Int) (ha : inI a) (hb : inI b) (w : World) :
    Calls Try.prog 85 #[.int .i64 a, .int .i64 b] w (Ans (.int .i64 (addI a b)) w) := by
  unfold inI at ha hb
  unfold addI
  by_cases h1 : 0 < b
  · by_cases h2 : 9223372036854775807 - b < a
    · rw [clampI_top (by omega)]
      go_enter Try.func85, Try.ntmps85
      go_wp2_with fail
      go_ret
      exact ⟨rfl, 0, rfl⟩
    · rw [clampI_id (by unfold inI; omega)]
      go_enter Try.func85, Try.ntmps85
      go_wp2_with fail
      go_ret
      exact ⟨rfl, 0, rfl⟩
  · by_cases h3 : b < 0
    · by_cases h2 : a < -9223372036854775808 - b
      · rw [clampI_low (by omega)]
        go_enter Try.func85, Try.ntmps85
        go_wp2_with fail
        go_ret
        exact ⟨rfl, 0, rfl⟩
      · rw [clampI_id (by unfold inI; omega)]
        go_enter Try.func85, Try.ntmps85
        go_wp2_with fail
        go_ret
        exact ⟨rfl, 0, rfl⟩
    · rw [clampI_id (by unfold inI; omega)]
      go_enter Try.func85, Try.ntmps85
      go_wp2_with fail
      go_ret
      exact ⟨rfl, 0, rfl⟩

set_option maxRecDepth 100000 in
set_option maxHeartbeats 1000000 in
theorem whole_any (n : Int) (hn : inI n) (w : World) :
    Calls Try.prog 21 #[.int .i64 n] w (Ans (.int .i64 (wholeI n)) w) := by
  unfold inI at hn
  unfold wholeI
  have c1 := fun w => end_any n w
  by_cases h1 : 8796093022207 < n
  · rw [show endI n = 9223372036854775807 from by unfold endI; rw [if_pos (by omega)]] at c1
    rw [clampI_top (by omega)]
    clear hn
    go_enter Try.func21, Try.ntmps21
    go_wp2_with (go_at_call 89; ((with_reducible refine (c1 _).mono ?_); rintro e w' ⟨rfl, rfl⟩))
    go_ret
    exact ⟨rfl, 0, rfl⟩
  · by_cases h2 : n < -8796093022208
    · rw [show endI n = -9223372036854775808 from by unfold endI; rw [if_neg (by omega), if_pos (by omega)]] at c1
      rw [clampI_low (by omega)]
      clear hn
      go_enter Try.func21, Try.ntmps21
      go_wp2_with (go_at_call 89; ((with_reducible refine (c1 _).mono ?_); rintro e w' ⟨rfl, rfl⟩))
      go_ret
      exact ⟨rfl, 0, rfl⟩
    · rw [clampI_id (by unfold inI; omega)]
      clear hn c1
      go_enter Try.func21, Try.ntmps21
      go_wp2_with fail
      go_ret
      exact ⟨rfl, 0, rfl⟩
end Go.Proofs.Ytmngaedcckjfoaa
