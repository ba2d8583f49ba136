/- rate.Text and the document's own Text: the same string of every float. -/
import Derived.Test.YtinlbenifmcgaaaDoorRateSame
import Derived.Test.YtinlbenifmcgaaaDoorTextMath
import Derived.Test.YtinlbenifmcgaaaDoorShelfI
import Derived.Lib.ItoaLen
import Derived.Lib.AppendIntMem
namespace Go.Proofs.YtinlbenifmcgaaaDoor
open Go.RowKit Go.Lib Fx Ho Gr
set_option linter.unusedVariables false
namespace Pr
open Fk Fl Ieee Tm
variable {w w' : World} {x y r : Nat} {v : Value} {zs : List Nat}
/-- The library's table as the shelf asks it, whatever is made from here on. -/
def Tab (w : World) : Prop := Lib.TabBelow Tryd.prog w.heap.size w "internal/strconv.uint64pow10" .u64 Lib.pow10Tab
theorem Tab.below (h : Tab w) (hb : Below w.heap.size w w') : Tab w' := fun w2 h2 => h w2 (hb.trans (h2.mono hb.size))
def ab (x : Nat) : Nat := x % 9223372036854775808
theorem ab_wf (x : Nat) : ab x < 9223372036854775808 := Nat.mod_lt _ (by decide)
theorem ab_read {s : Bool} {m : Nat} {i : Int} (h : double.read x = .number s m i) : double.read (ab x) = .number false m i := by
  unfold Format.read at h ⊢
  simp only [leastPlace_eq, binade_eq, infRung_eq, signWeight_eq] at h ⊢
  unfold ab
  rw [Nat.mod_mod, show x % 9223372036854775808 / 9223372036854775808 % 2 = 0 by omega]
  generalize x % 9223372036854775808 = r at *
  by_cases h1 : r < 4503599627370496
  · rw [if_pos h1, Datum.number.injEq] at h
    rw [if_pos h1, h.2.1, h.2.2]; rfl
  · rw [if_neg h1] at h ⊢
    by_cases h2 : r < 9218868437227405312
    · rw [if_pos h2, Datum.number.injEq] at h
      rw [if_pos h2, h.2.1, h.2.2]; rfl
    · rw [if_neg h2] at h
      by_cases h3 : r = 9218868437227405312
      · rw [if_pos h3] at h; exact Datum.noConfusion h
      · rw [if_neg h3] at h; exact Datum.noConfusion h
theorem ab_inf {s : Bool} (h : double.read x = .infinity s) : double.read (ab x) = .infinity false := by
  unfold Format.read at h ⊢
  simp only [leastPlace_eq, binade_eq, infRung_eq, signWeight_eq] at h ⊢
  unfold ab
  rw [Nat.mod_mod, show x % 9223372036854775808 / 9223372036854775808 % 2 = 0 by omega]
  generalize x % 9223372036854775808 = r at *
  by_cases h1 : r < 4503599627370496
  · rw [if_pos h1] at h; exact Datum.noConfusion h
  · rw [if_neg h1] at h ⊢
    by_cases h2 : r < 9218868437227405312
    · rw [if_pos h2] at h; exact Datum.noConfusion h
    · rw [if_neg h2] at h ⊢
      by_cases h3 : r = 9218868437227405312
      · rw [if_pos h3]; rfl
      · rw [if_neg h3] at h; exact Datum.noConfusion h
theorem ab_neg (hx : Wf x) (h : neg x = true) : x = ab x + 9223372036854775808 := by
  unfold neg at h; unfold ab Wf at *
  have : x / 9223372036854775808 % 2 = 1 := by simpa using h
  omega
theorem ab_pos (hx : Wf x) (h : neg x = false) : x = ab x := by
  unfold neg at h; unfold ab Wf at *
  have : ¬ x / 9223372036854775808 % 2 = 1 := by simpa using h
  omega
set_option maxRecDepth 100000 in
theorem abs_any (x : Nat) (hx : Wf x) (w : World) : Calls Tryd.prog 30 #[.float .f64 x] w (Still (.float .f64 (ab x)) w) := by
  have hr := bits_run x
  have hf := frombits_run ((ab x : Nat) : Int)
  rw [Int.toNat_natCast] at hf
  have hb : bits .andNot .u64 (x : Int) 9223372036854775808 = ((ab x : Nat) : Int) := by
    have := u64_andNot_nat x 9223372036854775808 hx (by decide)
    rw [show (18446744073709551615 - 9223372036854775808 : Nat) = 2 ^ 63 - 1 by decide, Nat.and_two_pow_sub_one_eq_mod] at this
    exact this
  generalize ab x = y at *
  go_enter Tryd.func30, Tryd.ntmps30
  go_wp2_with fail
  go_ret
  exact ⟨rfl, rfl⟩
set_option maxRecDepth 100000 in
theorem isinf_any (x : Nat) (hx : Wf x) (b : Bool) (hb : ∃ o, FloatKind.f64.format.order (ab x) 9218868437227405311 = some o ∧ b = (o == .gt)) (w : World) : Calls Tryd.prog 31 #[.float .f64 x, .int .i64 0] w (Still (.bool b) w) := by
  have ca := abs_any x hx w
  obtain ⟨o, ho, rfl⟩ := hb
  generalize ab x = y at *
  cases o
  all_goals
    go_enter Tryd.func31, Tryd.ntmps31
    go_wp2_with (go_at_call 30; (with_reducible refine Calls.mono ca ?_); rintro e w2 ⟨rfl, rfl⟩)
    go_ret
    exact ⟨rfl, rfl⟩
theorem and_top {h : Nat} (hh : h < 9223372036854775808) : h &&& 9223372036854775808 = 0 := by
  rw [show (9223372036854775808 : Nat) = 2 ^ 63 by decide]
  refine Nat.eq_of_testBit_eq fun i => ?_
  rw [Nat.testBit_and, Nat.testBit_two_pow, Nat.zero_testBit]
  by_cases e : 63 = i
  · subst e
    rw [Nat.testBit_lt_two_pow (show h < 2 ^ 63 by omega)]; rfl
  · simp [e]
set_option maxRecDepth 100000 in
theorem round_any (h : Nat) (hh : h < 9223372036854775808) (hE : h / 4503599627370496 < 1073) (w : World) : Calls Tryd.prog 33 #[.float .f64 h] w (Still (.float .f64 (rnd h)) w) := by
  have hr := bits_run h
  have hf := fun (n : Nat) => frombits_run ((n : Nat) : Int)
  simp only [Int.toNat_natCast] at hf
  obtain ⟨E, hq⟩ : ∃ E, h / 4503599627370496 = E := ⟨_, rfl⟩
  have e1 : (h : Int) / 4503599627370496 = (E : Int) := by omega
  have e2 : bits .and .u64 (E : Int) 2047 = (E : Int) := by
    have := u64_and_nat E 2047 (by omega) (by decide)
    rw [show (2047 : Nat) = 2 ^ 11 - 1 by decide, Nat.and_two_pow_sub_one_eq_mod, Nat.mod_eq_of_lt (by rw [show (2 : Nat) ^ 11 = 2048 by decide]; omega)] at this
    exact this
  rw [hq] at hE
  unfold rnd
  rw [hq]
  by_cases h1 : E < 1022
  · rw [if_pos h1]
    have e3 : bits .and .u64 (h : Int) 9223372036854775808 = 0 := by
      have := u64_and_nat h 9223372036854775808 (by omega) (by decide)
      refine this.trans (congrArg (Nat.cast : Nat → Int) (a₂ := 0) ?_)
      exact and_top hh
    have e4 : (E : Int) < 1023 := by omega
    have e5 : ¬ (E : Int) = 1022 := by omega
    have hf0 : ∀ w, (callFunc 38 #[.int .u64 0]).run Tryd.prog w = .ok (.value (.float .f64 0)) w := frombits_run 0
    clear hf hq hh
    go_enter Tryd.func33, Tryd.ntmps33
    go_wp2_with fail
    go_ret
    exact ⟨rfl, rfl⟩
  · rw [if_neg h1]
    by_cases h3 : E = 1022
    · rw [if_pos h3]
      subst h3
      have e3 : bits .and .u64 (h : Int) 9223372036854775808 = 0 := by
        have := u64_and_nat h 9223372036854775808 (by omega) (by decide)
        refine this.trans (congrArg (Nat.cast : Nat → Int) (a₂ := 0) ?_)
        exact and_top hh
      have e1b : (h : Int) / 4503599627370496 = 1022 := by omega
      have e2b : bits .and .u64 1022 2047 = 1022 := by decide
      clear e1 e2
      have e6 : bits .or .u64 0 4607182418800017408 = 4607182418800017408 := by
        have := u64_or_nat 0 4607182418800017408 (by decide) (by decide)
        rw [Nat.zero_or] at this
        exact this
      have hf0 : ∀ w, (callFunc 38 #[.int .u64 4607182418800017408]).run Tryd.prog w = .ok (.value (.float .f64 4607182418800017408)) w := frombits_run 4607182418800017408
      clear hf hq hh
      go_enter Tryd.func33, Tryd.ntmps33
      go_wp2_with fail
      go_ret
      exact ⟨rfl, rfl⟩
    · rw [if_neg h3]
      obtain ⟨j, hj⟩ : ∃ j, E = 1023 + j := ⟨E - 1023, by omega⟩
      subst hj
      have hj2 : j ≤ 49 := by omega
      rw [show 1074 - (1023 + j) = 51 - j by omega, show 1075 - (1023 + j) = 52 - j by omega]
      have e4 : ¬ ((1023 + j : Nat) : Int) < 1023 := by omega
      have e5 : ((1023 + j : Nat) : Int) < 1075 := by omega
      have e6 : IntKind.u64.wrap (((1023 + j : Nat) : Int) - 1023) = (j : Int) := by rw [IntKind.wrap_u64]; omega
      have e7 : (2251799813685248 : Int) / 2 ^ j = ((2 ^ (51 - j) : Nat) : Int) := by
        rw [← half_shift j (by omega), Int.natCast_ediv, Int.natCast_pow]; rfl
      have e8 : (4503599627370495 : Int) / 2 ^ j = ((2 ^ (52 - j) - 1 : Nat) : Int) := by
        rw [← mask_shift j (by omega), Int.natCast_ediv, Int.natCast_pow]; rfl
      have hp : 2 ^ (51 - j) ≤ 2251799813685248 := by rw [← half_shift j (by omega)]; exact Nat.div_le_self _ _
      have hp2 : 2 ^ (52 - j) - 1 ≤ 4503599627370495 := by rw [← mask_shift j (by omega)]; exact Nat.div_le_self _ _
      have e9 : IntKind.u64.wrap ((h : Int) + ((2 ^ (51 - j) : Nat) : Int)) = ((h + 2 ^ (51 - j) : Nat) : Int) := by
        rw [IntKind.wrap_u64]
        generalize 2 ^ (51 - j) = A at *
        omega
      have e10 : bits .andNot .u64 ((h + 2 ^ (51 - j) : Nat) : Int) ((2 ^ (52 - j) - 1 : Nat) : Int) = (((h + 2 ^ (51 - j)) / 2 ^ (52 - j) * 2 ^ (52 - j) : Nat) : Int) := by
        have hx : h + 2 ^ (51 - j) < 18446744073709551616 := by generalize 2 ^ (51 - j) = A at *; omega
        rw [u64_andNot_nat _ _ hx (by omega), clear_low _ _ hx (by omega)]
      have hf0 := hf ((h + 2 ^ (51 - j)) / 2 ^ (52 - j) * 2 ^ (52 - j))
      obtain ⟨A, hA⟩ : ∃ A : Nat, 2 ^ (51 - j) = A := ⟨_, rfl⟩
      obtain ⟨B, hB⟩ : ∃ B : Nat, 2 ^ (52 - j) - 1 = B := ⟨_, rfl⟩
      obtain ⟨C, hC⟩ : ∃ C : Nat, (h + 2 ^ (51 - j)) / 2 ^ (52 - j) * 2 ^ (52 - j) = C := ⟨_, rfl⟩
      obtain ⟨D, hD⟩ : ∃ D : Int, ((1023 + j : Nat) : Int) = D := ⟨_, rfl⟩
      rw [hC] at hf0 e10
      rw [hC]
      rw [hA] at e7 e9 e10 hp
      rw [hB] at e8 e10 hp2
      rw [hD] at e1 e2 e4 e5 e6
      rw [Int.natCast_add] at e9 e10
      have hD0 : 0 ≤ D := by omega
      clear hf hq hA hB hC hD h1 h3
      go_enter Tryd.func33, Tryd.ntmps33
      go_wp2_with fail
      go_ret
      exact ⟨rfl, rfl⟩
end Pr
end Go.Proofs.YtinlbenifmcgaaaDoor
