/- When two configurations come to the same, by the package conf: for every two. -/
import Derived.Test.YtongpnkejakceaaConfMay
import Derived.Deep.RegionHeld3
namespace Go.Proofs.Ytongpnkejakceaa
open Go.RowKit Go.Lib Fx Fl
set_option linter.unusedVariables false

set_option maxRecDepth 100000 in
set_option maxHeartbeats 1000000 in
theorem samepct_any (x y : Nat) (w : World) : Calls Try.prog 31 #[.float .f64 x, .float .f64 y] w (Ans (.bool (decide (pctI x = pctI y) && (pctB x == pctB y))) w) := by
  have c1 := fun w => pct_any x w
  have c2 := fun w => pct_any y w
  generalize pctI x = a at *
  generalize pctI y = b at *
  generalize pctB x = c at *
  generalize pctB y = d at *
  by_cases h : a = b
  · subst h
    cases c <;> cases d
    all_goals
      go_enter Try.func31, Try.ntmps31
      go_wp2_with (first | (go_at_call 10; ((with_reducible refine (c1 _).mono ?_); rintro e w' ⟨rfl, n, rfl⟩)) | (go_at_call 10; ((with_reducible refine (c2 _).mono ?_); rintro e w' ⟨rfl, n, rfl⟩)))
      go_ret
      exact ⟨by simp, _, rfl⟩
  · have hd : decide (a = b) = false := decide_eq_false h
    have hd2 : (a == b) = false := by simpa using h
    rw [hd]
    go_enter Try.func31, Try.ntmps31
    go_wp2_with (first | (go_at_call 10; ((with_reducible refine (c1 _).mono ?_); rintro e w' ⟨rfl, n, rfl⟩)) | (go_at_call 10; ((with_reducible refine (c2 _).mono ?_); rintro e w' ⟨rfl, n, rfl⟩)))
    go_ret
    exact ⟨by simp, _, rfl⟩

def sameB (p q : Int) (x y : Nat) (p' q' : Int) (x' y' : Nat) : Bool := decide (p = p') && decide (q = q') && (decide (pctI x = pctI x') && (pctB x == pctB x')) && decide (partI y = partI y')
set_option maxRecDepth 100000 in
set_option maxHeartbeats 2000000 in
theorem same_any (p q : Int) (x y : Nat) (p' q' : Int) (x' y' : Nat) (w : World) : Calls Try.prog 17 #[.agg #[.int .i64 p, .int .i64 q, .float .f64 x, .float .f64 y], .agg #[.int .i64 p', .int .i64 q', .float .f64 x', .float .f64 y']] w (AnsB (.bool (sameB p q x y p' q' x' y')) w) := by
  have c1 := fun w => samepct_any x x' w
  have c2 := fun w => part_any y w
  have c3 := fun w => part_any y' w
  unfold sameB
  generalize (decide (pctI x = pctI x') && (pctB x == pctB x')) = sp at *
  generalize partI y = a at *
  generalize partI y' = b at *
  by_cases h1 : p = p'
  · by_cases h2 : q = q'
    · subst h1 h2
      cases sp with
      | false =>
        go_enter Try.func17, Try.ntmps17
        go_wp2_with fail
        go_quiet ((first | (go_at_call 31; with_reducible exact quiet_ans0 c1) | (go_at_call 16; with_reducible exact quiet_ans0 c2) | (go_at_call 16; with_reducible exact quiet_ans0 c3)))
        go_wp2_with fail
        go_ret
        exact ⟨by simp, (by repeat (first | assumption | exact Below.refl _ _ | refine below_drewN ?_ _ | refine below_alloc ?_ _ | refine below_then ?_ (by assumption)))⟩
      | true =>
        by_cases h3 : a = b
        · subst h3
          go_enter Try.func17, Try.ntmps17
          go_wp2_with fail
          go_quiet ((first | (go_at_call 31; with_reducible exact quiet_ans0 c1) | (go_at_call 16; with_reducible exact quiet_ans0 c2) | (go_at_call 16; with_reducible exact quiet_ans0 c3)))
          go_wp2_with fail
          go_ret
          exact ⟨by simp, (by repeat (first | assumption | exact Below.refl _ _ | refine below_drewN ?_ _ | refine below_alloc ?_ _ | refine below_then ?_ (by assumption)))⟩
        · have hd : decide (a = b) = false := decide_eq_false h3
          have hd2 : (a == b) = false := by simpa using h3
          go_enter Try.func17, Try.ntmps17
          go_wp2_with fail
          go_quiet ((first | (go_at_call 31; with_reducible exact quiet_ans0 c1) | (go_at_call 16; with_reducible exact quiet_ans0 c2) | (go_at_call 16; with_reducible exact quiet_ans0 c3)))
          go_wp2_with fail
          go_ret
          exact ⟨by simp [hd], (by repeat (first | assumption | exact Below.refl _ _ | refine below_drewN ?_ _ | refine below_alloc ?_ _ | refine below_then ?_ (by assumption)))⟩
    · subst h1
      have hd : decide (q = q') = false := decide_eq_false h2
      have hd2 : (q == q') = false := by simpa using h2
      go_enter Try.func17, Try.ntmps17
      go_wp2_with fail
      go_quiet (fail)
      go_wp2_with fail
      go_ret
      exact ⟨by simp [hd], (by repeat (first | assumption | exact Below.refl _ _ | refine below_drewN ?_ _ | refine below_alloc ?_ _ | refine below_then ?_ (by assumption)))⟩
  · have hd : decide (p = p') = false := decide_eq_false h1
    have hd2 : (p == p') = false := by simpa using h1
    go_enter Try.func17, Try.ntmps17
    go_wp2_with fail
    go_quiet (fail)
    go_wp2_with fail
    go_ret
    exact ⟨by simp [hd], (by repeat (first | assumption | exact Below.refl _ _ | refine below_drewN ?_ _ | refine below_alloc ?_ _ | refine below_then ?_ (by assumption)))⟩
end Go.Proofs.Ytongpnkejakceaa
