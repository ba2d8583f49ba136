/- When a machine may be of a configuration, by the package conf and by the document; what the statements of layer 2 call told. -/
import Derived.Test.YtongpnkejakceaaConf
namespace Go.Proofs.Ytongpnkejakceaa
open Go.RowKit Go.Lib Fx Fl
set_option linter.unusedVariables false

def mayB (p q : Int) : Bool := decide (1 ≤ p ∧ p ≤ 64 ∧ 256 ≤ q ∧ q ≤ 16777216 ∧ q % 64 = 0)

set_option maxRecDepth 100000 in
set_option maxHeartbeats 1000000 in
theorem may_any (p q : Int) (x y : Nat) (w : World) : Calls Try.prog 14 #[.agg #[.int .i64 p, .int .i64 q, .float .f64 x, .float .f64 y]] w (AnsB (.bool (mayB p q)) w) := by
  by_cases h1 : 1 ≤ p
  · by_cases h2 : p ≤ 64
    · by_cases h3 : 256 ≤ q
      · by_cases h4 : q ≤ 16777216
        · by_cases h5 : q % 64 = 0
          · rw [show mayB p q = true from decide_eq_true ⟨h1, h2, h3, h4, h5⟩]
            go_enter Try.func14, Try.ntmps14
            go_wp2_with fail
            all_goals go_ret
            all_goals exact ⟨rfl, below_alloc (Below.refl _ _) _⟩
          · have h6 : (q % 64 == 0) = false := by simpa using h5
            rw [show mayB p q = false from decide_eq_false (by omega)]
            go_enter Try.func14, Try.ntmps14
            go_wp2_with fail
            all_goals go_ret
            all_goals exact ⟨rfl, below_alloc (Below.refl _ _) _⟩
        · rw [show mayB p q = false from decide_eq_false (by omega)]
          go_enter Try.func14, Try.ntmps14
          go_wp2_with fail
          all_goals go_ret
          all_goals exact ⟨rfl, below_alloc (Below.refl _ _) _⟩
      · rw [show mayB p q = false from decide_eq_false (by omega)]
        go_enter Try.func14, Try.ntmps14
        go_wp2_with fail
        all_goals go_ret
        all_goals exact ⟨rfl, below_alloc (Below.refl _ _) _⟩
    · rw [show mayB p q = false from decide_eq_false (by omega)]
      go_enter Try.func14, Try.ntmps14
      go_wp2_with fail
      all_goals go_ret
      all_goals exact ⟨rfl, below_alloc (Below.refl _ _) _⟩
  · rw [show mayB p q = false from decide_eq_false (by omega)]
    go_enter Try.func14, Try.ntmps14
    go_wp2_with fail
    all_goals go_ret
    all_goals exact ⟨rfl, below_alloc (Below.refl _ _) _⟩

set_option maxRecDepth 100000 in
set_option maxHeartbeats 1000000 in
theorem rmay_any (p q : Int) (x y : Nat) (w : World) : Calls Try.prog 15 #[.agg #[.int .i64 p, .int .i64 q, .float .f64 x, .float .f64 y]] w (AnsB (.bool (mayB p q)) w) := by
  by_cases h1 : 1 ≤ p
  · by_cases h2 : p ≤ 64
    · by_cases h3 : 256 ≤ q
      · by_cases h4 : q ≤ 16777216
        · by_cases h5 : q % 64 = 0
          · rw [show mayB p q = true from decide_eq_true ⟨h1, h2, h3, h4, h5⟩]
            go_enter Try.func15, Try.ntmps15
            go_wp2_with fail
            all_goals go_ret
            all_goals exact ⟨rfl, below_alloc (Below.refl _ _) _⟩
          · have h6 : (q % 64 == 0) = false := by simpa using h5
            rw [show mayB p q = false from decide_eq_false (by omega)]
            go_enter Try.func15, Try.ntmps15
            go_wp2_with fail
            all_goals go_ret
            all_goals exact ⟨rfl, below_alloc (Below.refl _ _) _⟩
        · rw [show mayB p q = false from decide_eq_false (by omega)]
          go_enter Try.func15, Try.ntmps15
          go_wp2_with fail
          all_goals go_ret
          all_goals exact ⟨rfl, below_alloc (Below.refl _ _) _⟩
      · rw [show mayB p q = false from decide_eq_false (by omega)]
        go_enter Try.func15, Try.ntmps15
        go_wp2_with fail
        all_goals go_ret
        all_goals exact ⟨rfl, below_alloc (Below.refl _ _) _⟩
    · rw [show mayB p q = false from decide_eq_false (by omega)]
      go_enter Try.func15, Try.ntmps15
      go_wp2_with fail
      all_goals go_ret
      all_goals exact ⟨rfl, below_alloc (Below.refl _ _) _⟩
  · rw [show mayB p q = false from decide_eq_false (by omega)]
    go_enter Try.func15, Try.ntmps15
    go_wp2_with fail
    all_goals go_ret
    all_goals exact ⟨rfl, below_alloc (Below.refl _ _) _⟩

namespace Fl
open Ieee
theorem small_scale {m : Nat} {i : Int} (k : Nat) (e : (i + 1200).toNat + k = NN) : ∃ U : Int, 0 < U ∧ (TT : Int) = ((2 ^ k : Nat) : Int) * U ∧ val false m i = (m : Int) * U ∧ val true m i = -((m : Int) * U) := by
  refine ⟨((2 ^ (i + 1200).toNat : Nat) : Int), by have := Nat.two_pow_pos (i + 1200).toNat; omega, ?_, ?_, ?_⟩
  · rw [← Int.natCast_mul, ← Nat.pow_add, Nat.add_comm, e]; rfl
  · unfold val; rw [show sg false = 1 from rfl, Int.one_mul, Int.natCast_mul]
  · unfold val; rw [show sg true = -1 from rfl, Int.natCast_mul, Int.neg_mul, Int.one_mul]
theorem pct_50 : pctI 4632360355466785587 = 50 ∧ pctB 4632360355466785587 = true := by
  have hr : double.read 4632360355466785587 = .number false 7163538157286195 (-47) := by decide
  obtain ⟨U, hU, hT, hv, _⟩ := small_scale (m := 7163538157286195) (i := -47) 47 rfl
  have e1 : pctI 4632360355466785587 = if val false 7163538157286195 (-47) < 0 then 0 else if 10000 * (TT : Int) ≤ val false 7163538157286195 (-47) then 10000 else (val false 7163538157286195 (-47)).tdiv (TT : Int) := by unfold pctI; rw [hr]
  have e2 : pctB 4632360355466785587 = !decide (val false 7163538157286195 (-47) < 0) := by unfold pctB; rw [hr]
  rw [show ((2 ^ 47 : Nat) : Int) = 140737488355328 from by decide] at hT
  rw [show ((7163538157286195 : Nat) : Int) = 7163538157286195 from rfl] at hv
  rw [e1, e2, hv, hT, if_neg (by omega), if_neg (by omega), decide_eq_false (by omega), Int.tdiv_eq_ediv_of_nonneg (by omega), Int.mul_ediv_mul_of_pos_left _ _ hU]
  exact ⟨by decide, rfl⟩
theorem pct_m1 : pctB 13830554455654793216 = false ∧ pctI 13830554455654793216 = 0 := by
  have hr : double.read 13830554455654793216 = .number true 4503599627370496 (-52) := by decide
  obtain ⟨U, hU, hT, _, hv⟩ := small_scale (m := 4503599627370496) (i := -52) 52 rfl
  have e1 : pctI 13830554455654793216 = if val true 4503599627370496 (-52) < 0 then 0 else if 10000 * (TT : Int) ≤ val true 4503599627370496 (-52) then 10000 else (val true 4503599627370496 (-52)).tdiv (TT : Int) := by unfold pctI; rw [hr]
  have e2 : pctB 13830554455654793216 = !decide (val true 4503599627370496 (-52) < 0) := by unfold pctB; rw [hr]
  rw [show ((4503599627370496 : Nat) : Int) = 4503599627370496 from rfl] at hv
  rw [e1, e2, hv, if_pos (by omega), decide_eq_true (by omega)]
  exact ⟨rfl, rfl⟩
theorem part_half : partI 4602678819172646912 = 524288 := by
  have hr : double.read 4602678819172646912 = .number false 4503599627370496 (-53) := by decide
  obtain ⟨U, hU, hT, hv, _⟩ := small_scale (m := 4503599627370496) (i := -53) 53 rfl
  have e1 : partI 4602678819172646912 = if val false 4503599627370496 (-53) * 64 < (TT : Int) then 16384 else if (TT : Int) ≤ val false 4503599627370496 (-53) then 1048576 else floatI 4602678819172646912 := by unfold partI; rw [hr]
  rw [show ((2 ^ 53 : Nat) : Int) = 9007199254740992 from by decide] at hT
  rw [show ((4503599627370496 : Nat) : Int) = 4503599627370496 from rfl] at hv
  rw [e1, floatI_number hr, hv, hT, if_neg (by omega), if_neg (by omega)]
  have : 4503599627370496 * U * 1048576 = 524288 * (9007199254740992 * U) := by omega
  rw [this, Int.mul_ediv_cancel _ (by omega), clampI_id (by unfold inI; omega)]
theorem part_m3 : partI 13837309855095848960 = 16384 := by
  have hr : double.read 13837309855095848960 = .number true 6755399441055744 (-51) := by decide
  obtain ⟨U, hU, hT, _, hv⟩ := small_scale (m := 6755399441055744) (i := -51) 51 rfl
  have e1 : partI 13837309855095848960 = if val true 6755399441055744 (-51) * 64 < (TT : Int) then 16384 else if (TT : Int) ≤ val true 6755399441055744 (-51) then 1048576 else floatI 13837309855095848960 := by unfold partI; rw [hr]
  rw [show ((2 ^ 51 : Nat) : Int) = 2251799813685248 from by decide] at hT
  rw [show ((6755399441055744 : Nat) : Int) = 6755399441055744 from rfl] at hv
  rw [e1, hv, hT, if_pos (by omega)]
end Fl

set_option maxRecDepth 100000 in
set_option maxHeartbeats 1000000 in
theorem told2_any (w : World) : Calls Try.prog 13 #[] w (AnsB (.bool true) w) := by
  have c1 : ∀ w, Calls Try.prog 10 #[.float .f64 4632360355466785587] w (Ans (.tuple #[.int .i64 50, .bool true]) w) := fun w => by have := pct_any 4632360355466785587 w; rw [pct_50.1, pct_50.2] at this; exact this
  have c2 : ∀ w, Calls Try.prog 10 #[.float .f64 13830554455654793216] w (Ans (.tuple #[.int .i64 0, .bool false]) w) := fun w => by have := pct_any 13830554455654793216 w; rw [pct_m1.1, pct_m1.2] at this; exact this
  have c3 : ∀ w, Calls Try.prog 16 #[.float .f64 4602678819172646912] w (Ans (.int .i64 524288) w) := fun w => by have := part_any 4602678819172646912 w; rw [part_half] at this; exact this
  have c4 : ∀ w, Calls Try.prog 16 #[.float .f64 13837309855095848960] w (Ans (.int .i64 16384) w) := fun w => by have := part_any 13837309855095848960 w; rw [part_m3] at this; exact this
  have c5 : ∀ w, Calls Try.prog 14 #[.agg #[.int .i64 1, .int .i64 256, .float .f64 0, .float .f64 0]] w (AnsB (.bool true) w) := fun w => may_any 1 256 0 0 w
  have c6 : ∀ w, Calls Try.prog 14 #[.agg #[.int .i64 1, .int .i64 257, .float .f64 0, .float .f64 0]] w (AnsB (.bool false) w) := fun w => may_any 1 257 0 0 w
  go_enter Try.func13, Try.ntmps13
  go_wp2_with (first | (go_at_call 10; ((with_reducible refine (c1 _).mono ?_); rintro e w' ⟨rfl, n, rfl⟩)) | (go_at_call 10; ((with_reducible refine (c2 _).mono ?_); rintro e w' ⟨rfl, n, rfl⟩)) | (go_at_call 16; ((with_reducible refine (c3 _).mono ?_); rintro e w' ⟨rfl, n, rfl⟩)) | (go_at_call 16; ((with_reducible refine (c4 _).mono ?_); rintro e w' ⟨rfl, n, rfl⟩)) | (go_at_call 14; ((with_reducible refine (c5 _).mono ?_); rintro e w' ⟨rfl, hb⟩)) | (go_at_call 14; ((with_reducible refine (c6 _).mono ?_); rintro e w' ⟨rfl, hb⟩)))
  all_goals go_ret
  exact ⟨rfl, by repeat (first | assumption | exact Below.refl _ _ | refine below_drewN ?_ _ | refine below_then ?_ (by assumption))⟩
end Go.Proofs.Ytongpnkejakceaa
