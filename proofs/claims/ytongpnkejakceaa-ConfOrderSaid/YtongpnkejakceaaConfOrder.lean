/- For any two floats the statement ConfOrder answers true and leaves its arguments as they were: the answers lie within their bounds, a greater float never has a lesser answer but where the collector is off, and what is not a number has the usual answers. No condition. -/
import Derived.Test.YtongpnkejakceaaConfMay
import Derived.WalkKit
import Derived.ProofKit
import Derived.OpenShut
namespace Go.Proofs.Ytongpnkejakceaa.confOrder
open Go.ChangeShapes Go.WideShapes Go.ChangeAt Go.RowKit Go.Lib Fx Fl
set_option linter.unusedVariables false

theorem own : ownKnob Try.prog.godebug = none := by kernel_rfl

namespace Co
open Ieee
theorem pct_in (x : Nat) : 0 ≤ pctI x ∧ pctI x ≤ 10000 ∧ (pctB x = false → pctI x = 0) := by
  have h := pct_way x
  generalize pctI x = n at *
  generalize pctB x = b at *
  cases h with
  | nan => exact ⟨by omega, by omega, fun h => by cases h⟩
  | neg => exact ⟨by omega, by omega, fun _ => rfl⟩
  | inf => exact ⟨by omega, by omega, fun _ => rfl⟩
  | big => exact ⟨by omega, by omega, fun h => by cases h⟩
  | mid => exact ⟨by omega, by omega, fun h => by cases h⟩
theorem mid_float {s : Bool} {m : Nat} {i : Int} {x : Nat} (hx : double.read x = .number s m i) (h1 : ¬ val s m i * 64 < (TT : Int)) (h2 : ¬ (TT : Int) ≤ val s m i) : 16384 ≤ floatI x ∧ floatI x ≤ 1048576 := by
  have hT : (0 : Int) < (TT : Int) := by have := TT_pos; omega
  have g1 : 16384 ≤ val s m i * 1048576 / (TT : Int) := Int.le_ediv_of_mul_le hT (by omega)
  have g2 : val s m i * 1048576 / (TT : Int) < 1048577 := Int.ediv_lt_of_lt_mul hT (by omega)
  rw [floatI_number hx, clampI_id (by unfold inI; omega)]
  omega
theorem part_num {x : Nat} {s : Bool} {m : Nat} {i : Int} (hx : double.read x = .number s m i) : partI x = if val s m i * 64 < (TT : Int) then 16384 else if (TT : Int) ≤ val s m i then 1048576 else floatI x := by unfold partI; rw [hx]
theorem part_in (x : Nat) : 16384 ≤ partI x ∧ partI x ≤ 1048576 := by
  obtain ⟨d, hd⟩ : ∃ d, double.read x = d := ⟨_, rfl⟩
  cases d with
  | nan s t => rw [show partI x = 262144 by unfold partI; rw [hd]]; omega
  | infinity s => cases s <;> (first | rw [show partI x = 16384 by unfold partI; rw [hd]; rfl] | rw [show partI x = 1048576 by unfold partI; rw [hd]; rfl]) <;> omega
  | number s m i =>
    rw [part_num hd]
    split
    · omega
    · split
      · omega
      · rename_i h1 h2; exact mid_float hd h1 h2
theorem le_val {x y : Nat} {s t : Bool} {m n : Nat} {i j : Int} (hx : double.read x = .number s m i) (hy : double.read y = .number t n j) (h : FloatKind.f64.format.order x y = some .lt ∨ FloatKind.f64.format.order x y = some .eq) : val s m i ≤ val t n j := by
  rw [ord_num hx hy] at h
  refine Int.not_lt.1 fun hlt => ?_
  rw [compare_gt hlt] at h
  rcases h with h | h <;> cases h
theorem pct_mono {x y : Nat} (h : FloatKind.f64.format.order x y = some .lt ∨ FloatKind.f64.format.order x y = some .eq) (hx : pctB x = true) (hy : pctB y = true) : pctI x ≤ pctI y := by
  obtain ⟨d, hd⟩ : ∃ d, double.read x = d := ⟨_, rfl⟩
  obtain ⟨f, hf⟩ : ∃ f, double.read y = f := ⟨_, rfl⟩
  cases d with
  | nan s t => rw [ord_nan hd] at h; rcases h with h | h <;> cases h
  | infinity s => rw [show pctB x = false by unfold pctB; rw [hd]] at hx; cases hx
  | number s m i =>
    cases f with
    | nan s t => rw [ord_nan2 hf] at h; rcases h with h | h <;> cases h
    | infinity s => rw [show pctB y = false by unfold pctB; rw [hf]] at hy; cases hy
    | number t n j =>
      have hv := le_val hd hf h
      have hT : (0 : Int) < (TT : Int) := by have := TT_pos; omega
      have e1 : pctI x = if val s m i < 0 then 0 else if 10000 * (TT : Int) ≤ val s m i then 10000 else (val s m i).tdiv (TT : Int) := by unfold pctI; rw [hd]
      have e2 : pctI y = if val t n j < 0 then 0 else if 10000 * (TT : Int) ≤ val t n j then 10000 else (val t n j).tdiv (TT : Int) := by unfold pctI; rw [hf]
      rw [show pctB x = !decide (val s m i < 0) by unfold pctB; rw [hd]] at hx
      rw [show pctB y = !decide (val t n j < 0) by unfold pctB; rw [hf]] at hy
      have n1 : ¬ val s m i < 0 := by simpa using hx
      have n2 : ¬ val t n j < 0 := by simpa using hy
      rw [e1, e2, if_neg n1, if_neg n2, Int.tdiv_eq_ediv_of_nonneg (by omega), Int.tdiv_eq_ediv_of_nonneg (by omega)]
      have hdv : val s m i / (TT : Int) ≤ val t n j / (TT : Int) := Int.ediv_le_ediv hT hv
      by_cases g2 : 10000 * (TT : Int) ≤ val t n j
      · rw [if_pos g2]
        split
        · omega
        · have : val s m i / (TT : Int) < 10000 := Int.ediv_lt_of_lt_mul hT (by omega)
          omega
      · rw [if_neg g2, if_neg (by omega)]
        exact hdv
theorem part_mono {x y : Nat} (h : FloatKind.f64.format.order x y = some .lt ∨ FloatKind.f64.format.order x y = some .eq) : partI x ≤ partI y := by
  obtain ⟨d, hd⟩ : ∃ d, double.read x = d := ⟨_, rfl⟩
  obtain ⟨f, hf⟩ : ∃ f, double.read y = f := ⟨_, rfl⟩
  obtain ⟨x1, x2⟩ := part_in x
  obtain ⟨y1, y2⟩ := part_in y
  cases d with
  | nan s t => rw [ord_nan hd] at h; rcases h with h | h <;> cases h
  | infinity s =>
    cases s with
    | true => rw [show partI x = 16384 by unfold partI; rw [hd]; rfl]; omega
    | false =>
      cases f with
      | nan s t => rw [ord_nan2 hf] at h; rcases h with h | h <;> cases h
      | infinity t =>
        cases t with
        | false => rw [show partI x = 1048576 by unfold partI; rw [hd]; rfl, show partI y = 1048576 by unfold partI; rw [hf]; rfl]; omega
        | true =>
          have : FloatKind.f64.format.order x y = some .gt := by show double.order x y = _; unfold Format.order; rw [hd, hf]; rfl
          rw [this] at h; rcases h with h | h <;> cases h
      | number t n j => rw [ord_inf hd hf] at h; rcases h with h | h <;> cases h
  | number s m i =>
    cases f with
    | nan s t => rw [ord_nan2 hf] at h; rcases h with h | h <;> cases h
    | infinity t =>
      cases t with
      | false => rw [show partI y = 1048576 by unfold partI; rw [hf]; rfl]; omega
      | true =>
        have : FloatKind.f64.format.order x y = some .gt := by show double.order x y = _; unfold Format.order; rw [hd, hf]; rfl
        rw [this] at h; rcases h with h | h <;> cases h
    | number t n j =>
      have hv := le_val hd hf h
      have hT : (0 : Int) < (TT : Int) := by have := TT_pos; omega
      have e1 := part_num hd
      have e2 := part_num hf
      by_cases g1 : val s m i * 64 < (TT : Int)
      · rw [if_pos g1] at e1; omega
      · by_cases g2 : (TT : Int) ≤ val t n j
        · rw [if_neg (by omega), if_pos g2] at e2; omega
        · rw [if_neg g1, if_neg (by omega)] at e1
          rw [if_neg (by omega), if_neg g2] at e2
          rw [e1, e2, floatI_number hd, floatI_number hf]
          exact clampI_mono (Int.ediv_le_ediv hT (by omega))
theorem self_way (x : Nat) : FloatKind.f64.format.order x x = some .eq ∨ (FloatKind.f64.format.order x x = none ∧ pctI x = 100 ∧ pctB x = true ∧ partI x = 262144 ∧ ∀ y, FloatKind.f64.format.order x y = none) := by
  obtain ⟨d, hd⟩ : ∃ d, double.read x = d := ⟨_, rfl⟩
  cases d with
  | nan s t => exact Or.inr ⟨ord_nan hd, by unfold pctI; rw [hd], by unfold pctB; rw [hd], by unfold partI; rw [hd], fun y => ord_nan hd⟩
  | infinity s => exact Or.inl (ord_inf_self hd)
  | number s m i => exact Or.inl (ord_self hd)
end Co
open Co
set_option maxRecDepth 100000 in
set_option maxHeartbeats 2000000 in
theorem walk (a0 : Nat) (a1 : Nat) (w0 : (Lit.float .f64 a0).wf = true) (w1 : (Lit.float .f64 a1).wf = true) (w : World) :
    Calls Try.prog 4 #[.float .f64 a0, .float .f64 a1] w fun e w' => e = .returned (.bool true) ∧ Below w.heap.size w w' := by
  have ct := fun w => told2_any w
  obtain ⟨x1, x2, x3⟩ := pct_in a0
  obtain ⟨y1, y2, y3⟩ := pct_in a1
  obtain ⟨p1, p2⟩ := part_in a0
  obtain ⟨q1, q2⟩ := part_in a1
  have c1 := fun w => pct_any a0 w
  have c2 := fun w => pct_any a1 w
  have c3 := fun w => part_any a0 w
  have c4 := fun w => part_any a1 w
  have hm1 := pct_mono (x := a0) (y := a1)
  have hm2 := part_mono (x := a0) (y := a1)
  have hs := self_way a0
  generalize pctI a0 = a at *
  generalize pctB a0 = on at *
  generalize pctI a1 = b at *
  generalize pctB a1 = is at *
  generalize partI a0 = p at *
  generalize partI a1 = q at *
  clear w0 w1
  rcases hs with hs | ⟨hs, rfl, rfl, rfl, ho⟩
  · cases ho : FloatKind.f64.format.order a0 a1 with
    | none =>
      clear hm1 hm2
      cases on
      · have hz := x3 rfl; subst hz; clear x3 y3
        go_enter Try.func4, Try.ntmps4
        go_wp2_with (first | (go_at_call 13; ((with_reducible refine (ct _).mono ?_); rintro e w' ⟨rfl, hb⟩)) | (go_at_call 10; ((with_reducible refine (c1 _).mono ?_); rintro e w' ⟨rfl, n, rfl⟩)) | (go_at_call 10; ((with_reducible refine (c2 _).mono ?_); rintro e w' ⟨rfl, n, rfl⟩)) | (go_at_call 16; ((with_reducible refine (c3 _).mono ?_); rintro e w' ⟨rfl, n, rfl⟩)) | (go_at_call 16; ((with_reducible refine (c4 _).mono ?_); rintro e w' ⟨rfl, n, rfl⟩)))
        all_goals go_ret
        all_goals exact ⟨rfl, (by repeat (first | assumption | exact Below.refl _ _ | refine below_drewN ?_ _ | refine below_alloc ?_ _ | refine below_then ?_ (by assumption)))⟩
      · clear x3 y3
        go_enter Try.func4, Try.ntmps4
        go_wp2_with (first | (go_at_call 13; ((with_reducible refine (ct _).mono ?_); rintro e w' ⟨rfl, hb⟩)) | (go_at_call 10; ((with_reducible refine (c1 _).mono ?_); rintro e w' ⟨rfl, n, rfl⟩)) | (go_at_call 10; ((with_reducible refine (c2 _).mono ?_); rintro e w' ⟨rfl, n, rfl⟩)) | (go_at_call 16; ((with_reducible refine (c3 _).mono ?_); rintro e w' ⟨rfl, n, rfl⟩)) | (go_at_call 16; ((with_reducible refine (c4 _).mono ?_); rintro e w' ⟨rfl, n, rfl⟩)))
        all_goals go_ret
        all_goals exact ⟨rfl, (by repeat (first | assumption | exact Below.refl _ _ | refine below_drewN ?_ _ | refine below_alloc ?_ _ | refine below_then ?_ (by assumption)))⟩
    | some o =>
      cases o with
      | gt =>
        clear hm1 hm2
        cases on
        · have hz := x3 rfl; subst hz; clear x3 y3
          go_enter Try.func4, Try.ntmps4
          go_wp2_with (first | (go_at_call 13; ((with_reducible refine (ct _).mono ?_); rintro e w' ⟨rfl, hb⟩)) | (go_at_call 10; ((with_reducible refine (c1 _).mono ?_); rintro e w' ⟨rfl, n, rfl⟩)) | (go_at_call 10; ((with_reducible refine (c2 _).mono ?_); rintro e w' ⟨rfl, n, rfl⟩)) | (go_at_call 16; ((with_reducible refine (c3 _).mono ?_); rintro e w' ⟨rfl, n, rfl⟩)) | (go_at_call 16; ((with_reducible refine (c4 _).mono ?_); rintro e w' ⟨rfl, n, rfl⟩)))
          all_goals go_ret
          all_goals exact ⟨rfl, (by repeat (first | assumption | exact Below.refl _ _ | refine below_drewN ?_ _ | refine below_alloc ?_ _ | refine below_then ?_ (by assumption)))⟩
        · clear x3 y3
          go_enter Try.func4, Try.ntmps4
          go_wp2_with (first | (go_at_call 13; ((with_reducible refine (ct _).mono ?_); rintro e w' ⟨rfl, hb⟩)) | (go_at_call 10; ((with_reducible refine (c1 _).mono ?_); rintro e w' ⟨rfl, n, rfl⟩)) | (go_at_call 10; ((with_reducible refine (c2 _).mono ?_); rintro e w' ⟨rfl, n, rfl⟩)) | (go_at_call 16; ((with_reducible refine (c3 _).mono ?_); rintro e w' ⟨rfl, n, rfl⟩)) | (go_at_call 16; ((with_reducible refine (c4 _).mono ?_); rintro e w' ⟨rfl, n, rfl⟩)))
          all_goals go_ret
          all_goals exact ⟨rfl, (by repeat (first | assumption | exact Below.refl _ _ | refine below_drewN ?_ _ | refine below_alloc ?_ _ | refine below_then ?_ (by assumption)))⟩
      | lt =>
        have h2 := hm2 (Or.inl ho)
        have h1 := hm1 (Or.inl ho)
        clear hm1 hm2
        cases on <;> cases is
        · have hz := x3 rfl; subst hz; clear x3 y3 h1
          go_enter Try.func4, Try.ntmps4
          go_wp2_with (first | (go_at_call 13; ((with_reducible refine (ct _).mono ?_); rintro e w' ⟨rfl, hb⟩)) | (go_at_call 10; ((with_reducible refine (c1 _).mono ?_); rintro e w' ⟨rfl, n, rfl⟩)) | (go_at_call 10; ((with_reducible refine (c2 _).mono ?_); rintro e w' ⟨rfl, n, rfl⟩)) | (go_at_call 16; ((with_reducible refine (c3 _).mono ?_); rintro e w' ⟨rfl, n, rfl⟩)) | (go_at_call 16; ((with_reducible refine (c4 _).mono ?_); rintro e w' ⟨rfl, n, rfl⟩)))
          all_goals go_ret
          all_goals exact ⟨rfl, (by repeat (first | assumption | exact Below.refl _ _ | refine below_drewN ?_ _ | refine below_alloc ?_ _ | refine below_then ?_ (by assumption)))⟩
        · have hz := x3 rfl; subst hz; clear x3 y3 h1
          go_enter Try.func4, Try.ntmps4
          go_wp2_with (first | (go_at_call 13; ((with_reducible refine (ct _).mono ?_); rintro e w' ⟨rfl, hb⟩)) | (go_at_call 10; ((with_reducible refine (c1 _).mono ?_); rintro e w' ⟨rfl, n, rfl⟩)) | (go_at_call 10; ((with_reducible refine (c2 _).mono ?_); rintro e w' ⟨rfl, n, rfl⟩)) | (go_at_call 16; ((with_reducible refine (c3 _).mono ?_); rintro e w' ⟨rfl, n, rfl⟩)) | (go_at_call 16; ((with_reducible refine (c4 _).mono ?_); rintro e w' ⟨rfl, n, rfl⟩)))
          all_goals go_ret
          all_goals exact ⟨rfl, (by repeat (first | assumption | exact Below.refl _ _ | refine below_drewN ?_ _ | refine below_alloc ?_ _ | refine below_then ?_ (by assumption)))⟩
        · have hz := y3 rfl; subst hz; clear x3 y3 h1
          go_enter Try.func4, Try.ntmps4
          go_wp2_with (first | (go_at_call 13; ((with_reducible refine (ct _).mono ?_); rintro e w' ⟨rfl, hb⟩)) | (go_at_call 10; ((with_reducible refine (c1 _).mono ?_); rintro e w' ⟨rfl, n, rfl⟩)) | (go_at_call 10; ((with_reducible refine (c2 _).mono ?_); rintro e w' ⟨rfl, n, rfl⟩)) | (go_at_call 16; ((with_reducible refine (c3 _).mono ?_); rintro e w' ⟨rfl, n, rfl⟩)) | (go_at_call 16; ((with_reducible refine (c4 _).mono ?_); rintro e w' ⟨rfl, n, rfl⟩)))
          all_goals go_ret
          all_goals exact ⟨rfl, (by repeat (first | assumption | exact Below.refl _ _ | refine below_drewN ?_ _ | refine below_alloc ?_ _ | refine below_then ?_ (by assumption)))⟩
        · have h1 := h1 rfl rfl; clear x3 y3
          go_enter Try.func4, Try.ntmps4
          go_wp2_with (first | (go_at_call 13; ((with_reducible refine (ct _).mono ?_); rintro e w' ⟨rfl, hb⟩)) | (go_at_call 10; ((with_reducible refine (c1 _).mono ?_); rintro e w' ⟨rfl, n, rfl⟩)) | (go_at_call 10; ((with_reducible refine (c2 _).mono ?_); rintro e w' ⟨rfl, n, rfl⟩)) | (go_at_call 16; ((with_reducible refine (c3 _).mono ?_); rintro e w' ⟨rfl, n, rfl⟩)) | (go_at_call 16; ((with_reducible refine (c4 _).mono ?_); rintro e w' ⟨rfl, n, rfl⟩)))
          all_goals go_ret
          all_goals exact ⟨rfl, (by repeat (first | assumption | exact Below.refl _ _ | refine below_drewN ?_ _ | refine below_alloc ?_ _ | refine below_then ?_ (by assumption)))⟩
      | eq =>
        have h2 := hm2 (Or.inr ho)
        have h1 := hm1 (Or.inr ho)
        clear hm1 hm2
        cases on <;> cases is
        · have hz := x3 rfl; subst hz; clear x3 y3 h1
          go_enter Try.func4, Try.ntmps4
          go_wp2_with (first | (go_at_call 13; ((with_reducible refine (ct _).mono ?_); rintro e w' ⟨rfl, hb⟩)) | (go_at_call 10; ((with_reducible refine (c1 _).mono ?_); rintro e w' ⟨rfl, n, rfl⟩)) | (go_at_call 10; ((with_reducible refine (c2 _).mono ?_); rintro e w' ⟨rfl, n, rfl⟩)) | (go_at_call 16; ((with_reducible refine (c3 _).mono ?_); rintro e w' ⟨rfl, n, rfl⟩)) | (go_at_call 16; ((with_reducible refine (c4 _).mono ?_); rintro e w' ⟨rfl, n, rfl⟩)))
          all_goals go_ret
          all_goals exact ⟨rfl, (by repeat (first | assumption | exact Below.refl _ _ | refine below_drewN ?_ _ | refine below_alloc ?_ _ | refine below_then ?_ (by assumption)))⟩
        · have hz := x3 rfl; subst hz; clear x3 y3 h1
          go_enter Try.func4, Try.ntmps4
          go_wp2_with (first | (go_at_call 13; ((with_reducible refine (ct _).mono ?_); rintro e w' ⟨rfl, hb⟩)) | (go_at_call 10; ((with_reducible refine (c1 _).mono ?_); rintro e w' ⟨rfl, n, rfl⟩)) | (go_at_call 10; ((with_reducible refine (c2 _).mono ?_); rintro e w' ⟨rfl, n, rfl⟩)) | (go_at_call 16; ((with_reducible refine (c3 _).mono ?_); rintro e w' ⟨rfl, n, rfl⟩)) | (go_at_call 16; ((with_reducible refine (c4 _).mono ?_); rintro e w' ⟨rfl, n, rfl⟩)))
          all_goals go_ret
          all_goals exact ⟨rfl, (by repeat (first | assumption | exact Below.refl _ _ | refine below_drewN ?_ _ | refine below_alloc ?_ _ | refine below_then ?_ (by assumption)))⟩
        · have hz := y3 rfl; subst hz; clear x3 y3 h1
          go_enter Try.func4, Try.ntmps4
          go_wp2_with (first | (go_at_call 13; ((with_reducible refine (ct _).mono ?_); rintro e w' ⟨rfl, hb⟩)) | (go_at_call 10; ((with_reducible refine (c1 _).mono ?_); rintro e w' ⟨rfl, n, rfl⟩)) | (go_at_call 10; ((with_reducible refine (c2 _).mono ?_); rintro e w' ⟨rfl, n, rfl⟩)) | (go_at_call 16; ((with_reducible refine (c3 _).mono ?_); rintro e w' ⟨rfl, n, rfl⟩)) | (go_at_call 16; ((with_reducible refine (c4 _).mono ?_); rintro e w' ⟨rfl, n, rfl⟩)))
          all_goals go_ret
          all_goals exact ⟨rfl, (by repeat (first | assumption | exact Below.refl _ _ | refine below_drewN ?_ _ | refine below_alloc ?_ _ | refine below_then ?_ (by assumption)))⟩
        · have h1 := h1 rfl rfl; clear x3 y3
          go_enter Try.func4, Try.ntmps4
          go_wp2_with (first | (go_at_call 13; ((with_reducible refine (ct _).mono ?_); rintro e w' ⟨rfl, hb⟩)) | (go_at_call 10; ((with_reducible refine (c1 _).mono ?_); rintro e w' ⟨rfl, n, rfl⟩)) | (go_at_call 10; ((with_reducible refine (c2 _).mono ?_); rintro e w' ⟨rfl, n, rfl⟩)) | (go_at_call 16; ((with_reducible refine (c3 _).mono ?_); rintro e w' ⟨rfl, n, rfl⟩)) | (go_at_call 16; ((with_reducible refine (c4 _).mono ?_); rintro e w' ⟨rfl, n, rfl⟩)))
          all_goals go_ret
          all_goals exact ⟨rfl, (by repeat (first | assumption | exact Below.refl _ _ | refine below_drewN ?_ _ | refine below_alloc ?_ _ | refine below_then ?_ (by assumption)))⟩
  · have ho := ho a1
    clear hm1 hm2
    clear x3 y3
    go_enter Try.func4, Try.ntmps4
    go_wp2_with (first | (go_at_call 13; ((with_reducible refine (ct _).mono ?_); rintro e w' ⟨rfl, hb⟩)) | (go_at_call 10; ((with_reducible refine (c1 _).mono ?_); rintro e w' ⟨rfl, n, rfl⟩)) | (go_at_call 10; ((with_reducible refine (c2 _).mono ?_); rintro e w' ⟨rfl, n, rfl⟩)) | (go_at_call 16; ((with_reducible refine (c3 _).mono ?_); rintro e w' ⟨rfl, n, rfl⟩)) | (go_at_call 16; ((with_reducible refine (c4 _).mono ?_); rintro e w' ⟨rfl, n, rfl⟩)))
    all_goals go_ret
    all_goals exact ⟨rfl, (by repeat (first | assumption | exact Below.refl _ _ | refine below_drewN ?_ _ | refine below_alloc ?_ _ | refine below_then ?_ (by assumption)))⟩

set_option maxRecDepth 100000 in
theorem lifted (os : Os) (started : os.Started) (H : Type) (enc : TypeId × Value → H) :
    ReturnsInHanded {} Try.checked os 4 .any (Rows.confOrderSpec.pre6 enc Try.prog Try.f4 Rows.confOrderRow.domain false) (Rows.confOrderSpec.post enc Try.prog Try.f4 false true false false) := by
  refine returnsInHanded_of_change (C := Try.checked) own started (by kernel_rfl) Try.func4
    (ChangeSpec.witness6 (enc := enc) (C := Try.checked) false ⟨#[], #[.float .f64 0, .float .f64 0], []⟩ 8 (by kernel_rfl) (by kernel_rfl) (by kernel_rfl) (by kernel_rfl)) ?_
  intro W base args ds gs before hval0 hW hcnd _
  have hval : ∀ (j : Nat) t v, Try.f4.params[j]? = some t → args[j]? = some v → Value.okWide Try.prog W .any base t v := hval0
  have hW' := hW
  obtain ⟨p, q, hA0, hV, rfl, hfz, hnd⟩ := hW
  have hA : DataW.TrodAll enc Try.prog W 0 (fun _ => true) true Try.f4.params.toList args.toList ds p := hA0
  rw [Try.params4] at hA hval
  obtain ⟨v0, vs0, d0, ds0, p0, q0, hargs, rfl, rfl, h0, r0⟩ := trodAll_cons hA
  obtain ⟨v1, vs1, d1, ds1, p1, q1, rfl, rfl, rfl, h1, r1⟩ := trodAll_cons r0
  obtain ⟨rfl, rfl, rfl⟩ := trodAll_nil r1
  obtain rfl : args = #[v0, v1] := by cases args; simp_all
  obtain ⟨rfl, rfl⟩ := trodVars_none hV
  obtain ⟨a0, rfl, rfl, rfl, w0⟩ := open_float Try.underlying22 (hval 0 22 v0 rfl rfl) h0
  obtain ⟨a1, rfl, rfl, rfl, w1⟩ := open_float Try.underlying22 (hval 1 22 v1 rfl rfl) h1
  clear hA0 hval0
  simp only [List.append_nil] at hW'
  refine (walk a0 a1 w0 w1 W).mono fun e W' ⟨he, hg⟩ => ?_
  subst he
  exact ⟨_, rfl, post_of_below (pa := []) (pv := []) hW' (fun _ _ _ => (trodAll_cons_mk (shut_bool Try.underlying4 _) trodAll_mk0)) (fun sp _ => (trodAll_cons_mk (shut_float Try.underlying22 w0) (trodAll_cons_mk (shut_float Try.underlying22 w1) trodAll_mk0))) (fun _ _ => rfl) rfl hg⟩

theorem over : Rows.confOrderRow.holds Try.pinned (OpenSpec.ofChange Rows.confOrderSpec) :=
  OpenClaim.holds_of_wide 4 Try.f4 rfl rfl rfl rfl rfl rfl rfl ⟨rfl, rfl, rfl, rfl, rfl⟩ rfl rfl rfl rfl rfl (by kernel_rfl) Try.func4 (by kernel_rfl)
    (of_decide_eq_true (by kernel_rfl)) (by unfold Func.isWrapper; first | (rw [if_pos (by decide +kernel)]; kernel_rfl) | (rw [if_neg (by decide +kernel)]; exact ⟨rfl, rfl⟩))
    (fun os started H enc _ => lifted os started H enc)

theorem proved : Rows.ConfOrderSaid :=
  over
#print axioms proved
end Go.Proofs.Ytongpnkejakceaa.confOrder
