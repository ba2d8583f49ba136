/- For any two whole numbers of 64 bits the statement FixWholes answers true and leaves its arguments as they were: whole numbers up to 2 to the 20th are added, taken away, multiplied and divided as whole numbers are, and come back from floats. No condition. -/
import Derived.Test.YtpofkaigikphgaaFixTold
import Derived.WalkKit
import Derived.ProofKit
import Derived.OpenShut
namespace Go.Proofs.Ytpofkaigikphgaa.fixWholes
open Go.ChangeShapes Go.WideShapes Go.ChangeAt Go.RowKit Go.Lib Fx Fl
set_option linter.unusedVariables false

theorem own : ownKnob Try.prog.godebug = none := by kernel_rfl

theorem whole_of {x : Int} (h : -8796093022208 ≤ x ∧ x ≤ 8796093022207) : wholeI x = x * 1048576 := clampI_id (by unfold inI; omega)
theorem mul_small {x y : Int} (hx : -1048576 < x ∧ x < 1048576) (hy : -1048576 < y ∧ y < 1048576) : -1099511627776 ≤ x * y ∧ x * y ≤ 1099511627776 := by
  have h := Int.natAbs_mul x y
  have : x.natAbs * y.natAbs ≤ 1048576 * 1048576 := Nat.mul_le_mul (by omega) (by omega)
  omega
theorem div_whole {x y k : Int} (hx : -1048576 < x ∧ x < 1048576) (hy : y ≠ 0) (e : y * k = x) : -1048576 < k ∧ k < 1048576 ∧ divI (x * 1048576) (y * 1048576) = wholeI k := by
  have hk : k.natAbs ≤ x.natAbs := by
    have h := Int.natAbs_mul y k
    rw [e] at h
    have h2 : 1 * k.natAbs ≤ y.natAbs * k.natAbs := Nat.mul_le_mul_right _ (by omega)
    omega
  refine ⟨by omega, by omega, ?_⟩
  have e2 : x * 1048576 * 1048576 = k * 1048576 * (y * 1048576) := by
    rw [← e]; ac_rfl
  have hq : x * 1048576 * 1048576 / (y * 1048576) = k * 1048576 := by rw [e2, Int.mul_ediv_cancel _ (by omega)]
  unfold divI wholeI
  rw [if_neg (by omega)]
  congr 1
  split
  · exact hq
  · rw [e2, ← Int.mul_neg, Int.mul_ediv_cancel _ (by omega)]
theorem run_rem {P : Program} {x y t : Int} (k : TypeId) (hy : y ≠ 0) (ht : x.tmod y = t) (w : World) : (binOp .rem k (.int .i64 x) (.int .i64 y)).run P w = .ok (.int .i64 t) w := by
  simp [binOp, Op.intDiv, hy, ht]
theorem run_quo {P : Program} {x y t : Int} (k : TypeId) (hy : y ≠ 0) (ht : IntKind.i64.wrap (x.tdiv y) = t) (w : World) : (binOp .quo k (.int .i64 x) (.int .i64 y)).run P w = .ok (.int .i64 t) w := by
  simp [binOp, Op.intDiv, hy, ht]
theorem quiet_ans {P : Program} {f : FuncId} {args : Array Value} {w : World} {a n : Nat} {v : Value} (h : ∀ W, Calls P f args W (Ans v W)) :
    Calls P f args (w.drewN (a + n)) fun e w'' => e = .returned v ∧ ∃ m, w'' = w.drewN (a + m) :=
  (h _).mono fun _ _ ⟨he, m, hm⟩ => ⟨he, n + m, by rw [hm, World.drewN_drewN, Nat.add_assoc]⟩
set_option maxRecDepth 100000 in
set_option maxHeartbeats 2000000 in
theorem walk (a0 : Int) (a1 : Int) (w0 : (Lit.int .i64 a0).wf = true) (w1 : (Lit.int .i64 a1).wf = true) (w : World) :
    Calls Try.prog 4 #[.int .i64 a0, .int .i64 a1] w fun e w' => e = .returned (.bool true) ∧ Grown w w' := by
  have ct := fun w => told_any w
  obtain ⟨_, d2, d3, _, _⟩ := trem a0 (b := 1048576) (by decide)
  obtain ⟨_, e2, e3, _, _⟩ := trem a1 (b := 1048576) (by decide)
  obtain ⟨x, hx⟩ : ∃ x : Int, a0.tmod 1048576 = x := ⟨_, rfl⟩
  obtain ⟨y, hy⟩ : ∃ y : Int, a1.tmod 1048576 = y := ⟨_, rfl⟩
  rw [hx] at d2 d3
  rw [hy] at e2 e3
  clear w0 w1
  have hxy := mul_small (x := x) (y := y) ⟨d2, d3⟩ ⟨e2, e3⟩
  obtain ⟨P, hP⟩ : ∃ P : Int, P = x * y := ⟨_, rfl⟩
  rw [← hP] at hxy
  have eP : wrap64 (x * y) = P := by rw [hP]; exact IntWalk.wrap64_in _ ⟨by omega, by omega⟩
  have ip : inI (x * 1048576) := by unfold inI; omega
  have iq : inI (y * 1048576) := by unfold inI; omega
  have cwx : ∀ w, Calls Try.prog 14 #[.int .i64 x] w (Ans (.int .i64 (x * 1048576)) w) := fun w => by
    have := whole_any x (by unfold inI; omega) w; rw [whole_of (by omega)] at this; exact this
  have cwy : ∀ w, Calls Try.prog 14 #[.int .i64 y] w (Ans (.int .i64 (y * 1048576)) w) := fun w => by
    have := whole_any y (by unfold inI; omega) w; rw [whole_of (by omega)] at this; exact this
  have cws : ∀ w, Calls Try.prog 14 #[.int .i64 (x + y)] w (Ans (.int .i64 ((x + y) * 1048576)) w) := fun w => by
    have := whole_any (x + y) (by unfold inI; omega) w; rw [whole_of (by omega)] at this; exact this
  have cwd : ∀ w, Calls Try.prog 14 #[.int .i64 (x - y)] w (Ans (.int .i64 ((x - y) * 1048576)) w) := fun w => by
    have := whole_any (x - y) (by unfold inI; omega) w; rw [whole_of (by omega)] at this; exact this
  have cwp : ∀ w, Calls Try.prog 14 #[.int .i64 P] w (Ans (.int .i64 (P * 1048576)) w) := fun w => by
    have := whole_any P (by unfold inI; omega) w; rw [whole_of (by omega)] at this; exact this
  have ca : ∀ w, Calls Try.prog 15 #[.int .i64 (x * 1048576), .int .i64 (y * 1048576)] w (Ans (.int .i64 ((x + y) * 1048576)) w) := fun w => by
    have := add_any _ _ ip iq w
    rw [show addI (x * 1048576) (y * 1048576) = (x + y) * 1048576 from by unfold addI; rw [clampI_id (by unfold inI; omega)]; omega] at this; exact this
  have cs : ∀ w, Calls Try.prog 16 #[.int .i64 (x * 1048576), .int .i64 (y * 1048576)] w (Ans (.int .i64 ((x - y) * 1048576)) w) := fun w => by
    have := sub_any _ _ ip iq w
    rw [show subI (x * 1048576) (y * 1048576) = (x - y) * 1048576 from by unfold subI; rw [clampI_id (by unfold inI; omega)]; omega] at this; exact this
  have cm : ∀ w, Calls Try.prog 17 #[.int .i64 (x * 1048576), .int .i64 (y * 1048576)] w (Ans (.int .i64 (P * 1048576)) w) := fun w => by
    have := mul_any _ _ ip iq w
    have e : x * 1048576 * (y * 1048576) = P * 1048576 * 1048576 := by rw [hP, Int.mul_assoc, Int.mul_left_comm 1048576 y, ← Int.mul_assoc, ← Int.mul_assoc]
    rw [show mulI (x * 1048576) (y * 1048576) = P * 1048576 from by unfold mulI; rw [e, Int.mul_ediv_cancel _ (by decide), clampI_id (by unfold inI; omega)]] at this; exact this
  have ci : ∀ w, Calls Try.prog 18 #[.int .i64 (P * 1048576)] w (Ans (.int .i64 P) w) := fun w => by
    have := ans_of_same (int_any (P * 1048576) w)
    rw [show intI (P * 1048576) = P from by unfold intI; omega] at this; exact this
  have cr := fun w => real_any (x * 1048576) w
  obtain ⟨s, m, i, r1, r2⟩ := realF_val (x * 1048576) (by omega)
  obtain ⟨m', i', f1, f2⟩ := int_word (n := x) (k := x.natAbs) (p := 0) (by omega) (by omega) (by omega) (by rw [pow_TT])
  have o1 : FloatKind.f64.format.order (realF (x * 1048576)) (floatOfInt .f64 x) = some .eq := by
    show Ieee.double.order _ _ = _
    rw [order_val r1 f1, compare_eq]
    refine Int.eq_of_mul_eq_mul_right (by decide : (1048576 : Int) ≠ 0) ?_
    rw [r2, f2, Int.mul_right_comm]
  have cf : ∀ w, Calls Try.prog 20 #[.float .f64 (floatOfInt .f64 x)] w (Ans (.int .i64 (x * 1048576)) w) := fun w => by
    have := float_any (floatOfInt .f64 x) w
    have hT : (0 : Int) < (TT : Int) := by have := TT_pos; omega
    rw [floatI_number f1, f2, Int.mul_right_comm, Int.mul_ediv_cancel _ (by omega), clampI_id ip] at this; exact this
  generalize realF (x * 1048576) = r at *
  obtain ⟨fx, hfx⟩ : ∃ fx, floatOfInt .f64 x = fx := ⟨_, rfl⟩
  rw [hfx] at o1 cf f1
  have cd : ∀ k : Int, y ≠ 0 → y * k = x → -1048576 < k ∧ k < 1048576 ∧ ∀ w, Calls Try.prog 12 #[.int .i64 (x * 1048576), .int .i64 (y * 1048576)] w (Ans (.int .i64 (k * 1048576)) w) := fun k h1 h2 => by
    obtain ⟨k1, k2, k3⟩ := div_whole (x := x) ⟨d2, d3⟩ h1 h2
    refine ⟨k1, k2, fun w => ?_⟩
    have := div_any _ _ ip iq w
    rw [k3, whole_of (by omega)] at this
    exact this
  clear ip iq r1 r2 f1 f2 hP hxy
  by_cases hy0 : y = 0
  · have z1 : (y != 0) = false := by simpa using hy0
    clear hy0 cd
    go_enter Try.func4, Try.ntmps4
    go_wp2_with (first | (go_at_call 13; ((with_reducible refine (ct _).mono ?_); rintro e w' ⟨rfl, n, rfl⟩)) | (go_at_call 14; ((with_reducible refine (cwx _).mono ?_); rintro e w' ⟨rfl, n, rfl⟩)) | (go_at_call 14; ((with_reducible refine (cwy _).mono ?_); rintro e w' ⟨rfl, n, rfl⟩)) | (go_at_call 14; ((with_reducible refine (cws _).mono ?_); rintro e w' ⟨rfl, n, rfl⟩)) | (go_at_call 14; ((with_reducible refine (cwd _).mono ?_); rintro e w' ⟨rfl, n, rfl⟩)) | (go_at_call 14; ((with_reducible refine (cwp _).mono ?_); rintro e w' ⟨rfl, n, rfl⟩)) | (go_at_call 15; ((with_reducible refine (ca _).mono ?_); rintro e w' ⟨rfl, n, rfl⟩)) | (go_at_call 16; ((with_reducible refine (cs _).mono ?_); rintro e w' ⟨rfl, n, rfl⟩)) | (go_at_call 17; ((with_reducible refine (cm _).mono ?_); rintro e w' ⟨rfl, n, rfl⟩)) | (go_at_call 18; ((with_reducible refine (ci _).mono ?_); rintro e w' ⟨rfl, n, rfl⟩)) | (go_at_call 19; ((with_reducible refine (cr _).mono ?_); rintro e w' ⟨rfl, n, rfl⟩)) | (go_at_call 20; ((with_reducible refine (cf _).mono ?_); rintro e w' ⟨rfl, n, rfl⟩)))
    go_quiet (fail)
    go_wp2_with (first | (go_at_call 13; ((with_reducible refine (ct _).mono ?_); rintro e w' ⟨rfl, n, rfl⟩)) | (go_at_call 14; ((with_reducible refine (cwx _).mono ?_); rintro e w' ⟨rfl, n, rfl⟩)) | (go_at_call 14; ((with_reducible refine (cwy _).mono ?_); rintro e w' ⟨rfl, n, rfl⟩)) | (go_at_call 14; ((with_reducible refine (cws _).mono ?_); rintro e w' ⟨rfl, n, rfl⟩)) | (go_at_call 14; ((with_reducible refine (cwd _).mono ?_); rintro e w' ⟨rfl, n, rfl⟩)) | (go_at_call 14; ((with_reducible refine (cwp _).mono ?_); rintro e w' ⟨rfl, n, rfl⟩)) | (go_at_call 15; ((with_reducible refine (ca _).mono ?_); rintro e w' ⟨rfl, n, rfl⟩)) | (go_at_call 16; ((with_reducible refine (cs _).mono ?_); rintro e w' ⟨rfl, n, rfl⟩)) | (go_at_call 17; ((with_reducible refine (cm _).mono ?_); rintro e w' ⟨rfl, n, rfl⟩)) | (go_at_call 18; ((with_reducible refine (ci _).mono ?_); rintro e w' ⟨rfl, n, rfl⟩)) | (go_at_call 19; ((with_reducible refine (cr _).mono ?_); rintro e w' ⟨rfl, n, rfl⟩)) | (go_at_call 20; ((with_reducible refine (cf _).mono ?_); rintro e w' ⟨rfl, n, rfl⟩)))
    all_goals (go_ret; exact ⟨rfl, grown_draws _ _⟩)
  · have z1 : (y != 0) = true := by simpa using hy0
    have z2 : (y == 0) = false := by simpa using hy0
    have hdm := Int.mul_tdiv_add_tmod x y
    obtain ⟨t, ht⟩ : ∃ t : Int, x.tmod y = t := ⟨_, rfl⟩
    rw [ht] at hdm
    have hrem : ∀ w, (binOp .rem 2 (.int .i64 x) (.int .i64 y)).run Try.prog w = .ok (.int .i64 t) w := fun w => run_rem _ hy0 ht w
    by_cases ht0 : t = 0
    · obtain ⟨k, hk⟩ : ∃ k : Int, k = x.tdiv y := ⟨_, rfl⟩
      rw [← hk, ht0, Int.add_zero] at hdm
      obtain ⟨k1, k2, cdk⟩ := cd k hy0 hdm
      have cwk : ∀ w, Calls Try.prog 14 #[.int .i64 k] w (Ans (.int .i64 (k * 1048576)) w) := fun w => by
        have := whole_any k (by unfold inI; omega) w; rw [whole_of (by omega)] at this; exact this
      have hquo : ∀ w, (binOp .quo 2 (.int .i64 x) (.int .i64 y)).run Try.prog w = .ok (.int .i64 k) w := fun w => run_quo _ hy0 (by rw [← hk]; exact IntWalk.i64_in _ ⟨by omega, by omega⟩) w
      have t1 : (t == 0) = true := by simpa using ht0
      have ek : IntKind.i64.wrap (x.tdiv y) = k := by rw [← hk]; exact IntWalk.i64_in _ ⟨by omega, by omega⟩
      clear cd hk hdm ht0 hrem hquo
      go_enter Try.func4, Try.ntmps4
      go_wp2_with (first | (go_at_call 13; ((with_reducible refine (ct _).mono ?_); rintro e w' ⟨rfl, n, rfl⟩)) | (go_at_call 14; ((with_reducible refine (cwx _).mono ?_); rintro e w' ⟨rfl, n, rfl⟩)) | (go_at_call 14; ((with_reducible refine (cwy _).mono ?_); rintro e w' ⟨rfl, n, rfl⟩)) | (go_at_call 14; ((with_reducible refine (cws _).mono ?_); rintro e w' ⟨rfl, n, rfl⟩)) | (go_at_call 14; ((with_reducible refine (cwd _).mono ?_); rintro e w' ⟨rfl, n, rfl⟩)) | (go_at_call 14; ((with_reducible refine (cwp _).mono ?_); rintro e w' ⟨rfl, n, rfl⟩)) | (go_at_call 15; ((with_reducible refine (ca _).mono ?_); rintro e w' ⟨rfl, n, rfl⟩)) | (go_at_call 16; ((with_reducible refine (cs _).mono ?_); rintro e w' ⟨rfl, n, rfl⟩)) | (go_at_call 17; ((with_reducible refine (cm _).mono ?_); rintro e w' ⟨rfl, n, rfl⟩)) | (go_at_call 18; ((with_reducible refine (ci _).mono ?_); rintro e w' ⟨rfl, n, rfl⟩)) | (go_at_call 19; ((with_reducible refine (cr _).mono ?_); rintro e w' ⟨rfl, n, rfl⟩)) | (go_at_call 20; ((with_reducible refine (cf _).mono ?_); rintro e w' ⟨rfl, n, rfl⟩)))
      go_quiet (first | (go_at_call 12; exact quiet_ans cdk) | (go_at_call 14; exact quiet_ans cwk))
      go_wp2_with (first | (go_at_call 13; ((with_reducible refine (ct _).mono ?_); rintro e w' ⟨rfl, n, rfl⟩)) | (go_at_call 14; ((with_reducible refine (cwx _).mono ?_); rintro e w' ⟨rfl, n, rfl⟩)) | (go_at_call 14; ((with_reducible refine (cwy _).mono ?_); rintro e w' ⟨rfl, n, rfl⟩)) | (go_at_call 14; ((with_reducible refine (cws _).mono ?_); rintro e w' ⟨rfl, n, rfl⟩)) | (go_at_call 14; ((with_reducible refine (cwd _).mono ?_); rintro e w' ⟨rfl, n, rfl⟩)) | (go_at_call 14; ((with_reducible refine (cwp _).mono ?_); rintro e w' ⟨rfl, n, rfl⟩)) | (go_at_call 15; ((with_reducible refine (ca _).mono ?_); rintro e w' ⟨rfl, n, rfl⟩)) | (go_at_call 16; ((with_reducible refine (cs _).mono ?_); rintro e w' ⟨rfl, n, rfl⟩)) | (go_at_call 17; ((with_reducible refine (cm _).mono ?_); rintro e w' ⟨rfl, n, rfl⟩)) | (go_at_call 18; ((with_reducible refine (ci _).mono ?_); rintro e w' ⟨rfl, n, rfl⟩)) | (go_at_call 19; ((with_reducible refine (cr _).mono ?_); rintro e w' ⟨rfl, n, rfl⟩)) | (go_at_call 20; ((with_reducible refine (cf _).mono ?_); rintro e w' ⟨rfl, n, rfl⟩)))
      all_goals (go_ret; exact ⟨rfl, grown_draws _ _⟩)
    · have t1 : (t == 0) = false := by simpa using ht0
      clear cd hdm ht0 hrem
      go_enter Try.func4, Try.ntmps4
      go_wp2_with (first | (go_at_call 13; ((with_reducible refine (ct _).mono ?_); rintro e w' ⟨rfl, n, rfl⟩)) | (go_at_call 14; ((with_reducible refine (cwx _).mono ?_); rintro e w' ⟨rfl, n, rfl⟩)) | (go_at_call 14; ((with_reducible refine (cwy _).mono ?_); rintro e w' ⟨rfl, n, rfl⟩)) | (go_at_call 14; ((with_reducible refine (cws _).mono ?_); rintro e w' ⟨rfl, n, rfl⟩)) | (go_at_call 14; ((with_reducible refine (cwd _).mono ?_); rintro e w' ⟨rfl, n, rfl⟩)) | (go_at_call 14; ((with_reducible refine (cwp _).mono ?_); rintro e w' ⟨rfl, n, rfl⟩)) | (go_at_call 15; ((with_reducible refine (ca _).mono ?_); rintro e w' ⟨rfl, n, rfl⟩)) | (go_at_call 16; ((with_reducible refine (cs _).mono ?_); rintro e w' ⟨rfl, n, rfl⟩)) | (go_at_call 17; ((with_reducible refine (cm _).mono ?_); rintro e w' ⟨rfl, n, rfl⟩)) | (go_at_call 18; ((with_reducible refine (ci _).mono ?_); rintro e w' ⟨rfl, n, rfl⟩)) | (go_at_call 19; ((with_reducible refine (cr _).mono ?_); rintro e w' ⟨rfl, n, rfl⟩)) | (go_at_call 20; ((with_reducible refine (cf _).mono ?_); rintro e w' ⟨rfl, n, rfl⟩)))
      go_quiet (fail)
      go_wp2_with (first | (go_at_call 13; ((with_reducible refine (ct _).mono ?_); rintro e w' ⟨rfl, n, rfl⟩)) | (go_at_call 14; ((with_reducible refine (cwx _).mono ?_); rintro e w' ⟨rfl, n, rfl⟩)) | (go_at_call 14; ((with_reducible refine (cwy _).mono ?_); rintro e w' ⟨rfl, n, rfl⟩)) | (go_at_call 14; ((with_reducible refine (cws _).mono ?_); rintro e w' ⟨rfl, n, rfl⟩)) | (go_at_call 14; ((with_reducible refine (cwd _).mono ?_); rintro e w' ⟨rfl, n, rfl⟩)) | (go_at_call 14; ((with_reducible refine (cwp _).mono ?_); rintro e w' ⟨rfl, n, rfl⟩)) | (go_at_call 15; ((with_reducible refine (ca _).mono ?_); rintro e w' ⟨rfl, n, rfl⟩)) | (go_at_call 16; ((with_reducible refine (cs _).mono ?_); rintro e w' ⟨rfl, n, rfl⟩)) | (go_at_call 17; ((with_reducible refine (cm _).mono ?_); rintro e w' ⟨rfl, n, rfl⟩)) | (go_at_call 18; ((with_reducible refine (ci _).mono ?_); rintro e w' ⟨rfl, n, rfl⟩)) | (go_at_call 19; ((with_reducible refine (cr _).mono ?_); rintro e w' ⟨rfl, n, rfl⟩)) | (go_at_call 20; ((with_reducible refine (cf _).mono ?_); rintro e w' ⟨rfl, n, rfl⟩)))
      all_goals (go_ret; exact ⟨rfl, grown_draws _ _⟩)

set_option maxRecDepth 100000 in
theorem lifted (os : Os) (started : os.Started) (H : Type) (enc : TypeId × Value → H) :
    ReturnsInHanded {} Try.checked os 4 .any (Rows.fixWholesSpec.pre6 enc Try.prog Try.f4 Rows.fixWholesRow.domain false) (Rows.fixWholesSpec.post enc Try.prog Try.f4 false true false false) := by
  refine returnsInHanded_of_change (C := Try.checked) own started (by kernel_rfl) Try.func4
    (ChangeSpec.witness6 (enc := enc) (C := Try.checked) false ⟨#[], #[.int .i64 0, .int .i64 0], []⟩ 8 (by kernel_rfl) (by kernel_rfl) (by kernel_rfl) (by kernel_rfl)) ?_
  intro W base args ds gs before hval0 hW hcnd _
  have hval : ∀ (j : Nat) t v, Try.f4.params[j]? = some t → args[j]? = some v → Value.okWide Try.prog W .any base t v := hval0
  have hW' := hW
  obtain ⟨p, q, hA0, hV, rfl, hfz, hnd⟩ := hW
  have hA : DataW.TrodAll enc Try.prog W 0 (fun _ => true) true Try.f4.params.toList args.toList ds p := hA0
  rw [Try.params4] at hA hval
  obtain ⟨v0, vs0, d0, ds0, p0, q0, hargs, rfl, rfl, h0, r0⟩ := trodAll_cons hA
  obtain ⟨v1, vs1, d1, ds1, p1, q1, rfl, rfl, rfl, h1, r1⟩ := trodAll_cons r0
  obtain ⟨rfl, rfl, rfl⟩ := trodAll_nil r1
  obtain rfl : args = #[v0, v1] := by cases args; simp_all
  obtain ⟨rfl, rfl⟩ := trodVars_none hV
  obtain ⟨a0, rfl, rfl, rfl, w0⟩ := open_int Try.underlying2 (hval 0 2 v0 rfl rfl) h0
  obtain ⟨a1, rfl, rfl, rfl, w1⟩ := open_int Try.underlying2 (hval 1 2 v1 rfl rfl) h1
  clear hA0 hval0
  simp only [List.append_nil] at hW'
  refine (walk a0 a1 w0 w1 W).mono fun e W' ⟨he, hg⟩ => ?_
  subst he
  exact ⟨_, rfl, post_of_same (pa := []) (pv := []) hW' (fun _ _ _ => (trodAll_cons_mk (shut_bool Try.underlying4 _) trodAll_mk0)) (fun sp _ => (trodAll_cons_mk (shut_int Try.underlying2 w0) (trodAll_cons_mk (shut_int Try.underlying2 w1) trodAll_mk0))) (fun _ _ => rfl) rfl
    (hg.frame _) hg.2.1 (ok_one (by kernel_rfl) rfl (okWide_bool_mk Try.underlying4 _))⟩

theorem over : Rows.fixWholesRow.holds Try.pinned (OpenSpec.ofChange Rows.fixWholesSpec) :=
  OpenClaim.holds_of_wide 4 Try.f4 rfl rfl rfl rfl rfl rfl rfl ⟨rfl, rfl, rfl, rfl, rfl⟩ rfl rfl rfl rfl rfl (by kernel_rfl) Try.func4 (by kernel_rfl)
    (of_decide_eq_true (by kernel_rfl)) (by unfold Func.isWrapper; first | (rw [if_pos (by decide +kernel)]; kernel_rfl) | (rw [if_neg (by decide +kernel)]; exact ⟨rfl, rfl⟩))
    (fun os started H enc _ => lifted os started H enc)

theorem proved : Rows.FixWholesSaid :=
  over
#print axioms proved
end Go.Proofs.Ytpofkaigikphgaa.fixWholes
