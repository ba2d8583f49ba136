/- For any two whole numbers of 64 bits the statement FixEnds answers true and leaves its arguments as they were: what is beyond the ends of 64 bits is the nearer end, for sums, differences, products, quotients and whole numbers. No condition. -/
import Derived.Test.YtpofkaigikphgaaFixTold
import Derived.WalkKit
import Derived.ProofKit
import Derived.OpenShut
namespace Go.Proofs.Ytpofkaigikphgaa.fixEnds
open Go.ChangeShapes Go.WideShapes Go.ChangeAt Go.RowKit Go.Lib Fx Fl
set_option linter.unusedVariables false

theorem own : ownKnob Try.prog.godebug = none := by kernel_rfl

theorem end_mul {x y : Int} (hx : 1125899906842624 ≤ x) (hy : 1125899906842624 ≤ y) : mulI x y = 9223372036854775807 ∧ mulI (-x) y = -9223372036854775808 ∧ mulI (-x) (-y) = 9223372036854775807 := by
  have h : 1125899906842624 * 1125899906842624 ≤ x * y := Int.mul_le_mul hx hy (by omega) (by omega)
  refine ⟨?_, ?_, ?_⟩ <;> unfold mulI
  · exact clampI_top (by omega)
  · rw [Int.neg_mul]; exact clampI_low (by omega)
  · rw [Int.neg_mul_neg]; exact clampI_top (by omega)
theorem end_div {x : Int} (hx : 1125899906842624 ≤ x) : divI x 1 = 9223372036854775807 ∧ divI (-x) 1 = -9223372036854775808 ∧ divI x (-1) = -9223372036854775808 := by
  refine ⟨?_, ?_, ?_⟩ <;> unfold divI
  · rw [if_neg (by decide), if_pos (by decide), Int.ediv_one]; exact clampI_top (by omega)
  · rw [if_neg (by decide), if_pos (by decide), Int.ediv_one]; exact clampI_low (by omega)
  · rw [if_neg (by decide), if_neg (by decide), Int.neg_neg, Int.ediv_one]; exact clampI_low (by omega)
theorem end_zero (b : Int) : divI 0 b = 0 ∧ mulI 0 b = 0 := by
  refine ⟨?_, ?_⟩
  · unfold divI
    by_cases h : b = 0
    · rw [if_pos h]; rfl
    · rw [if_neg h, Int.zero_mul, Int.neg_zero, Int.zero_ediv, Int.zero_ediv, ite_self]; rfl
  · unfold mulI; rw [Int.zero_mul]; rfl
set_option maxRecDepth 100000 in
set_option maxHeartbeats 2000000 in
theorem walk (a0 : Int) (a1 : Int) (w0 : (Lit.int .i64 a0).wf = true) (w1 : (Lit.int .i64 a1).wf = true) (w : World) :
    Calls Try.prog 10 #[.int .i64 a0, .int .i64 a1] w fun e w' => e = .returned (.bool true) ∧ Grown w w' := by
  have ct := fun w => told_any w
  have hb := bounds_i64 w1
  have em : bits .and .i64 a0 1152921504606846975 = a0 % 1152921504606846976 := mask_i64 a0 60 (by decide)
  have en : bits .and .i64 a1 1152921504606846975 = a1 % 1152921504606846976 := mask_i64 a1 60 (by decide)
  obtain ⟨m, hm⟩ : ∃ m : Int, a0 % 1152921504606846976 = m := ⟨_, rfl⟩
  obtain ⟨n, hn⟩ : ∃ n : Int, a1 % 1152921504606846976 = n := ⟨_, rfl⟩
  have m1 : 0 ≤ m ∧ m < 1152921504606846976 := by omega
  have n1 : 0 ≤ n ∧ n < 1152921504606846976 := by omega
  rw [hm] at em
  rw [hn] at en
  have ek : bits .and .i64 (1125899906842624 + m) 1023 = (1125899906842624 + m) % 1024 := mask_i64 _ 10 (by decide)
  obtain ⟨k, hk⟩ : ∃ k : Int, (1125899906842624 + m) % 1024 = k := ⟨_, rfl⟩
  have k1 : 0 ≤ k ∧ k < 1024 := by omega
  rw [hk] at ek
  obtain ⟨p1, p2, p3⟩ := end_mul (x := 1125899906842624 + m) (y := 1125899906842624 + n) (by omega) (by omega)
  obtain ⟨q1, q2, q3⟩ := end_div (x := 1125899906842624 + m) (by omega)
  obtain ⟨z1, z2⟩ := end_zero a1
  have ix : inI (1125899906842624 + m) := by unfold inI; omega
  have iy : inI (1125899906842624 + n) := by unfold inI; omega
  have jx : inI (-(1125899906842624 + m)) := by unfold inI; omega
  have jy : inI (-(1125899906842624 + n)) := by unfold inI; omega
  have c1 := fun w => mul_any _ _ ix iy w
  have c2 := fun w => mul_any _ _ jx iy w
  have c3 := fun w => mul_any _ _ jx jy w
  have c4 : ∀ w, Calls Try.prog 15 #[.int .i64 (9223372036854775807 - k), .int .i64 (1125899906842624 + m)] w (Ans (.int .i64 9223372036854775807) w) := fun w => by
    have := add_any (9223372036854775807 - k) (1125899906842624 + m) (by unfold inI; omega) ix w
    rw [show addI (9223372036854775807 - k) (1125899906842624 + m) = 9223372036854775807 from clampI_top (by omega)] at this
    exact this
  have c5 : ∀ w, Calls Try.prog 16 #[.int .i64 (-(9223372036854775807 - k)), .int .i64 (1125899906842624 + m)] w (Ans (.int .i64 (-9223372036854775808)) w) := fun w => by
    have := sub_any (-(9223372036854775807 - k)) (1125899906842624 + m) (by unfold inI; omega) ix w
    rw [show subI (-(9223372036854775807 - k)) (1125899906842624 + m) = -9223372036854775808 from clampI_low (by omega)] at this
    exact this
  have c6 := fun w => div_any _ 1 ix (by unfold inI; omega) w
  have c7 := fun w => div_any _ 1 jx (by unfold inI; omega) w
  have c8 := fun w => div_any _ (-1) ix (by unfold inI; omega) w
  have c9 : ∀ w, Calls Try.prog 14 #[.int .i64 (1125899906842624 + m)] w (Ans (.int .i64 9223372036854775807) w) := fun w => by
    have := whole_any _ ix w
    rw [show wholeI (1125899906842624 + m) = 9223372036854775807 from clampI_top (by omega)] at this
    exact this
  have d9 : ∀ w, Calls Try.prog 14 #[.int .i64 (-(1125899906842624 + m))] w (Ans (.int .i64 (-9223372036854775808)) w) := fun w => by
    have := whole_any _ jx w
    rw [show wholeI (-(1125899906842624 + m)) = -9223372036854775808 from clampI_low (by omega)] at this
    exact this
  have d1 := fun w => div_any 0 a1 (by unfold inI; omega) hb w
  have d2 := fun w => mul_any 0 a1 (by unfold inI; omega) hb w
  rw [p1] at c1
  rw [p2] at c2
  rw [p3] at c3
  rw [q1] at c6
  rw [q2] at c7
  rw [q3] at c8
  rw [z1] at d1
  rw [z2] at d2
  clear hm hn hk p1 p2 p3 q1 q2 q3 z1 z2 ix iy jx jy w0 w1 hb
  go_enter Try.func10, Try.ntmps10
  go_wp2_with (first | (go_at_call 13; ((with_reducible refine (ct _).mono ?_); rintro e w' ⟨rfl, n, rfl⟩)) | (go_at_call 17; ((with_reducible refine (c1 _).mono ?_); rintro e w' ⟨rfl, n, rfl⟩)) | (go_at_call 17; ((with_reducible refine (c2 _).mono ?_); rintro e w' ⟨rfl, n, rfl⟩)) | (go_at_call 17; ((with_reducible refine (c3 _).mono ?_); rintro e w' ⟨rfl, n, rfl⟩)) | (go_at_call 17; ((with_reducible refine (d2 _).mono ?_); rintro e w' ⟨rfl, n, rfl⟩)) | (go_at_call 15; ((with_reducible refine (c4 _).mono ?_); rintro e w' ⟨rfl, n, rfl⟩)) | (go_at_call 16; ((with_reducible refine (c5 _).mono ?_); rintro e w' ⟨rfl, n, rfl⟩)) | (go_at_call 12; ((with_reducible refine (c6 _).mono ?_); rintro e w' ⟨rfl, n, rfl⟩)) | (go_at_call 12; ((with_reducible refine (c7 _).mono ?_); rintro e w' ⟨rfl, n, rfl⟩)) | (go_at_call 12; ((with_reducible refine (c8 _).mono ?_); rintro e w' ⟨rfl, n, rfl⟩)) | (go_at_call 12; ((with_reducible refine (d1 _).mono ?_); rintro e w' ⟨rfl, n, rfl⟩)) | (go_at_call 14; ((with_reducible refine (c9 _).mono ?_); rintro e w' ⟨rfl, n, rfl⟩)) | (go_at_call 14; ((with_reducible refine (d9 _).mono ?_); rintro e w' ⟨rfl, n, rfl⟩)))
  all_goals (go_ret; exact ⟨rfl, grown_draws _ _⟩)

set_option maxRecDepth 100000 in
theorem lifted (os : Os) (started : os.Started) (H : Type) (enc : TypeId × Value → H) :
    ReturnsInHanded {} Try.checked os 10 .any (Rows.fixEndsSpec.pre6 enc Try.prog Try.f10 Rows.fixEndsRow.domain false) (Rows.fixEndsSpec.post enc Try.prog Try.f10 false true false false) := by
  refine returnsInHanded_of_change (C := Try.checked) own started (by kernel_rfl) Try.func10
    (ChangeSpec.witness6 (enc := enc) (C := Try.checked) false ⟨#[], #[.int .i64 0, .int .i64 0], []⟩ 8 (by kernel_rfl) (by kernel_rfl) (by kernel_rfl) (by kernel_rfl)) ?_
  intro W base args ds gs before hval0 hW hcnd _
  have hval : ∀ (j : Nat) t v, Try.f10.params[j]? = some t → args[j]? = some v → Value.okWide Try.prog W .any base t v := hval0
  have hW' := hW
  obtain ⟨p, q, hA0, hV, rfl, hfz, hnd⟩ := hW
  have hA : DataW.TrodAll enc Try.prog W 0 (fun _ => true) true Try.f10.params.toList args.toList ds p := hA0
  rw [Try.params10] at hA hval
  obtain ⟨v0, vs0, d0, ds0, p0, q0, hargs, rfl, rfl, h0, r0⟩ := trodAll_cons hA
  obtain ⟨v1, vs1, d1, ds1, p1, q1, rfl, rfl, rfl, h1, r1⟩ := trodAll_cons r0
  obtain ⟨rfl, rfl, rfl⟩ := trodAll_nil r1
  obtain rfl : args = #[v0, v1] := by cases args; simp_all
  obtain ⟨rfl, rfl⟩ := trodVars_none hV
  obtain ⟨a0, rfl, rfl, rfl, w0⟩ := open_int Try.underlying2 (hval 0 2 v0 rfl rfl) h0
  obtain ⟨a1, rfl, rfl, rfl, w1⟩ := open_int Try.underlying2 (hval 1 2 v1 rfl rfl) h1
  clear hA0 hval0
  simp only [List.append_nil] at hW'
  refine (walk a0 a1 w0 w1 W).mono fun e W' ⟨he, hg⟩ => ?_
  subst he
  exact ⟨_, rfl, post_of_same (pa := []) (pv := []) hW' (fun _ _ _ => (trodAll_cons_mk (shut_bool Try.underlying4 _) trodAll_mk0)) (fun sp _ => (trodAll_cons_mk (shut_int Try.underlying2 w0) (trodAll_cons_mk (shut_int Try.underlying2 w1) trodAll_mk0))) (fun _ _ => rfl) rfl
    (hg.frame _) hg.2.1 (ok_one (by kernel_rfl) rfl (okWide_bool_mk Try.underlying4 _))⟩

theorem over : Rows.fixEndsRow.holds Try.pinned (OpenSpec.ofChange Rows.fixEndsSpec) :=
  OpenClaim.holds_of_wide 10 Try.f10 rfl rfl rfl rfl rfl rfl rfl ⟨rfl, rfl, rfl, rfl, rfl⟩ rfl rfl rfl rfl rfl (by kernel_rfl) Try.func10 (by kernel_rfl)
    (of_decide_eq_true (by kernel_rfl)) (by unfold Func.isWrapper; first | (rw [if_pos (by decide +kernel)]; kernel_rfl) | (rw [if_neg (by decide +kernel)]; exact ⟨rfl, rfl⟩))
    (fun os started H enc _ => lifted os started H enc)

theorem proved : Rows.FixEndsSaid :=
  over
#print axioms proved
end Go.Proofs.Ytpofkaigikphgaa.fixEnds
