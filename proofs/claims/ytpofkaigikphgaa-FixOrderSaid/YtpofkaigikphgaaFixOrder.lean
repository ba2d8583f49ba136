/- For any three whole numbers of 64 bits the statement FixOrder answers true and leaves its arguments as they were: greater numbers have sums, products, quotients, whole numbers and whole parts that are no lesser, sums and products don't ask for an order, and one is neutral. No condition. -/
import Derived.Test.YtpofkaigikphgaaFixTold
import Derived.WalkKit
import Derived.ProofKit
import Derived.OpenShut
namespace Go.Proofs.Ytpofkaigikphgaa.fixOrder
open Go.ChangeShapes Go.WideShapes Go.ChangeAt Go.RowKit Go.Lib Fx Fl
set_option linter.unusedVariables false

theorem own : ownKnob Try.prog.godebug = none := by kernel_rfl

theorem add_mono {x y : Int} (c : Int) (h : x ≤ y) : addI x c ≤ addI y c := clampI_mono (by omega)
theorem sub_mono {x y : Int} (c : Int) (h : x ≤ y) : subI x c ≤ subI y c ∧ subI c y ≤ subI c x := ⟨clampI_mono (by omega), clampI_mono (by omega)⟩
theorem whole_mono {x y : Int} (h : x ≤ y) : wholeI x ≤ wholeI y ∧ intI x ≤ intI y := ⟨clampI_mono (by omega), by unfold intI; omega⟩
theorem mul_mono {x y c : Int} (h : x ≤ y) : (0 < c → mulI x c ≤ mulI y c) ∧ (c < 0 → mulI y c ≤ mulI x c) := by
  refine ⟨fun hc => clampI_mono ?_, fun hc => clampI_mono ?_⟩
  · exact Int.ediv_le_ediv (by decide) (Int.mul_le_mul_of_nonneg_right h (Int.le_of_lt hc))
  · exact Int.ediv_le_ediv (by decide) (Int.mul_le_mul_of_nonpos_right h (Int.le_of_lt hc))
theorem div_mono {x y c : Int} (h : x ≤ y) : (0 < c → divI x c ≤ divI y c) ∧ (c < 0 → divI y c ≤ divI x c) := by
  refine ⟨fun hc => ?_, fun hc => ?_⟩
  · have e : ∀ z, divI z c = clampI (z * 1048576 / c) := fun z => by unfold divI; rw [if_neg (by omega), if_pos hc]
    rw [e x, e y]
    exact clampI_mono (Int.ediv_le_ediv hc (by omega))
  · have e : ∀ z, divI z c = clampI (-(z * 1048576) / -c) := fun z => by unfold divI; rw [if_neg (by omega), if_neg (by omega)]
    rw [e x, e y]
    exact clampI_mono (Int.ediv_le_ediv (by omega) (by omega))
theorem same (a b : Int) (ha : inI a) : mulI a b = mulI b a ∧ addI a b = addI b a ∧ mulI a 1048576 = a ∧ divI a 1048576 = a := by
  refine ⟨by unfold mulI; rw [Int.mul_comm], by unfold addI; rw [Int.add_comm], ?_, ?_⟩
  · unfold mulI; rw [Int.mul_ediv_cancel _ (by decide)]; exact clampI_id ha
  · unfold divI; rw [if_neg (by decide), if_pos (by decide), Int.mul_ediv_cancel _ (by decide)]; exact clampI_id ha
set_option maxRecDepth 100000 in
set_option maxHeartbeats 2000000 in
theorem walk (a0 : Int) (a1 : Int) (a2 : Int) (w0 : (Lit.int .i64 a0).wf = true) (w1 : (Lit.int .i64 a1).wf = true) (w2 : (Lit.int .i64 a2).wf = true) (w : World) :
    Calls Try.prog 7 #[.int .i64 a0, .int .i64 a1, .int .i64 a2] w fun e w' => e = .returned (.bool true) ∧ Grown w w' := by
  have ha : inI a0 := bounds_i64 w0
  have hb : inI a1 := bounds_i64 w1
  have hc : inI a2 := bounds_i64 w2
  have h1 : inI 1048576 := by unfold inI; omega
  have ct := fun w => told_any w
  obtain ⟨s1, s2, s3, s4⟩ := same a0 a1 ha
  clear w0 w1 w2
  rcases Int.lt_trichotomy a0 a1 with hab | hab | hab
  · have hxy : a0 ≤ a1 := by omega
    have hyx : ¬ a1 ≤ a0 := by omega
    have m1 := add_mono a2 hxy
    obtain ⟨m2, m3⟩ := sub_mono a2 hxy
    obtain ⟨m4, m5⟩ := whole_mono hxy
    obtain ⟨m6, m7⟩ := mul_mono (c := a2) hxy
    obtain ⟨m8, m9⟩ := div_mono (c := a2) hxy
    by_cases p : 0 < a2
    · have n1 := m6 p
      have n2 := m8 p
      clear m6 m7 m8 m9
      go_enter Try.func7, Try.ntmps7
      go_wp2_with (first | (go_at_call 13; ((with_reducible refine (ct _).mono ?_); rintro e w' ⟨rfl, n, rfl⟩)) | (go_at_call 15; ((with_reducible refine Calls.mono (add_any _ _ (by assumption) (by assumption) _) ?_); rintro e w' ⟨rfl, n, rfl⟩)) | (go_at_call 16; ((with_reducible refine Calls.mono (sub_any _ _ (by assumption) (by assumption) _) ?_); rintro e w' ⟨rfl, n, rfl⟩)) | (go_at_call 17; ((with_reducible refine Calls.mono (mul_any _ _ (by assumption) (by assumption) _) ?_); rintro e w' ⟨rfl, n, rfl⟩)) | (go_at_call 12; ((with_reducible refine Calls.mono (div_any _ _ (by assumption) (by assumption) _) ?_); rintro e w' ⟨rfl, n, rfl⟩)) | (go_at_call 14; ((with_reducible refine Calls.mono (whole_any _ (by assumption) _) ?_); rintro e w' ⟨rfl, n, rfl⟩)) | (go_at_call 18; ((with_reducible refine Calls.mono (ans_of_same (int_any _ _)) ?_); rintro e w' ⟨rfl, n, rfl⟩)))
      all_goals (go_ret; exact ⟨rfl, grown_draws _ _⟩)
    · by_cases q : a2 < 0
      · have n1 := m7 q
        have n2 := m9 q
        clear m6 m7 m8 m9
        go_enter Try.func7, Try.ntmps7
        go_wp2_with (first | (go_at_call 13; ((with_reducible refine (ct _).mono ?_); rintro e w' ⟨rfl, n, rfl⟩)) | (go_at_call 15; ((with_reducible refine Calls.mono (add_any _ _ (by assumption) (by assumption) _) ?_); rintro e w' ⟨rfl, n, rfl⟩)) | (go_at_call 16; ((with_reducible refine Calls.mono (sub_any _ _ (by assumption) (by assumption) _) ?_); rintro e w' ⟨rfl, n, rfl⟩)) | (go_at_call 17; ((with_reducible refine Calls.mono (mul_any _ _ (by assumption) (by assumption) _) ?_); rintro e w' ⟨rfl, n, rfl⟩)) | (go_at_call 12; ((with_reducible refine Calls.mono (div_any _ _ (by assumption) (by assumption) _) ?_); rintro e w' ⟨rfl, n, rfl⟩)) | (go_at_call 14; ((with_reducible refine Calls.mono (whole_any _ (by assumption) _) ?_); rintro e w' ⟨rfl, n, rfl⟩)) | (go_at_call 18; ((with_reducible refine Calls.mono (ans_of_same (int_any _ _)) ?_); rintro e w' ⟨rfl, n, rfl⟩)))
        all_goals (go_ret; exact ⟨rfl, grown_draws _ _⟩)
      · clear m6 m7 m8 m9
        go_enter Try.func7, Try.ntmps7
        go_wp2_with (first | (go_at_call 13; ((with_reducible refine (ct _).mono ?_); rintro e w' ⟨rfl, n, rfl⟩)) | (go_at_call 15; ((with_reducible refine Calls.mono (add_any _ _ (by assumption) (by assumption) _) ?_); rintro e w' ⟨rfl, n, rfl⟩)) | (go_at_call 16; ((with_reducible refine Calls.mono (sub_any _ _ (by assumption) (by assumption) _) ?_); rintro e w' ⟨rfl, n, rfl⟩)) | (go_at_call 17; ((with_reducible refine Calls.mono (mul_any _ _ (by assumption) (by assumption) _) ?_); rintro e w' ⟨rfl, n, rfl⟩)) | (go_at_call 12; ((with_reducible refine Calls.mono (div_any _ _ (by assumption) (by assumption) _) ?_); rintro e w' ⟨rfl, n, rfl⟩)) | (go_at_call 14; ((with_reducible refine Calls.mono (whole_any _ (by assumption) _) ?_); rintro e w' ⟨rfl, n, rfl⟩)) | (go_at_call 18; ((with_reducible refine Calls.mono (ans_of_same (int_any _ _)) ?_); rintro e w' ⟨rfl, n, rfl⟩)))
        all_goals (go_ret; exact ⟨rfl, grown_draws _ _⟩)
  · subst hab
    have hxy : a0 ≤ a0 := by omega
    have m1 := add_mono a2 hxy
    obtain ⟨m2, m3⟩ := sub_mono a2 hxy
    obtain ⟨m4, m5⟩ := whole_mono hxy
    obtain ⟨m6, m7⟩ := mul_mono (c := a2) hxy
    obtain ⟨m8, m9⟩ := div_mono (c := a2) hxy
    by_cases p : 0 < a2
    · have n1 := m6 p
      have n2 := m8 p
      clear m6 m7 m8 m9
      go_enter Try.func7, Try.ntmps7
      go_wp2_with (first | (go_at_call 13; ((with_reducible refine (ct _).mono ?_); rintro e w' ⟨rfl, n, rfl⟩)) | (go_at_call 15; ((with_reducible refine Calls.mono (add_any _ _ (by assumption) (by assumption) _) ?_); rintro e w' ⟨rfl, n, rfl⟩)) | (go_at_call 16; ((with_reducible refine Calls.mono (sub_any _ _ (by assumption) (by assumption) _) ?_); rintro e w' ⟨rfl, n, rfl⟩)) | (go_at_call 17; ((with_reducible refine Calls.mono (mul_any _ _ (by assumption) (by assumption) _) ?_); rintro e w' ⟨rfl, n, rfl⟩)) | (go_at_call 12; ((with_reducible refine Calls.mono (div_any _ _ (by assumption) (by assumption) _) ?_); rintro e w' ⟨rfl, n, rfl⟩)) | (go_at_call 14; ((with_reducible refine Calls.mono (whole_any _ (by assumption) _) ?_); rintro e w' ⟨rfl, n, rfl⟩)) | (go_at_call 18; ((with_reducible refine Calls.mono (ans_of_same (int_any _ _)) ?_); rintro e w' ⟨rfl, n, rfl⟩)))
      all_goals (go_ret; exact ⟨rfl, grown_draws _ _⟩)
    · by_cases q : a2 < 0
      · have n1 := m7 q
        have n2 := m9 q
        clear m6 m7 m8 m9
        go_enter Try.func7, Try.ntmps7
        go_wp2_with (first | (go_at_call 13; ((with_reducible refine (ct _).mono ?_); rintro e w' ⟨rfl, n, rfl⟩)) | (go_at_call 15; ((with_reducible refine Calls.mono (add_any _ _ (by assumption) (by assumption) _) ?_); rintro e w' ⟨rfl, n, rfl⟩)) | (go_at_call 16; ((with_reducible refine Calls.mono (sub_any _ _ (by assumption) (by assumption) _) ?_); rintro e w' ⟨rfl, n, rfl⟩)) | (go_at_call 17; ((with_reducible refine Calls.mono (mul_any _ _ (by assumption) (by assumption) _) ?_); rintro e w' ⟨rfl, n, rfl⟩)) | (go_at_call 12; ((with_reducible refine Calls.mono (div_any _ _ (by assumption) (by assumption) _) ?_); rintro e w' ⟨rfl, n, rfl⟩)) | (go_at_call 14; ((with_reducible refine Calls.mono (whole_any _ (by assumption) _) ?_); rintro e w' ⟨rfl, n, rfl⟩)) | (go_at_call 18; ((with_reducible refine Calls.mono (ans_of_same (int_any _ _)) ?_); rintro e w' ⟨rfl, n, rfl⟩)))
        all_goals (go_ret; exact ⟨rfl, grown_draws _ _⟩)
      · clear m6 m7 m8 m9
        go_enter Try.func7, Try.ntmps7
        go_wp2_with (first | (go_at_call 13; ((with_reducible refine (ct _).mono ?_); rintro e w' ⟨rfl, n, rfl⟩)) | (go_at_call 15; ((with_reducible refine Calls.mono (add_any _ _ (by assumption) (by assumption) _) ?_); rintro e w' ⟨rfl, n, rfl⟩)) | (go_at_call 16; ((with_reducible refine Calls.mono (sub_any _ _ (by assumption) (by assumption) _) ?_); rintro e w' ⟨rfl, n, rfl⟩)) | (go_at_call 17; ((with_reducible refine Calls.mono (mul_any _ _ (by assumption) (by assumption) _) ?_); rintro e w' ⟨rfl, n, rfl⟩)) | (go_at_call 12; ((with_reducible refine Calls.mono (div_any _ _ (by assumption) (by assumption) _) ?_); rintro e w' ⟨rfl, n, rfl⟩)) | (go_at_call 14; ((with_reducible refine Calls.mono (whole_any _ (by assumption) _) ?_); rintro e w' ⟨rfl, n, rfl⟩)) | (go_at_call 18; ((with_reducible refine Calls.mono (ans_of_same (int_any _ _)) ?_); rintro e w' ⟨rfl, n, rfl⟩)))
        all_goals (go_ret; exact ⟨rfl, grown_draws _ _⟩)
  · have hxy : a1 ≤ a0 := by omega
    have hyx : ¬ a0 ≤ a1 := by omega
    have m1 := add_mono a2 hxy
    obtain ⟨m2, m3⟩ := sub_mono a2 hxy
    obtain ⟨m4, m5⟩ := whole_mono hxy
    obtain ⟨m6, m7⟩ := mul_mono (c := a2) hxy
    obtain ⟨m8, m9⟩ := div_mono (c := a2) hxy
    by_cases p : 0 < a2
    · have n1 := m6 p
      have n2 := m8 p
      clear m6 m7 m8 m9
      go_enter Try.func7, Try.ntmps7
      go_wp2_with (first | (go_at_call 13; ((with_reducible refine (ct _).mono ?_); rintro e w' ⟨rfl, n, rfl⟩)) | (go_at_call 15; ((with_reducible refine Calls.mono (add_any _ _ (by assumption) (by assumption) _) ?_); rintro e w' ⟨rfl, n, rfl⟩)) | (go_at_call 16; ((with_reducible refine Calls.mono (sub_any _ _ (by assumption) (by assumption) _) ?_); rintro e w' ⟨rfl, n, rfl⟩)) | (go_at_call 17; ((with_reducible refine Calls.mono (mul_any _ _ (by assumption) (by assumption) _) ?_); rintro e w' ⟨rfl, n, rfl⟩)) | (go_at_call 12; ((with_reducible refine Calls.mono (div_any _ _ (by assumption) (by assumption) _) ?_); rintro e w' ⟨rfl, n, rfl⟩)) | (go_at_call 14; ((with_reducible refine Calls.mono (whole_any _ (by assumption) _) ?_); rintro e w' ⟨rfl, n, rfl⟩)) | (go_at_call 18; ((with_reducible refine Calls.mono (ans_of_same (int_any _ _)) ?_); rintro e w' ⟨rfl, n, rfl⟩)))
      all_goals (go_ret; exact ⟨rfl, grown_draws _ _⟩)
    · by_cases q : a2 < 0
      · have n1 := m7 q
        have n2 := m9 q
        clear m6 m7 m8 m9
        go_enter Try.func7, Try.ntmps7
        go_wp2_with (first | (go_at_call 13; ((with_reducible refine (ct _).mono ?_); rintro e w' ⟨rfl, n, rfl⟩)) | (go_at_call 15; ((with_reducible refine Calls.mono (add_any _ _ (by assumption) (by assumption) _) ?_); rintro e w' ⟨rfl, n, rfl⟩)) | (go_at_call 16; ((with_reducible refine Calls.mono (sub_any _ _ (by assumption) (by assumption) _) ?_); rintro e w' ⟨rfl, n, rfl⟩)) | (go_at_call 17; ((with_reducible refine Calls.mono (mul_any _ _ (by assumption) (by assumption) _) ?_); rintro e w' ⟨rfl, n, rfl⟩)) | (go_at_call 12; ((with_reducible refine Calls.mono (div_any _ _ (by assumption) (by assumption) _) ?_); rintro e w' ⟨rfl, n, rfl⟩)) | (go_at_call 14; ((with_reducible refine Calls.mono (whole_any _ (by assumption) _) ?_); rintro e w' ⟨rfl, n, rfl⟩)) | (go_at_call 18; ((with_reducible refine Calls.mono (ans_of_same (int_any _ _)) ?_); rintro e w' ⟨rfl, n, rfl⟩)))
        all_goals (go_ret; exact ⟨rfl, grown_draws _ _⟩)
      · clear m6 m7 m8 m9
        go_enter Try.func7, Try.ntmps7
        go_wp2_with (first | (go_at_call 13; ((with_reducible refine (ct _).mono ?_); rintro e w' ⟨rfl, n, rfl⟩)) | (go_at_call 15; ((with_reducible refine Calls.mono (add_any _ _ (by assumption) (by assumption) _) ?_); rintro e w' ⟨rfl, n, rfl⟩)) | (go_at_call 16; ((with_reducible refine Calls.mono (sub_any _ _ (by assumption) (by assumption) _) ?_); rintro e w' ⟨rfl, n, rfl⟩)) | (go_at_call 17; ((with_reducible refine Calls.mono (mul_any _ _ (by assumption) (by assumption) _) ?_); rintro e w' ⟨rfl, n, rfl⟩)) | (go_at_call 12; ((with_reducible refine Calls.mono (div_any _ _ (by assumption) (by assumption) _) ?_); rintro e w' ⟨rfl, n, rfl⟩)) | (go_at_call 14; ((with_reducible refine Calls.mono (whole_any _ (by assumption) _) ?_); rintro e w' ⟨rfl, n, rfl⟩)) | (go_at_call 18; ((with_reducible refine Calls.mono (ans_of_same (int_any _ _)) ?_); rintro e w' ⟨rfl, n, rfl⟩)))
        all_goals (go_ret; exact ⟨rfl, grown_draws _ _⟩)

set_option maxRecDepth 100000 in
theorem lifted (os : Os) (started : os.Started) (H : Type) (enc : TypeId × Value → H) :
    ReturnsInHanded {} Try.checked os 7 .any (Rows.fixOrderSpec.pre6 enc Try.prog Try.f7 Rows.fixOrderRow.domain false) (Rows.fixOrderSpec.post enc Try.prog Try.f7 false true false false) := by
  refine returnsInHanded_of_change (C := Try.checked) own started (by kernel_rfl) Try.func7
    (ChangeSpec.witness6 (enc := enc) (C := Try.checked) false ⟨#[], #[.int .i64 0, .int .i64 0, .int .i64 0], []⟩ 8 (by kernel_rfl) (by kernel_rfl) (by kernel_rfl) (by kernel_rfl)) ?_
  intro W base args ds gs before hval0 hW hcnd _
  have hval : ∀ (j : Nat) t v, Try.f7.params[j]? = some t → args[j]? = some v → Value.okWide Try.prog W .any base t v := hval0
  have hW' := hW
  obtain ⟨p, q, hA0, hV, rfl, hfz, hnd⟩ := hW
  have hA : DataW.TrodAll enc Try.prog W 0 (fun _ => true) true Try.f7.params.toList args.toList ds p := hA0
  rw [Try.params7] at hA hval
  obtain ⟨v0, vs0, d0, ds0, p0, q0, hargs, rfl, rfl, h0, r0⟩ := trodAll_cons hA
  obtain ⟨v1, vs1, d1, ds1, p1, q1, rfl, rfl, rfl, h1, r1⟩ := trodAll_cons r0
  obtain ⟨v2, vs2, d2, ds2, p2, q2, rfl, rfl, rfl, h2, r2⟩ := trodAll_cons r1
  obtain ⟨rfl, rfl, rfl⟩ := trodAll_nil r2
  obtain rfl : args = #[v0, v1, v2] := by cases args; simp_all
  obtain ⟨rfl, rfl⟩ := trodVars_none hV
  obtain ⟨a0, rfl, rfl, rfl, w0⟩ := open_int Try.underlying2 (hval 0 2 v0 rfl rfl) h0
  obtain ⟨a1, rfl, rfl, rfl, w1⟩ := open_int Try.underlying2 (hval 1 2 v1 rfl rfl) h1
  obtain ⟨a2, rfl, rfl, rfl, w2⟩ := open_int Try.underlying2 (hval 2 2 v2 rfl rfl) h2
  clear hA0 hval0
  simp only [List.append_nil] at hW'
  refine (walk a0 a1 a2 w0 w1 w2 W).mono fun e W' ⟨he, hg⟩ => ?_
  subst he
  exact ⟨_, rfl, post_of_same (pa := []) (pv := []) hW' (fun _ _ _ => (trodAll_cons_mk (shut_bool Try.underlying4 _) trodAll_mk0)) (fun sp _ => (trodAll_cons_mk (shut_int Try.underlying2 w0) (trodAll_cons_mk (shut_int Try.underlying2 w1) (trodAll_cons_mk (shut_int Try.underlying2 w2) trodAll_mk0)))) (fun _ _ => rfl) rfl
    (hg.frame _) hg.2.1 (ok_one (by kernel_rfl) rfl (okWide_bool_mk Try.underlying4 _))⟩

theorem over : Rows.fixOrderRow.holds Try.pinned (OpenSpec.ofChange Rows.fixOrderSpec) :=
  OpenClaim.holds_of_wide 7 Try.f7 rfl rfl rfl rfl rfl rfl rfl ⟨rfl, rfl, rfl, rfl, rfl⟩ rfl rfl rfl rfl rfl (by kernel_rfl) Try.func7 (by kernel_rfl)
    (of_decide_eq_true (by kernel_rfl)) (by unfold Func.isWrapper; first | (rw [if_pos (by decide +kernel)]; kernel_rfl) | (rw [if_neg (by decide +kernel)]; exact ⟨rfl, rfl⟩))
    (fun os started H enc _ => lifted os started H enc)

theorem proved : Rows.FixOrderSaid :=
  over
#print axioms proved
end Go.Proofs.Ytpofkaigikphgaa.fixOrder
