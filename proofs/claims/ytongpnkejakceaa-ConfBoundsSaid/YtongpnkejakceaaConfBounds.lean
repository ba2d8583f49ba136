/- For any three whole numbers the statement ConfBounds answers true and leaves its arguments as they were: a machine may be of 1 to 64 Ps and of 256 to 2^24 words that are a multiple of 64, and of nothing else. No condition. -/
import Derived.Test.YtongpnkejakceaaConfMay
import Derived.WalkKit
import Derived.ProofKit
import Derived.OpenShut
namespace Go.Proofs.Ytongpnkejakceaa.confBounds
open Go.ChangeShapes Go.WideShapes Go.ChangeAt Go.RowKit Go.Lib Fx Fl
set_option linter.unusedVariables false

theorem own : ownKnob Try.prog.godebug = none := by kernel_rfl

set_option maxRecDepth 100000 in
set_option maxHeartbeats 2000000 in
theorem walk (a0 : Int) (a1 : Int) (a2 : Int) (w0 : (Lit.int .i64 a0).wf = true) (w1 : (Lit.int .i64 a1).wf = true) (w2 : (Lit.int .i64 a2).wf = true) (w : World) :
    Calls Try.prog 6 #[.int .i64 a0, .int .i64 a1, .int .i64 a2] w fun e w' => e = .returned (.bool true) ∧ Below w.heap.size w w' := by
  have ct := fun w => told2_any w
  obtain ⟨Y, hY⟩ : ∃ Y : Int, IntKind.u64.wrap a0 = Y := ⟨_, rfl⟩
  obtain ⟨Z, hZ⟩ : ∃ Z : Int, IntKind.u64.wrap a1 = Z := ⟨_, rfl⟩
  obtain ⟨X, hX⟩ : ∃ X : Int, IntKind.u64.wrap a2 = X := ⟨_, rfl⟩
  have y0 : 0 ≤ Y := by rw [← hY, IntKind.wrap_u64]; omega
  have z0 : 0 ≤ Z := by rw [← hZ, IntKind.wrap_u64]; omega
  have x0 : 0 ≤ X := by rw [← hX, IntKind.wrap_u64]; omega
  obtain ⟨y, hy⟩ : ∃ y : Int, Y % 70 = y := ⟨_, rfl⟩
  obtain ⟨K, hK⟩ : ∃ K : Int, Z % 10 = K := ⟨_, rfl⟩
  obtain ⟨M, hM⟩ : ∃ M : Int, X % 3 = M := ⟨_, rfl⟩
  have y1 : 0 ≤ y := by omega
  have y2 : y < 70 := by omega
  have k1 : 0 ≤ K := by omega
  have k2 : K < 10 := by omega
  have m1 : 0 ≤ M := by omega
  have m2 : M < 3 := by omega
  have t1 : ∀ p q : Int, mayB p q = decide (1 ≤ p ∧ p ≤ 64 ∧ 256 ≤ q ∧ q ≤ 16777216 ∧ q % 64 = 0) := fun _ _ => rfl
  have c3 := fun w => may_any (y - 2) (-(64 * K)) 0 0 w
  rw [t1, decide_eq_false (by omega)] at c3
  rcases (show M = 0 ∨ M = 1 ∨ M = 2 by omega) with rfl | rfl | rfl
  · by_cases g1 : 3 ≤ y
    · by_cases g2 : y ≤ 66
      · by_cases g3 : 4 ≤ K
        · have c1 := fun w => may_any (y - 2) (64 * K) 0 0 w
          have c2 := fun w => may_any (y - 2) 16777216 0 0 w
          rw [t1, decide_eq_true (by omega)] at c1
          rw [t1, decide_eq_true (by omega)] at c2
          clear t1
          go_enter Try.func6, Try.ntmps6
          go_wp2_with (first | (go_at_call 13; ((with_reducible refine (ct _).mono ?_); rintro e w' ⟨rfl, hb⟩)) | (go_at_call 14; ((with_reducible refine (c1 _).mono ?_); rintro e w' ⟨rfl, hb⟩)) | (go_at_call 14; ((with_reducible refine (c2 _).mono ?_); rintro e w' ⟨rfl, hb⟩)) | (go_at_call 14; ((with_reducible refine (c3 _).mono ?_); rintro e w' ⟨rfl, hb⟩)))
          all_goals go_ret
          all_goals exact ⟨rfl, (by repeat (first | assumption | exact Below.refl _ _ | refine below_drewN ?_ _ | refine below_alloc ?_ _ | refine below_then ?_ (by assumption)))⟩
        · have c1 := fun w => may_any (y - 2) (64 * K) 0 0 w
          have c2 := fun w => may_any (y - 2) 16777216 0 0 w
          rw [t1, decide_eq_false (by omega)] at c1
          rw [t1, decide_eq_true (by omega)] at c2
          clear t1
          go_enter Try.func6, Try.ntmps6
          go_wp2_with (first | (go_at_call 13; ((with_reducible refine (ct _).mono ?_); rintro e w' ⟨rfl, hb⟩)) | (go_at_call 14; ((with_reducible refine (c1 _).mono ?_); rintro e w' ⟨rfl, hb⟩)) | (go_at_call 14; ((with_reducible refine (c2 _).mono ?_); rintro e w' ⟨rfl, hb⟩)) | (go_at_call 14; ((with_reducible refine (c3 _).mono ?_); rintro e w' ⟨rfl, hb⟩)))
          all_goals go_ret
          all_goals exact ⟨rfl, (by repeat (first | assumption | exact Below.refl _ _ | refine below_drewN ?_ _ | refine below_alloc ?_ _ | refine below_then ?_ (by assumption)))⟩
      · have c1 := fun w => may_any (y - 2) (64 * K) 0 0 w
        have c2 := fun w => may_any (y - 2) 16777216 0 0 w
        rw [t1, decide_eq_false (by omega)] at c1
        rw [t1, decide_eq_false (by omega)] at c2
        clear t1
        go_enter Try.func6, Try.ntmps6
        go_wp2_with (first | (go_at_call 13; ((with_reducible refine (ct _).mono ?_); rintro e w' ⟨rfl, hb⟩)) | (go_at_call 14; ((with_reducible refine (c1 _).mono ?_); rintro e w' ⟨rfl, hb⟩)) | (go_at_call 14; ((with_reducible refine (c2 _).mono ?_); rintro e w' ⟨rfl, hb⟩)) | (go_at_call 14; ((with_reducible refine (c3 _).mono ?_); rintro e w' ⟨rfl, hb⟩)))
        all_goals go_ret
        all_goals exact ⟨rfl, (by repeat (first | assumption | exact Below.refl _ _ | refine below_drewN ?_ _ | refine below_alloc ?_ _ | refine below_then ?_ (by assumption)))⟩
    · have c1 := fun w => may_any (y - 2) (64 * K) 0 0 w
      have c2 := fun w => may_any (y - 2) 16777216 0 0 w
      rw [t1, decide_eq_false (by omega)] at c1
      rw [t1, decide_eq_false (by omega)] at c2
      clear t1
      go_enter Try.func6, Try.ntmps6
      go_wp2_with (first | (go_at_call 13; ((with_reducible refine (ct _).mono ?_); rintro e w' ⟨rfl, hb⟩)) | (go_at_call 14; ((with_reducible refine (c1 _).mono ?_); rintro e w' ⟨rfl, hb⟩)) | (go_at_call 14; ((with_reducible refine (c2 _).mono ?_); rintro e w' ⟨rfl, hb⟩)) | (go_at_call 14; ((with_reducible refine (c3 _).mono ?_); rintro e w' ⟨rfl, hb⟩)))
      all_goals go_ret
      all_goals exact ⟨rfl, (by repeat (first | assumption | exact Below.refl _ _ | refine below_drewN ?_ _ | refine below_alloc ?_ _ | refine below_then ?_ (by assumption)))⟩
  · by_cases g1 : 3 ≤ y
    · by_cases g2 : y ≤ 66
      · by_cases g3 : 4 ≤ K
        · have c1 := fun w => may_any (y - 2) (64 * K + 1) 0 0 w
          have c2 := fun w => may_any (y - 2) 16777280 0 0 w
          rw [t1, decide_eq_false (by omega)] at c1
          rw [t1, decide_eq_false (by omega)] at c2
          clear t1
          go_enter Try.func6, Try.ntmps6
          go_wp2_with (first | (go_at_call 13; ((with_reducible refine (ct _).mono ?_); rintro e w' ⟨rfl, hb⟩)) | (go_at_call 14; ((with_reducible refine (c1 _).mono ?_); rintro e w' ⟨rfl, hb⟩)) | (go_at_call 14; ((with_reducible refine (c2 _).mono ?_); rintro e w' ⟨rfl, hb⟩)) | (go_at_call 14; ((with_reducible refine (c3 _).mono ?_); rintro e w' ⟨rfl, hb⟩)))
          all_goals go_ret
          all_goals exact ⟨rfl, (by repeat (first | assumption | exact Below.refl _ _ | refine below_drewN ?_ _ | refine below_alloc ?_ _ | refine below_then ?_ (by assumption)))⟩
        · have c1 := fun w => may_any (y - 2) (64 * K + 1) 0 0 w
          have c2 := fun w => may_any (y - 2) 16777280 0 0 w
          rw [t1, decide_eq_false (by omega)] at c1
          rw [t1, decide_eq_false (by omega)] at c2
          clear t1
          go_enter Try.func6, Try.ntmps6
          go_wp2_with (first | (go_at_call 13; ((with_reducible refine (ct _).mono ?_); rintro e w' ⟨rfl, hb⟩)) | (go_at_call 14; ((with_reducible refine (c1 _).mono ?_); rintro e w' ⟨rfl, hb⟩)) | (go_at_call 14; ((with_reducible refine (c2 _).mono ?_); rintro e w' ⟨rfl, hb⟩)) | (go_at_call 14; ((with_reducible refine (c3 _).mono ?_); rintro e w' ⟨rfl, hb⟩)))
          all_goals go_ret
          all_goals exact ⟨rfl, (by repeat (first | assumption | exact Below.refl _ _ | refine below_drewN ?_ _ | refine below_alloc ?_ _ | refine below_then ?_ (by assumption)))⟩
      · have c1 := fun w => may_any (y - 2) (64 * K + 1) 0 0 w
        have c2 := fun w => may_any (y - 2) 16777280 0 0 w
        rw [t1, decide_eq_false (by omega)] at c1
        rw [t1, decide_eq_false (by omega)] at c2
        clear t1
        go_enter Try.func6, Try.ntmps6
        go_wp2_with (first | (go_at_call 13; ((with_reducible refine (ct _).mono ?_); rintro e w' ⟨rfl, hb⟩)) | (go_at_call 14; ((with_reducible refine (c1 _).mono ?_); rintro e w' ⟨rfl, hb⟩)) | (go_at_call 14; ((with_reducible refine (c2 _).mono ?_); rintro e w' ⟨rfl, hb⟩)) | (go_at_call 14; ((with_reducible refine (c3 _).mono ?_); rintro e w' ⟨rfl, hb⟩)))
        all_goals go_ret
        all_goals exact ⟨rfl, (by repeat (first | assumption | exact Below.refl _ _ | refine below_drewN ?_ _ | refine below_alloc ?_ _ | refine below_then ?_ (by assumption)))⟩
    · have c1 := fun w => may_any (y - 2) (64 * K + 1) 0 0 w
      have c2 := fun w => may_any (y - 2) 16777280 0 0 w
      rw [t1, decide_eq_false (by omega)] at c1
      rw [t1, decide_eq_false (by omega)] at c2
      clear t1
      go_enter Try.func6, Try.ntmps6
      go_wp2_with (first | (go_at_call 13; ((with_reducible refine (ct _).mono ?_); rintro e w' ⟨rfl, hb⟩)) | (go_at_call 14; ((with_reducible refine (c1 _).mono ?_); rintro e w' ⟨rfl, hb⟩)) | (go_at_call 14; ((with_reducible refine (c2 _).mono ?_); rintro e w' ⟨rfl, hb⟩)) | (go_at_call 14; ((with_reducible refine (c3 _).mono ?_); rintro e w' ⟨rfl, hb⟩)))
      all_goals go_ret
      all_goals exact ⟨rfl, (by repeat (first | assumption | exact Below.refl _ _ | refine below_drewN ?_ _ | refine below_alloc ?_ _ | refine below_then ?_ (by assumption)))⟩
  · by_cases g1 : 3 ≤ y
    · by_cases g2 : y ≤ 66
      · by_cases g3 : 4 ≤ K
        · have c1 := fun w => may_any (y - 2) (64 * K + 2) 0 0 w
          have c2 := fun w => may_any (y - 2) 16777344 0 0 w
          rw [t1, decide_eq_false (by omega)] at c1
          rw [t1, decide_eq_false (by omega)] at c2
          clear t1
          go_enter Try.func6, Try.ntmps6
          go_wp2_with (first | (go_at_call 13; ((with_reducible refine (ct _).mono ?_); rintro e w' ⟨rfl, hb⟩)) | (go_at_call 14; ((with_reducible refine (c1 _).mono ?_); rintro e w' ⟨rfl, hb⟩)) | (go_at_call 14; ((with_reducible refine (c2 _).mono ?_); rintro e w' ⟨rfl, hb⟩)) | (go_at_call 14; ((with_reducible refine (c3 _).mono ?_); rintro e w' ⟨rfl, hb⟩)))
          all_goals go_ret
          all_goals exact ⟨rfl, (by repeat (first | assumption | exact Below.refl _ _ | refine below_drewN ?_ _ | refine below_alloc ?_ _ | refine below_then ?_ (by assumption)))⟩
        · have c1 := fun w => may_any (y - 2) (64 * K + 2) 0 0 w
          have c2 := fun w => may_any (y - 2) 16777344 0 0 w
          rw [t1, decide_eq_false (by omega)] at c1
          rw [t1, decide_eq_false (by omega)] at c2
          clear t1
          go_enter Try.func6, Try.ntmps6
          go_wp2_with (first | (go_at_call 13; ((with_reducible refine (ct _).mono ?_); rintro e w' ⟨rfl, hb⟩)) | (go_at_call 14; ((with_reducible refine (c1 _).mono ?_); rintro e w' ⟨rfl, hb⟩)) | (go_at_call 14; ((with_reducible refine (c2 _).mono ?_); rintro e w' ⟨rfl, hb⟩)) | (go_at_call 14; ((with_reducible refine (c3 _).mono ?_); rintro e w' ⟨rfl, hb⟩)))
          all_goals go_ret
          all_goals exact ⟨rfl, (by repeat (first | assumption | exact Below.refl _ _ | refine below_drewN ?_ _ | refine below_alloc ?_ _ | refine below_then ?_ (by assumption)))⟩
      · have c1 := fun w => may_any (y - 2) (64 * K + 2) 0 0 w
        have c2 := fun w => may_any (y - 2) 16777344 0 0 w
        rw [t1, decide_eq_false (by omega)] at c1
        rw [t1, decide_eq_false (by omega)] at c2
        clear t1
        go_enter Try.func6, Try.ntmps6
        go_wp2_with (first | (go_at_call 13; ((with_reducible refine (ct _).mono ?_); rintro e w' ⟨rfl, hb⟩)) | (go_at_call 14; ((with_reducible refine (c1 _).mono ?_); rintro e w' ⟨rfl, hb⟩)) | (go_at_call 14; ((with_reducible refine (c2 _).mono ?_); rintro e w' ⟨rfl, hb⟩)) | (go_at_call 14; ((with_reducible refine (c3 _).mono ?_); rintro e w' ⟨rfl, hb⟩)))
        all_goals go_ret
        all_goals exact ⟨rfl, (by repeat (first | assumption | exact Below.refl _ _ | refine below_drewN ?_ _ | refine below_alloc ?_ _ | refine below_then ?_ (by assumption)))⟩
    · have c1 := fun w => may_any (y - 2) (64 * K + 2) 0 0 w
      have c2 := fun w => may_any (y - 2) 16777344 0 0 w
      rw [t1, decide_eq_false (by omega)] at c1
      rw [t1, decide_eq_false (by omega)] at c2
      clear t1
      go_enter Try.func6, Try.ntmps6
      go_wp2_with (first | (go_at_call 13; ((with_reducible refine (ct _).mono ?_); rintro e w' ⟨rfl, hb⟩)) | (go_at_call 14; ((with_reducible refine (c1 _).mono ?_); rintro e w' ⟨rfl, hb⟩)) | (go_at_call 14; ((with_reducible refine (c2 _).mono ?_); rintro e w' ⟨rfl, hb⟩)) | (go_at_call 14; ((with_reducible refine (c3 _).mono ?_); rintro e w' ⟨rfl, hb⟩)))
      all_goals go_ret
      all_goals exact ⟨rfl, (by repeat (first | assumption | exact Below.refl _ _ | refine below_drewN ?_ _ | refine below_alloc ?_ _ | refine below_then ?_ (by assumption)))⟩

set_option maxRecDepth 100000 in
theorem lifted (os : Os) (started : os.Started) (H : Type) (enc : TypeId × Value → H) :
    ReturnsInHanded {} Try.checked os 6 .any (Rows.confBoundsSpec.pre6 enc Try.prog Try.f6 Rows.confBoundsRow.domain false) (Rows.confBoundsSpec.post enc Try.prog Try.f6 false true false false) := by
  refine returnsInHanded_of_change (C := Try.checked) own started (by kernel_rfl) Try.func6
    (ChangeSpec.witness6 (enc := enc) (C := Try.checked) false ⟨#[], #[.int .i64 0, .int .i64 0, .int .i64 0], []⟩ 8 (by kernel_rfl) (by kernel_rfl) (by kernel_rfl) (by kernel_rfl)) ?_
  intro W base args ds gs before hval0 hW hcnd _
  have hval : ∀ (j : Nat) t v, Try.f6.params[j]? = some t → args[j]? = some v → Value.okWide Try.prog W .any base t v := hval0
  have hW' := hW
  obtain ⟨p, q, hA0, hV, rfl, hfz, hnd⟩ := hW
  have hA : DataW.TrodAll enc Try.prog W 0 (fun _ => true) true Try.f6.params.toList args.toList ds p := hA0
  rw [Try.params6] at hA hval
  obtain ⟨v0, vs0, d0, ds0, p0, q0, hargs, rfl, rfl, h0, r0⟩ := trodAll_cons hA
  obtain ⟨v1, vs1, d1, ds1, p1, q1, rfl, rfl, rfl, h1, r1⟩ := trodAll_cons r0
  obtain ⟨v2, vs2, d2, ds2, p2, q2, rfl, rfl, rfl, h2, r2⟩ := trodAll_cons r1
  obtain ⟨rfl, rfl, rfl⟩ := trodAll_nil r2
  obtain rfl : args = #[v0, v1, v2] := by cases args; simp_all
  obtain ⟨rfl, rfl⟩ := trodVars_none hV
  obtain ⟨a0, rfl, rfl, rfl, w0⟩ := open_int Try.underlying3 (hval 0 3 v0 rfl rfl) h0
  obtain ⟨a1, rfl, rfl, rfl, w1⟩ := open_int Try.underlying3 (hval 1 3 v1 rfl rfl) h1
  obtain ⟨a2, rfl, rfl, rfl, w2⟩ := open_int Try.underlying3 (hval 2 3 v2 rfl rfl) h2
  clear hA0 hval0
  simp only [List.append_nil] at hW'
  refine (walk a0 a1 a2 w0 w1 w2 W).mono fun e W' ⟨he, hg⟩ => ?_
  subst he
  exact ⟨_, rfl, post_of_below (pa := []) (pv := []) hW' (fun _ _ _ => (trodAll_cons_mk (shut_bool Try.underlying4 _) trodAll_mk0)) (fun sp _ => (trodAll_cons_mk (shut_int Try.underlying3 w0) (trodAll_cons_mk (shut_int Try.underlying3 w1) (trodAll_cons_mk (shut_int Try.underlying3 w2) trodAll_mk0)))) (fun _ _ => rfl) rfl hg⟩

theorem over : Rows.confBoundsRow.holds Try.pinned (OpenSpec.ofChange Rows.confBoundsSpec) :=
  OpenClaim.holds_of_wide 6 Try.f6 rfl rfl rfl rfl rfl rfl rfl ⟨rfl, rfl, rfl, rfl, rfl⟩ rfl rfl rfl rfl rfl (by kernel_rfl) Try.func6 (by kernel_rfl)
    (of_decide_eq_true (by kernel_rfl)) (by unfold Func.isWrapper; first | (rw [if_pos (by decide +kernel)]; kernel_rfl) | (rw [if_neg (by decide +kernel)]; exact ⟨rfl, rfl⟩))
    (fun os started H enc _ => lifted os started H enc)

theorem proved : Rows.ConfBoundsSaid :=
  over
#print axioms proved
end Go.Proofs.Ytongpnkejakceaa.confBounds
