/- For every whole number of 64 bits the statement FixHalves answers true and leaves its argument as it was: a product by a half is the half rounded down, twice a half is the number or one less, and a quotient by two is that half. No condition. -/
import Derived.Test.YtpofkaigikphgaaFixTold
import Derived.WalkKit
import Derived.ProofKit
import Derived.OpenShut
namespace Go.Proofs.Ytpofkaigikphgaa.fixHalves
open Go.ChangeShapes Go.WideShapes Go.ChangeAt Go.RowKit Go.Lib Fx Fl
set_option linter.unusedVariables false

theorem own : ownKnob Try.prog.godebug = none := by kernel_rfl

theorem halves (a : Int) (h : inI a) : mulI a 524288 = a / 2 ∧ mulI (a / 2) 2097152 = a / 2 * 2 ∧ divI a 2097152 = a / 2 := by
  unfold inI at h
  refine ⟨?_, ?_, ?_⟩
  · unfold mulI; rw [clampI_id (by unfold inI; omega)]; omega
  · unfold mulI; rw [clampI_id (by unfold inI; omega)]; omega
  · unfold divI; rw [if_neg (by decide), if_pos (by decide), clampI_id (by unfold inI; omega)]; omega
set_option maxRecDepth 100000 in
set_option maxHeartbeats 2000000 in
theorem walk (a0 : Int) (w0 : (Lit.int .i64 a0).wf = true) (w : World) :
    Calls Try.prog 11 #[.int .i64 a0] w fun e w' => e = .returned (.bool true) ∧ Grown w w' := by
  have ha := bounds_i64 w0
  obtain ⟨h1, h2, h3⟩ := halves a0 ha
  have b2 : inI (a0 / 2) := by unfold inI; omega
  have ct := fun w => told_any w
  have c1 := fun w => mul_any a0 524288 ha (by unfold inI; omega) w
  have c2 := fun w => mul_any (a0 / 2) 2097152 b2 (by unfold inI; omega) w
  have c3 := fun w => div_any a0 2097152 ha (by unfold inI; omega) w
  rw [h1] at c1
  rw [h2] at c2
  rw [h3] at c3
  obtain ⟨h, hh⟩ : ∃ h : Int, h = a0 / 2 := ⟨_, rfl⟩
  obtain ⟨t, hht⟩ : ∃ t : Int, t = h * 2 := ⟨_, rfl⟩
  rw [← hh] at c1 c2 c3
  rw [← hht] at c2
  have k1 : t ≤ a0 := by omega
  have k2 : a0 ≤ t + 1 := by omega
  have k3 : 2 * h ≤ a0 ∧ a0 ≤ 2 * h + 1 := by omega
  obtain ⟨d1, d2, d3, d4, d5⟩ := trem a0 (b := 2) (by decide)
  obtain ⟨q, hq⟩ : ∃ q : Int, a0.tdiv 2 = q := ⟨_, rfl⟩
  obtain ⟨r, hr⟩ : ∃ r : Int, a0.tmod 2 = r := ⟨_, rfl⟩
  rw [hq, hr] at d1
  rw [hr] at d2 d3 d4 d5
  have hw : IntKind.i64.wrap (a0.tdiv 2) = q := by rw [hq, IntKind.wrap_i64]; omega
  have hqq : a0 / 2 = q ∨ a0 < 0 := by omega
  clear h1 h2 h3 hh hht b2 hq
  have D1 := Lib.hid d1
  have K := Lib.hid k3
  have ht : a0 - t = 0 ∨ a0 - t = 1 := by omega
  by_cases s : a0 < 0
  · by_cases p : r = 0
    · have e2 : (h == q) = true := by simp only [beq_iff_eq]; omega
      have e3 : (r != 0) = false := by simpa using p
      clear d1 d2 d3 d4 d5 hqq p k3 ht
      go_enter Try.func11, Try.ntmps11
      go_wp2_with (first | (go_at_call 13; ((with_reducible refine (ct _).mono ?_); rintro e w' ⟨rfl, n, rfl⟩)) | (go_at_call 17; ((with_reducible refine (c1 _).mono ?_); rintro e w' ⟨rfl, n, rfl⟩)) | (go_at_call 17; ((with_reducible refine (c2 _).mono ?_); rintro e w' ⟨rfl, n, rfl⟩)) | (go_at_call 12; ((with_reducible refine (c3 _).mono ?_); rintro e w' ⟨rfl, n, rfl⟩)))
      all_goals (go_ret; exact ⟨rfl, grown_draws _ _⟩)
    · have e2 : (h == q - 1) = true := by simp only [beq_iff_eq]; omega
      have e3 : (r != 0) = true := by simpa using p
      have e4 : -9223372036854775807 ≤ q ∧ q ≤ 9223372036854775807 := by omega
      clear d1 d2 d3 d4 d5 hqq p k3 ht
      go_enter Try.func11, Try.ntmps11
      go_wp2_with (first | (go_at_call 13; ((with_reducible refine (ct _).mono ?_); rintro e w' ⟨rfl, n, rfl⟩)) | (go_at_call 17; ((with_reducible refine (c1 _).mono ?_); rintro e w' ⟨rfl, n, rfl⟩)) | (go_at_call 17; ((with_reducible refine (c2 _).mono ?_); rintro e w' ⟨rfl, n, rfl⟩)) | (go_at_call 12; ((with_reducible refine (c3 _).mono ?_); rintro e w' ⟨rfl, n, rfl⟩)))
      all_goals (go_ret; exact ⟨rfl, grown_draws _ _⟩)
  · have e2 : (h == a0 / 2) = true := by simp only [beq_iff_eq]; omega
    clear d1 d2 d3 d4 d5 hqq k3 ht hw
    go_enter Try.func11, Try.ntmps11
    go_wp2_with (first | (go_at_call 13; ((with_reducible refine (ct _).mono ?_); rintro e w' ⟨rfl, n, rfl⟩)) | (go_at_call 17; ((with_reducible refine (c1 _).mono ?_); rintro e w' ⟨rfl, n, rfl⟩)) | (go_at_call 17; ((with_reducible refine (c2 _).mono ?_); rintro e w' ⟨rfl, n, rfl⟩)) | (go_at_call 12; ((with_reducible refine (c3 _).mono ?_); rintro e w' ⟨rfl, n, rfl⟩)))
    all_goals (go_ret; exact ⟨rfl, grown_draws _ _⟩)

set_option maxRecDepth 100000 in
theorem lifted (os : Os) (started : os.Started) (H : Type) (enc : TypeId × Value → H) :
    ReturnsInHanded {} Try.checked os 11 .any (Rows.fixHalvesSpec.pre6 enc Try.prog Try.f11 Rows.fixHalvesRow.domain false) (Rows.fixHalvesSpec.post enc Try.prog Try.f11 false true false false) := by
  refine returnsInHanded_of_change (C := Try.checked) own started (by kernel_rfl) Try.func11
    (ChangeSpec.witness6 (enc := enc) (C := Try.checked) false ⟨#[], #[.int .i64 0], []⟩ 8 (by kernel_rfl) (by kernel_rfl) (by kernel_rfl) (by kernel_rfl)) ?_
  intro W base args ds gs before hval0 hW hcnd _
  have hval : ∀ (j : Nat) t v, Try.f11.params[j]? = some t → args[j]? = some v → Value.okWide Try.prog W .any base t v := hval0
  have hW' := hW
  obtain ⟨p, q, hA0, hV, rfl, hfz, hnd⟩ := hW
  have hA : DataW.TrodAll enc Try.prog W 0 (fun _ => true) true Try.f11.params.toList args.toList ds p := hA0
  rw [Try.params11] at hA hval
  obtain ⟨v0, vs0, d0, ds0, p0, q0, hargs, rfl, rfl, h0, r0⟩ := trodAll_cons hA
  obtain ⟨rfl, rfl, rfl⟩ := trodAll_nil r0
  obtain rfl : args = #[v0] := by cases args; simp_all
  obtain ⟨rfl, rfl⟩ := trodVars_none hV
  obtain ⟨a0, rfl, rfl, rfl, w0⟩ := open_int Try.underlying2 (hval 0 2 v0 rfl rfl) h0
  clear hA0 hval0
  simp only [List.append_nil] at hW'
  refine (walk a0 w0 W).mono fun e W' ⟨he, hg⟩ => ?_
  subst he
  exact ⟨_, rfl, post_of_same (pa := []) (pv := []) hW' (fun _ _ _ => (trodAll_cons_mk (shut_bool Try.underlying4 _) trodAll_mk0)) (fun sp _ => (trodAll_cons_mk (shut_int Try.underlying2 w0) trodAll_mk0)) (fun _ _ => rfl) rfl
    (hg.frame _) hg.2.1 (ok_one (by kernel_rfl) rfl (okWide_bool_mk Try.underlying4 _))⟩

theorem over : Rows.fixHalvesRow.holds Try.pinned (OpenSpec.ofChange Rows.fixHalvesSpec) :=
  OpenClaim.holds_of_wide 11 Try.f11 rfl rfl rfl rfl rfl rfl rfl ⟨rfl, rfl, rfl, rfl, rfl⟩ rfl rfl rfl rfl rfl (by kernel_rfl) Try.func11 (by kernel_rfl)
    (of_decide_eq_true (by kernel_rfl)) (by unfold Func.isWrapper; first | (rw [if_pos (by decide +kernel)]; kernel_rfl) | (rw [if_neg (by decide +kernel)]; exact ⟨rfl, rfl⟩))
    (fun os started H enc _ => lifted os started H enc)

theorem proved : Rows.FixHalvesSaid :=
  over
#print axioms proved
end Go.Proofs.Ytpofkaigikphgaa.fixHalves
