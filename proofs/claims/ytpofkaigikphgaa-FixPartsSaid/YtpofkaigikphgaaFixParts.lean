/- For any two whole numbers of 64 bits the statement FixParts answers true and leaves its arguments as they were: a quotient times its divisor is at most the number in parts, and one part more is beyond it. No condition. -/
import Derived.Test.YtpofkaigikphgaaFixTold
import Derived.WalkKit
import Derived.ProofKit
import Derived.OpenShut
namespace Go.Proofs.Ytpofkaigikphgaa.fixParts
open Go.ChangeShapes Go.WideShapes Go.ChangeAt Go.RowKit Go.Lib Fx Fl
set_option linter.unusedVariables false

theorem own : ownKnob Try.prog.godebug = none := by kernel_rfl

theorem parts {x y : Int} (hx : -1073741824 < x ∧ x < 1073741824) (hy : 1 ≤ y ∧ y ≤ 1073741824) :
    divI x y = x * 1048576 / y ∧ divI (-x) (-y) = x * 1048576 / y ∧ (x * 1048576 / y) * y ≤ x * 1048576 ∧ x * 1048576 < (x * 1048576 / y) * y + y := by
  have h1 := Int.ediv_mul_le (x * 1048576) (by omega : y ≠ 0)
  have h2 := Int.lt_ediv_add_one_mul_self (x * 1048576) (by omega : 0 < y)
  rw [Int.add_mul, Int.one_mul] at h2
  have hin : inI (x * 1048576 / y) := by
    have a1 : -1125899906842624 ≤ x * 1048576 / y := Int.le_ediv_of_mul_le (by omega) (by omega)
    have a2 : x * 1048576 / y < 1125899906842624 := Int.ediv_lt_of_lt_mul (by omega) (by omega)
    unfold inI; omega
  refine ⟨?_, ?_, h1, h2⟩
  · unfold divI; rw [if_neg (by omega), if_pos (by omega), clampI_id hin]
  · unfold divI
    rw [if_neg (by omega), if_neg (by omega), show -(-x * 1048576) = x * 1048576 by omega, Int.neg_neg, clampI_id hin]
set_option maxRecDepth 100000 in
set_option maxHeartbeats 2000000 in
theorem walk (a0 : Int) (a1 : Int) (w0 : (Lit.int .i64 a0).wf = true) (w1 : (Lit.int .i64 a1).wf = true) (w : World) :
    Calls Try.prog 3 #[.int .i64 a0, .int .i64 a1] w fun e w' => e = .returned (.bool true) ∧ Grown w w' := by
  have ct := fun w => told_any w
  obtain ⟨d1, d2, d3, d4, d5⟩ := trem a0 (b := 1073741824) (by decide)
  have em : bits .and .i64 a1 1073741823 = a1 % 1073741824 := mask_i64 a1 30 (by decide)
  obtain ⟨x, hx⟩ : ∃ x : Int, a0.tmod 1073741824 = x := ⟨_, rfl⟩
  obtain ⟨m, hm⟩ : ∃ m : Int, a1 % 1073741824 = m := ⟨_, rfl⟩
  rw [hx] at d2 d3
  have m1 : 0 ≤ m ∧ m < 1073741824 := by omega
  rw [hm] at em
  obtain ⟨p1, p2, p3, p4⟩ := parts (x := x) (y := 1 + m) ⟨d2, d3⟩ (by omega)
  have c1 := fun w => div_any x (1 + m) (by unfold inI; omega) (by unfold inI; omega) w
  have c2 := fun w => div_any (-x) (-(1 + m)) (by unfold inI; omega) (by unfold inI; omega) w
  rw [p1] at c1
  rw [p2] at c2
  obtain ⟨q, hq⟩ : ∃ q : Int, q = x * 1048576 / (1 + m) := ⟨_, rfl⟩
  rw [← hq] at c1 c2 p3 p4
  obtain ⟨P, hP⟩ : ∃ P : Int, P = q * (1 + m) := ⟨_, rfl⟩
  rw [← hP] at p3 p4
  have e1 : wrap64 (q * (1 + m)) = P := by rw [hP]; exact IntWalk.wrap64_in _ ⟨by omega, by omega⟩
  clear d1 d4 d5 hm p1 p2 hq hP w0 w1
  go_enter Try.func3, Try.ntmps3
  go_wp2_with (first | (go_at_call 13; ((with_reducible refine (ct _).mono ?_); rintro e w' ⟨rfl, n, rfl⟩)) | (go_at_call 12; ((with_reducible refine (c1 _).mono ?_); rintro e w' ⟨rfl, n, rfl⟩)) | (go_at_call 12; ((with_reducible refine (c2 _).mono ?_); rintro e w' ⟨rfl, n, rfl⟩)))
  all_goals (go_ret; exact ⟨rfl, grown_draws _ _⟩)

set_option maxRecDepth 100000 in
theorem lifted (os : Os) (started : os.Started) (H : Type) (enc : TypeId × Value → H) :
    ReturnsInHanded {} Try.checked os 3 .any (Rows.fixPartsSpec.pre6 enc Try.prog Try.f3 Rows.fixPartsRow.domain false) (Rows.fixPartsSpec.post enc Try.prog Try.f3 false true false false) := by
  refine returnsInHanded_of_change (C := Try.checked) own started (by kernel_rfl) Try.func3
    (ChangeSpec.witness6 (enc := enc) (C := Try.checked) false ⟨#[], #[.int .i64 0, .int .i64 0], []⟩ 8 (by kernel_rfl) (by kernel_rfl) (by kernel_rfl) (by kernel_rfl)) ?_
  intro W base args ds gs before hval0 hW hcnd _
  have hval : ∀ (j : Nat) t v, Try.f3.params[j]? = some t → args[j]? = some v → Value.okWide Try.prog W .any base t v := hval0
  have hW' := hW
  obtain ⟨p, q, hA0, hV, rfl, hfz, hnd⟩ := hW
  have hA : DataW.TrodAll enc Try.prog W 0 (fun _ => true) true Try.f3.params.toList args.toList ds p := hA0
  rw [Try.params3] at hA hval
  obtain ⟨v0, vs0, d0, ds0, p0, q0, hargs, rfl, rfl, h0, r0⟩ := trodAll_cons hA
  obtain ⟨v1, vs1, d1, ds1, p1, q1, rfl, rfl, rfl, h1, r1⟩ := trodAll_cons r0
  obtain ⟨rfl, rfl, rfl⟩ := trodAll_nil r1
  obtain rfl : args = #[v0, v1] := by cases args; simp_all
  obtain ⟨rfl, rfl⟩ := trodVars_none hV
  obtain ⟨a0, rfl, rfl, rfl, w0⟩ := open_int Try.underlying2 (hval 0 2 v0 rfl rfl) h0
  obtain ⟨a1, rfl, rfl, rfl, w1⟩ := open_int Try.underlying2 (hval 1 2 v1 rfl rfl) h1
  clear hA0 hval0
  simp only [List.append_nil] at hW'
  refine (walk a0 a1 w0 w1 W).mono fun e W' ⟨he, hg⟩ => ?_
  subst he
  exact ⟨_, rfl, post_of_same (pa := []) (pv := []) hW' (fun _ _ _ => (trodAll_cons_mk (shut_bool Try.underlying4 _) trodAll_mk0)) (fun sp _ => (trodAll_cons_mk (shut_int Try.underlying2 w0) (trodAll_cons_mk (shut_int Try.underlying2 w1) trodAll_mk0))) (fun _ _ => rfl) rfl
    (hg.frame _) hg.2.1 (ok_one (by kernel_rfl) rfl (okWide_bool_mk Try.underlying4 _))⟩

theorem over : Rows.fixPartsRow.holds Try.pinned (OpenSpec.ofChange Rows.fixPartsSpec) :=
  OpenClaim.holds_of_wide 3 Try.f3 rfl rfl rfl rfl rfl rfl rfl ⟨rfl, rfl, rfl, rfl, rfl⟩ rfl rfl rfl rfl rfl (by kernel_rfl) Try.func3 (by kernel_rfl)
    (of_decide_eq_true (by kernel_rfl)) (by unfold Func.isWrapper; first | (rw [if_pos (by decide +kernel)]; kernel_rfl) | (rw [if_neg (by decide +kernel)]; exact ⟨rfl, rfl⟩))
    (fun os started H enc _ => lifted os started H enc)

theorem proved : Rows.FixPartsSaid :=
  over
#print axioms proved
end Go.Proofs.Ytpofkaigikphgaa.fixParts
