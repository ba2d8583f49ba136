/- For any three whole numbers of 64 bits the statement FixBack answers true and leaves its arguments as they were: whole numbers come back from fixed-point ones, and a product that is divided again is short of the number by at most two parts. No condition. -/
import Derived.Test.YtpofkaigikphgaaFixTold
import Derived.WalkKit
import Derived.ProofKit
import Derived.OpenShut
namespace Go.Proofs.Ytpofkaigikphgaa.fixBack
open Go.ChangeShapes Go.WideShapes Go.ChangeAt Go.RowKit Go.Lib Fx Fl
set_option linter.unusedVariables false

theorem own : ownKnob Try.prog.godebug = none := by kernel_rfl

theorem back {x y : Int} (hx : -1099511627776 < x ∧ x < 1099511627776) (hy : 1048576 ≤ y ∧ y < 1099512676352) :
    inI (mulI x y) ∧ divI (mulI x y) y ≤ x ∧ x - 2 ≤ divI (mulI x y) y := by
  have b1 : -(1099511627776 * 1099512676352) ≤ x * y := by
    have := Int.mul_le_mul_of_nonneg_right (c := y) (by omega : -1099511627776 ≤ x) (by omega)
    have : 1099511627776 * y ≤ 1099511627776 * 1099512676352 := Int.mul_le_mul_of_nonneg_left (by omega) (by omega)
    omega
  have b2 : x * y ≤ 1099511627776 * 1099512676352 := by
    have := Int.mul_le_mul_of_nonneg_right (c := y) (by omega : x ≤ 1099511627776) (by omega)
    have : 1099511627776 * y ≤ 1099511627776 * 1099512676352 := Int.mul_le_mul_of_nonneg_left (by omega) (by omega)
    omega
  have e : mulI x y = x * y / 1048576 := by unfold mulI; rw [clampI_id (by unfold inI; omega)]
  rw [e]
  obtain ⟨z, hz⟩ : ∃ z : Int, z = x * y / 1048576 := ⟨_, rfl⟩
  rw [← hz]
  have z1 : z * 1048576 ≤ x * y ∧ x * y < z * 1048576 + 1048576 := by omega
  have q1 : z * 1048576 / y ≤ x := by
    have := Int.ediv_lt_of_lt_mul (a := z * 1048576) (b := x + 1) (c := y) (by omega) (by rw [Int.add_mul, Int.one_mul]; omega)
    omega
  have q2 : x - 1 ≤ z * 1048576 / y := Int.le_ediv_of_mul_le (by omega) (by rw [Int.sub_mul, Int.one_mul]; omega)
  have q : divI z y = z * 1048576 / y := by unfold divI; rw [if_neg (by omega), if_pos (by omega), clampI_id (by unfold inI; omega)]
  rw [q]
  refine ⟨by unfold inI; omega, q1, by omega⟩
set_option maxRecDepth 100000 in
set_option maxHeartbeats 2000000 in
theorem walk (a0 : Int) (a1 : Int) (a2 : Int) (w0 : (Lit.int .i64 a0).wf = true) (w1 : (Lit.int .i64 a1).wf = true) (w2 : (Lit.int .i64 a2).wf = true) (w : World) :
    Calls Try.prog 9 #[.int .i64 a0, .int .i64 a1, .int .i64 a2] w fun e w' => e = .returned (.bool true) ∧ Grown w w' := by
  have ct := fun w => told_any w
  obtain ⟨_, d2, d3, _, _⟩ := trem a0 (b := 1099511627776) (by decide)
  obtain ⟨_, e2, e3, _, _⟩ := trem a1 (b := 1099511627776) (by decide)
  have em : bits .and .i64 a2 1099511627775 = a2 % 1099511627776 := mask_i64 a2 40 (by decide)
  obtain ⟨n, hn⟩ : ∃ n : Int, a0.tmod 1099511627776 = n := ⟨_, rfl⟩
  obtain ⟨x, hx⟩ : ∃ x : Int, a1.tmod 1099511627776 = x := ⟨_, rfl⟩
  obtain ⟨m, hm⟩ : ∃ m : Int, a2 % 1099511627776 = m := ⟨_, rfl⟩
  have m1 : 0 ≤ m ∧ m < 1099511627776 := by omega
  rw [hm] at em
  rw [hn] at d2 d3
  rw [hx] at e2 e3
  obtain ⟨p1, p2, p3⟩ := back (x := x) (y := 1048576 + m) ⟨e2, e3⟩ (by omega)
  have iy : inI (1048576 + m) := by unfold inI; omega
  have c1 := fun w => mul_any x (1048576 + m) (by unfold inI; omega) iy w
  have c2 := fun w => div_any _ (1048576 + m) p1 iy w
  have c3 : ∀ w, Calls Try.prog 14 #[.int .i64 n] w (Ans (.int .i64 (n * 1048576)) w) := fun w => by
    have := whole_any n (by unfold inI; omega) w
    rw [show wholeI n = n * 1048576 from clampI_id (by unfold inI; omega)] at this
    exact this
  have c4 : ∀ w, Calls Try.prog 18 #[.int .i64 (n * 1048576)] w (Ans (.int .i64 n) w) := fun w => by
    have := ans_of_same (int_any (n * 1048576) w)
    rw [show intI (n * 1048576) = n from by unfold intI; omega] at this
    exact this
  generalize divI (mulI x (1048576 + m)) (1048576 + m) = p at *
  generalize mulI x (1048576 + m) = z at *
  clear hm p1 iy w0 w1 w2
  go_enter Try.func9, Try.ntmps9
  go_wp2_with (first | (go_at_call 13; ((with_reducible refine (ct _).mono ?_); rintro e w' ⟨rfl, n, rfl⟩)) | (go_at_call 17; ((with_reducible refine (c1 _).mono ?_); rintro e w' ⟨rfl, n, rfl⟩)) | (go_at_call 12; ((with_reducible refine (c2 _).mono ?_); rintro e w' ⟨rfl, n, rfl⟩)) | (go_at_call 14; ((with_reducible refine (c3 _).mono ?_); rintro e w' ⟨rfl, n, rfl⟩)) | (go_at_call 18; ((with_reducible refine (c4 _).mono ?_); rintro e w' ⟨rfl, n, rfl⟩)))
  all_goals (go_ret; exact ⟨rfl, grown_draws _ _⟩)

set_option maxRecDepth 100000 in
theorem lifted (os : Os) (started : os.Started) (H : Type) (enc : TypeId × Value → H) :
    ReturnsInHanded {} Try.checked os 9 .any (Rows.fixBackSpec.pre6 enc Try.prog Try.f9 Rows.fixBackRow.domain false) (Rows.fixBackSpec.post enc Try.prog Try.f9 false true false false) := by
  refine returnsInHanded_of_change (C := Try.checked) own started (by kernel_rfl) Try.func9
    (ChangeSpec.witness6 (enc := enc) (C := Try.checked) false ⟨#[], #[.int .i64 0, .int .i64 0, .int .i64 0], []⟩ 8 (by kernel_rfl) (by kernel_rfl) (by kernel_rfl) (by kernel_rfl)) ?_
  intro W base args ds gs before hval0 hW hcnd _
  have hval : ∀ (j : Nat) t v, Try.f9.params[j]? = some t → args[j]? = some v → Value.okWide Try.prog W .any base t v := hval0
  have hW' := hW
  obtain ⟨p, q, hA0, hV, rfl, hfz, hnd⟩ := hW
  have hA : DataW.TrodAll enc Try.prog W 0 (fun _ => true) true Try.f9.params.toList args.toList ds p := hA0
  rw [Try.params9] at hA hval
  obtain ⟨v0, vs0, d0, ds0, p0, q0, hargs, rfl, rfl, h0, r0⟩ := trodAll_cons hA
  obtain ⟨v1, vs1, d1, ds1, p1, q1, rfl, rfl, rfl, h1, r1⟩ := trodAll_cons r0
  obtain ⟨v2, vs2, d2, ds2, p2, q2, rfl, rfl, rfl, h2, r2⟩ := trodAll_cons r1
  obtain ⟨rfl, rfl, rfl⟩ := trodAll_nil r2
  obtain rfl : args = #[v0, v1, v2] := by cases args; simp_all
  obtain ⟨rfl, rfl⟩ := trodVars_none hV
  obtain ⟨a0, rfl, rfl, rfl, w0⟩ := open_int Try.underlying2 (hval 0 2 v0 rfl rfl) h0
  obtain ⟨a1, rfl, rfl, rfl, w1⟩ := open_int Try.underlying2 (hval 1 2 v1 rfl rfl) h1
  obtain ⟨a2, rfl, rfl, rfl, w2⟩ := open_int Try.underlying2 (hval 2 2 v2 rfl rfl) h2
  clear hA0 hval0
  simp only [List.append_nil] at hW'
  refine (walk a0 a1 a2 w0 w1 w2 W).mono fun e W' ⟨he, hg⟩ => ?_
  subst he
  exact ⟨_, rfl, post_of_same (pa := []) (pv := []) hW' (fun _ _ _ => (trodAll_cons_mk (shut_bool Try.underlying4 _) trodAll_mk0)) (fun sp _ => (trodAll_cons_mk (shut_int Try.underlying2 w0) (trodAll_cons_mk (shut_int Try.underlying2 w1) (trodAll_cons_mk (shut_int Try.underlying2 w2) trodAll_mk0)))) (fun _ _ => rfl) rfl
    (hg.frame _) hg.2.1 (ok_one (by kernel_rfl) rfl (okWide_bool_mk Try.underlying4 _))⟩

theorem over : Rows.fixBackRow.holds Try.pinned (OpenSpec.ofChange Rows.fixBackSpec) :=
  OpenClaim.holds_of_wide 9 Try.f9 rfl rfl rfl rfl rfl rfl rfl ⟨rfl, rfl, rfl, rfl, rfl⟩ rfl rfl rfl rfl rfl (by kernel_rfl) Try.func9 (by kernel_rfl)
    (of_decide_eq_true (by kernel_rfl)) (by unfold Func.isWrapper; first | (rw [if_pos (by decide +kernel)]; kernel_rfl) | (rw [if_neg (by decide +kernel)]; exact ⟨rfl, rfl⟩))
    (fun os started H enc _ => lifted os started H enc)

theorem proved : Rows.FixBackSaid :=
  over
#print axioms proved
end Go.Proofs.Ytpofkaigikphgaa.fixBack
