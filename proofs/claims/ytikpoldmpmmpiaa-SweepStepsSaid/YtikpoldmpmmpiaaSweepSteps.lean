/- For any three whole numbers the statement SweepSteps answers true and leaves its arguments as they were: who sweeps what is needed ahead of each word is done as the goal is come to, and never sweeps more than its part and one. No condition. -/
import Derived.Test.YtikpoldmpmmpiaaHome
import Derived.Test.YtikpoldmpmmpiaaSweepK
import Derived.WalkKit
import Derived.ProofKit
import Derived.OpenShut
import Derived.Deep.RegionHeld3
import Derived.Deep.RegionWith
import Derived.Deep.Cut
import Derived.Deep.CutBlock
import Derived.Deep.CutRange
import Derived.Deep.DeepCutAuto
import Derived.RegionTactic
namespace Go.Proofs.Ytikpoldmpmmpiaa.sweepSteps
open Go.ChangeShapes Go.WideShapes Go.ChangeAt Go.WideElems Go.RowKit Go.Lib Fx Ho Sk
set_option linter.unusedVariables false

theorem own : ownKnob Try.prog.godebug = none := by kernel_rfl

set_option maxRecDepth 100000 in
set_option maxHeartbeats 4000000 in
theorem walk (a0 : Int) (a1 : Int) (a2 : Int) (w : World) (w0 : (Lit.int .i64 a0).wf = true) (w1 : (Lit.int .i64 a1).wf = true) (w2 : (Lit.int .i64 a2).wf = true) :
    Calls Try.prog 11 #[.int .i64 a0, .int .i64 a1, .int .i64 a2] w fun e w' => e = .returned (.bool true) ∧ Below w.heap.size w w' := by
  obtain ⟨X, hX⟩ : ∃ X : Int, IntKind.u64.wrap a0 = X := ⟨_, rfl⟩
  have x0 : 0 ≤ X := by rw [← hX, IntKind.wrap_u64]; omega
  obtain ⟨Y, hY⟩ : ∃ Y : Int, IntKind.u64.wrap a1 = Y := ⟨_, rfl⟩
  have y0 : 0 ≤ Y := by rw [← hY, IntKind.wrap_u64]; omega
  obtain ⟨Z, hZ⟩ : ∃ Z : Int, IntKind.u64.wrap a2 = Z := ⟨_, rfl⟩
  have z0 : 0 ≤ Z := by rw [← hZ, IntKind.wrap_u64]; omega
  obtain ⟨n, hn⟩ : ∃ n : Int, X % 201 = n := ⟨_, rfl⟩
  obtain ⟨v, hv⟩ : ∃ v : Int, 1 + Y % 300 = v := ⟨_, rfl⟩
  obtain ⟨s, hs⟩ : ∃ s : Int, 1 + Z % 20 = s := ⟨_, rfl⟩
  have n0 : 0 ≤ n := by omega
  have n1 : n ≤ 200 := by omega
  have v0 : 1 ≤ v := by omega
  have v1 : v ≤ 300 := by omega
  have s0 : 1 ≤ s := by omega
  have s1 : s ≤ 20 := by omega
  have ct := fun w => told_any w
  have cn : Hid (∀ d x, 0 ≤ d → d ≤ n → 0 ≤ x → x ≤ 2000 → ∀ w, Calls Try.prog 29 #[.int .i64 n, .int .i64 d, .int .i64 1000, .int .i64 (1000 + x), .int .i64 (1000 + v)] w (AnsB (.int .i64 (min (max (upI v (n * x) - d) 0) (n - d))) w)) := Lib.hid fun d x h1 h2 h3 h4 w => by
    have := need_any n d 1000 (1000 + x) (1000 + v) w
    rwa [need_mid n0 (by omega) h1 h2 (by omega) (by omega) h3 (by omega) v0 (by omega)] at this
  clear w0 w1 w2
  go_enter Try.func11, Try.ntmps11
  go_wp2_with fail
  clear hX hY hZ hn hv hs x0 y0 z0
  go_loopw [10, 11] (fun d i wr => ∃ D A : Int, d = .int .i64 D ∧ i = .int .i64 A ∧ 0 ≤ D ∧ D ≤ n ∧ 0 ≤ A ∧ A ≤ v + s ∧ Hid (D ≤ upI v (n * A)) ∧ Below w.heap.size w wr) (fun _ i _ => (v - intOf i).toNat)
  case atStart => exact ⟨0, 0, rfl, rfl, by omega, by omega, by omega, by omega, up_nonneg (by omega) (by simp), Below.refl _ _⟩
  case round =>
    obtain ⟨D, A, rfl, rfl, D0, D1, A0, A1, hD, hb⟩ := hrel
    by_cases hlt : A < v
    · have c1 := cn.out D A D0 D1 A0 (by omega)
      obtain ⟨e1, e2⟩ := need_step (w := v) n0 A0 (by omega) v0 D0 hD.out
      obtain ⟨u1, u2⟩ := up_ge (b := v) (n := n * A) (by omega)
      have u3 := up_nonneg (b := v) (by omega) (Int.mul_nonneg n0 A0)
      have u4 := up_mono (b := v) (by omega) (Int.mul_le_mul_of_nonneg_left (by omega : A ≤ A + s) n0)
      have x0 : 0 ≤ n * A := Int.mul_nonneg n0 A0
      have x1 : n * A ≤ 200 * 400 := Int.mul_le_mul n1 (by omega) A0 (by omega)
      generalize min (max (upI v (n * A) - D) 0) (n - D) = M at *
      have hU : Hid (upI v (n * A) ≤ upI v (n * (A + s))) := u4
      generalize upI v (n * A) = U at *
      have k0 : 0 ≤ U * v := Int.mul_nonneg u3 (by omega)
      have k1 : U * v ≤ 200 * 300 := Int.mul_le_mul (by omega) v1 (by omega) (by omega)
      have k2 : (U - 1) * v = U * v - v := by rw [Int.sub_mul, Int.one_mul]
      obtain ⟨x, hx⟩ : ∃ x, n * A = x := ⟨_, rfl⟩
      obtain ⟨y, hy⟩ : ∃ y, U * v = y := ⟨_, rfl⟩
      obtain ⟨z, hz⟩ : ∃ z, (U - 1) * v = z := ⟨_, rfl⟩
      rw [hz] at u2 k2
      rw [hx] at x0 x1 u1 u2
      rw [hy] at u1 k0 k1 k2
      have r1 : wrap64 (n * A) = x := by rw [hx]; exact IntWalk.wrap64_in _ ⟨by omega, by omega⟩
      have r2 : wrap64 ((D + M) * v) = y := by rw [e1, hy]; exact IntWalk.wrap64_in _ ⟨by omega, by omega⟩
      have r3 : wrap64 ((D + M - 1) * v) = z := by rw [e1, hz]; exact IntWalk.wrap64_in _ ⟨by omega, by omega⟩
      have e3 := Lib.hid e1
      have m0 : 0 ≤ D + M := by omega
      have m1 : D + M ≤ n := by omega
      clear hx hy hz u4 e1 k2 hD
      go_wp2_with fail
      with_reducible refine Calls.mono (c1 _) ?_
      rintro e w1 ⟨rfl, hb1⟩
      clear c1
      go_wp2_with fail
      go_roundw
      case rel => exact ⟨D + M, A + s, rfl, rfl, by omega, by omega, by omega, by omega, by rw [e3.out]; exact hU, below_then hb hb1⟩
      case measure => simp [intOf]; omega
    · have c1 := cn.out D v D0 D1 (by omega) (by omega)
      have c2 := cn.out n (2 * v) n0 (Int.le_refl _) (by omega) (by omega)
      rw [up_all (by omega)] at c1
      rw [show n * (2 * v) = (n * 2) * v by rw [Int.mul_assoc], up_all (by omega)] at c2
      rw [show min (max (n - D) 0) (n - D) = n - D by omega] at c1
      rw [show min (max (n * 2 - n) 0) (n - n) = 0 by omega] at c2
      clear cn
      go_wp2_with fail
      with_reducible refine Calls.mono (c1 _) ?_
      rintro e w1 ⟨rfl, hb1⟩
      clear c1
      go_wp2_with fail
      with_reducible refine Calls.mono (ct _) ?_
      rintro e w2 ⟨rfl, hb2⟩
      have e1 : wrap64 (D + (n - D)) = n := by rw [show D + (n - D) = n by omega]; exact IntWalk.wrap64_in _ ⟨by omega, by omega⟩
      go_wp2_with fail
      with_reducible refine Calls.mono (c2 _) ?_
      rintro e w3 ⟨rfl, hb3⟩
      go_wp2_with fail
      go_ret
      exact ⟨rfl, (by repeat (first | assumption | exact Below.refl _ _ | refine below_drewN ?_ _ | refine below_alloc ?_ _ | refine below_then ?_ (by assumption)))⟩

set_option maxRecDepth 100000 in
theorem lifted (os : Os) (started : os.Started) (H : Type) (enc : TypeId × Value → H) :
    ReturnsInHanded {} Try.checked os 11 .any (Rows.sweepStepsSpec.pre6 enc Try.prog Try.f11 Rows.sweepStepsRow.domain false) (Rows.sweepStepsSpec.post enc Try.prog Try.f11 false true false false) := by
  refine returnsInHanded_of_change (C := Try.checked) own started (by kernel_rfl) Try.func11
    (ChangeSpec.witness6 (enc := enc) (C := Try.checked) false ⟨#[], #[.int .i64 0, .int .i64 0, .int .i64 0], []⟩ 8 (by kernel_rfl) (by kernel_rfl) (by kernel_rfl) (by kernel_rfl)) ?_
  intro W base args ds gs before hval0 hW hcnd _
  have hval : ∀ (j : Nat) t v, Try.f11.params[j]? = some t → args[j]? = some v → Value.okWide Try.prog W .any base t v := hval0
  have hW' := hW
  obtain ⟨p, q, hA0, hV, rfl, hfz, hnd⟩ := hW
  have hA : DataW.TrodAll enc Try.prog W 0 (fun _ => true) true Try.f11.params.toList args.toList ds p := hA0
  rw [Try.params11] at hA hval
  obtain ⟨v0, vs0, d0, ds0, p0, q0, hargs, rfl, rfl, h0, r0⟩ := trodAll_cons hA
  obtain ⟨v1, vs1, d1, ds1, p1, q1, rfl, rfl, rfl, h1, r1⟩ := trodAll_cons r0
  obtain ⟨v2, vs2, d2, ds2, p2, q2, rfl, rfl, rfl, h2, r2⟩ := trodAll_cons r1
  obtain ⟨rfl, rfl, rfl⟩ := trodAll_nil r2
  obtain rfl : args = #[v0, v1, v2] := by cases args; simp_all
  obtain ⟨rfl, rfl⟩ := trodVars_none hV
  obtain ⟨a0, rfl, rfl, rfl, w0⟩ := open_int Try.underlying3 (hval 0 3 v0 rfl rfl) h0
  obtain ⟨a1, rfl, rfl, rfl, w1⟩ := open_int Try.underlying3 (hval 1 3 v1 rfl rfl) h1
  obtain ⟨a2, rfl, rfl, rfl, w2⟩ := open_int Try.underlying3 (hval 2 3 v2 rfl rfl) h2
  clear hA0 hval0
  simp only [List.append_nil] at hW'
  refine (walk a0 a1 a2 W w0 w1 w2).mono fun e W' ⟨he, hg⟩ => ?_
  subst he
  exact ⟨_, rfl, post_of_kept (pa := _) (pv := []) hW' (fun _ _ _ => (trodAll_cons_mk (shut_bool Try.underlying4 _) trodAll_mk0)) (trodAll_cons_mk (shut_int Try.underlying3 w0) (trodAll_cons_mk (shut_int Try.underlying3 w1) (trodAll_cons_mk (shut_int Try.underlying3 w2) trodAll_mk0))) (fun _ _ => rfl) (by simp) hg⟩

theorem over : Rows.sweepStepsRow.holds Try.pinned (OpenSpec.ofChange Rows.sweepStepsSpec) :=
  OpenClaim.holds_of_wide 11 Try.f11 rfl rfl rfl rfl rfl rfl rfl ⟨rfl, rfl, rfl, rfl, rfl⟩ rfl rfl rfl rfl rfl (by kernel_rfl) Try.func11 (by kernel_rfl)
    (of_decide_eq_true (by kernel_rfl)) (by unfold Func.isWrapper; first | (rw [if_pos (by decide +kernel)]; kernel_rfl) | (rw [if_neg (by decide +kernel)]; exact ⟨rfl, rfl⟩))
    (fun os started H enc _ => lifted os started H enc)

theorem proved : Rows.SweepStepsSaid :=
  over
#print axioms proved
end Go.Proofs.Ytikpoldmpmmpiaa.sweepSteps
