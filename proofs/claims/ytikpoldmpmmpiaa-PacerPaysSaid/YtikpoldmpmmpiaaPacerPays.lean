/- For any two whole numbers the statement PacerPays answers true and leaves its arguments as they were: what is to be scanned is scanned by the time the goal is come to, if each allocated word pays its ratio, as long as the ratio is not cut. No condition. -/
import Derived.Test.YtikpoldmpmmpiaaHome
import Derived.Test.YtikpoldmpmmpiaaPacer
import Derived.WalkKit
import Derived.ProofKit
import Derived.OpenShut
import Derived.Deep.RegionHeld3
import Derived.Deep.RegionWith
import Derived.Deep.Cut
import Derived.Deep.CutBlock
import Derived.Deep.CutRange
import Derived.Deep.DeepCutAuto
import Derived.RegionTactic
namespace Go.Proofs.Ytikpoldmpmmpiaa.pacerPays
open Go.ChangeShapes Go.WideShapes Go.ChangeAt Go.WideElems Go.RowKit Go.Lib Fx Ho Pa
set_option linter.unusedVariables false

theorem own : ownKnob Try.prog.godebug = none := by kernel_rfl

set_option maxRecDepth 100000 in
set_option maxHeartbeats 4000000 in
theorem walk (a0 : Int) (a1 : Int) (w : World) (w0 : (Lit.int .i64 a0).wf = true) (w1 : (Lit.int .i64 a1).wf = true) :
    Calls Try.prog 9 #[.int .i64 a0, .int .i64 a1] w fun e w' => e = .returned (.bool true) ∧ Below w.heap.size w w' := by
  obtain ⟨Y, hY⟩ : ∃ Y : Int, IntKind.u64.wrap a0 = Y := ⟨_, rfl⟩
  have y0 : 0 ≤ Y := by rw [← hY, IntKind.wrap_u64]; omega
  obtain ⟨Z, hZ⟩ : ∃ Z : Int, IntKind.u64.wrap a1 = Z := ⟨_, rfl⟩
  have z0 : 0 ≤ Z := by rw [← hZ, IntKind.wrap_u64]; omega
  obtain ⟨s, hs⟩ : ∃ s : Int, Y % 1048576 = s := ⟨_, rfl⟩
  obtain ⟨v, hv⟩ : ∃ v : Int, 1 + Z % 1048576 = v := ⟨_, rfl⟩
  have s0 : 0 ≤ s := by omega
  have s1 : s < 1048576 := by omega
  have v0 : 1 ≤ v := by omega
  have v1 : v ≤ 1048576 := by omega
  have ct := fun w => told_any w
  have cr := fun w => ratio_any s 1000 (1000 + v) (by unfold inI; omega) (by unfold inI; omega) (by unfold inI; omega) w
  obtain ⟨r0, r1⟩ := ratio_bd s 1000 (1000 + v)
  obtain ⟨p1, p2, p3⟩ := pays s0 s1 v0 v1
  generalize ratioI s 1000 (1000 + v) = r at *
  clear w0 w1
  by_cases g1 : r = 67108864
  · have e1 := p1 g1
    subst g1
    clear p1 p2 p3 r0 r1
    go_enter Try.func9, Try.ntmps9
    go_wp2_with fail
    with_reducible refine Calls.mono (cr _) ?_
    rintro e w1 ⟨rfl, hb1⟩
    go_wp2_with fail
    with_reducible refine Calls.mono (ct _) ?_
    rintro e w2 ⟨rfl, hb2⟩
    go_wp2_with fail
    go_ret
    exact ⟨rfl, (by repeat (first | assumption | exact Below.refl _ _ | refine below_drewN ?_ _ | refine below_alloc ?_ _ | refine below_then ?_ (by assumption)))⟩
  · by_cases g2 : r = 131072
    · have e1 := p2 g2
      subst g2
      clear p1 p2 p3 r0 r1
      go_enter Try.func9, Try.ntmps9
      go_wp2_with fail
      with_reducible refine Calls.mono (cr _) ?_
      rintro e w1 ⟨rfl, hb1⟩
      go_wp2_with fail
      with_reducible refine Calls.mono (ct _) ?_
      rintro e w2 ⟨rfl, hb2⟩
      go_wp2_with fail
      go_ret
      exact ⟨rfl, (by repeat (first | assumption | exact Below.refl _ _ | refine below_drewN ?_ _ | refine below_alloc ?_ _ | refine below_then ?_ (by assumption)))⟩
    · obtain ⟨e1, e2⟩ := p3 g1 g2
      obtain ⟨q1, q2, q3, q4⟩ := paid_val v0 v1 r0 r1
      have c1 := fun w => whole_any v (by unfold inI; omega) w
      rw [q1] at c1
      have c2 := fun w => mul_any (v * 1048576) r (by unfold inI; omega) (by unfold inI; omega) w
      rw [q2] at c2
      have c3 := fun w => ans_of_same (int_any (v * r) w)
      unfold intI at c3
      have g3 : (r == 67108864) = false := by simpa using g1
      have g4 : (r == 131072) = false := by simpa using g2
      generalize v * r = x at *
      generalize v * 1048576 = V at *
      clear p1 p2 p3 r0 r1 q1 q2 g1 g2
      go_enter Try.func9, Try.ntmps9
      go_wp2_with fail
      with_reducible refine Calls.mono (cr _) ?_
      rintro e w1 ⟨rfl, hb1⟩
      go_wp2_with fail
      with_reducible refine Calls.mono (c1 _) ?_
      rintro e w2 ⟨rfl, k2, rfl⟩
      go_wp2_with fail
      with_reducible refine Calls.mono (c2 _) ?_
      rintro e w3 ⟨rfl, k3, rfl⟩
      go_wp2_with fail
      with_reducible refine Calls.mono (c3 _) ?_
      rintro e w4 ⟨rfl, k4, rfl⟩
      go_wp2_with fail
      with_reducible refine Calls.mono (ct _) ?_
      rintro e w5 ⟨rfl, hb5⟩
      go_wp2_with fail
      go_ret
      exact ⟨rfl, (by repeat (first | assumption | exact Below.refl _ _ | refine below_drewN ?_ _ | refine below_alloc ?_ _ | refine below_then ?_ (by assumption)))⟩

set_option maxRecDepth 100000 in
theorem lifted (os : Os) (started : os.Started) (H : Type) (enc : TypeId × Value → H) :
    ReturnsInHanded {} Try.checked os 9 .any (Rows.pacerPaysSpec.pre6 enc Try.prog Try.f9 Rows.pacerPaysRow.domain false) (Rows.pacerPaysSpec.post enc Try.prog Try.f9 false true false false) := by
  refine returnsInHanded_of_change (C := Try.checked) own started (by kernel_rfl) Try.func9
    (ChangeSpec.witness6 (enc := enc) (C := Try.checked) false ⟨#[], #[.int .i64 0, .int .i64 0], []⟩ 8 (by kernel_rfl) (by kernel_rfl) (by kernel_rfl) (by kernel_rfl)) ?_
  intro W base args ds gs before hval0 hW hcnd _
  have hval : ∀ (j : Nat) t v, Try.f9.params[j]? = some t → args[j]? = some v → Value.okWide Try.prog W .any base t v := hval0
  have hW' := hW
  obtain ⟨p, q, hA0, hV, rfl, hfz, hnd⟩ := hW
  have hA : DataW.TrodAll enc Try.prog W 0 (fun _ => true) true Try.f9.params.toList args.toList ds p := hA0
  rw [Try.params9] at hA hval
  obtain ⟨v0, vs0, d0, ds0, p0, q0, hargs, rfl, rfl, h0, r0⟩ := trodAll_cons hA
  obtain ⟨v1, vs1, d1, ds1, p1, q1, rfl, rfl, rfl, h1, r1⟩ := trodAll_cons r0
  obtain ⟨rfl, rfl, rfl⟩ := trodAll_nil r1
  obtain rfl : args = #[v0, v1] := by cases args; simp_all
  obtain ⟨rfl, rfl⟩ := trodVars_none hV
  obtain ⟨a0, rfl, rfl, rfl, w0⟩ := open_int Try.underlying3 (hval 0 3 v0 rfl rfl) h0
  obtain ⟨a1, rfl, rfl, rfl, w1⟩ := open_int Try.underlying3 (hval 1 3 v1 rfl rfl) h1
  clear hA0 hval0
  simp only [List.append_nil] at hW'
  refine (walk a0 a1 W w0 w1).mono fun e W' ⟨he, hg⟩ => ?_
  subst he
  exact ⟨_, rfl, post_of_kept (pa := _) (pv := []) hW' (fun _ _ _ => (trodAll_cons_mk (shut_bool Try.underlying4 _) trodAll_mk0)) (trodAll_cons_mk (shut_int Try.underlying3 w0) (trodAll_cons_mk (shut_int Try.underlying3 w1) trodAll_mk0)) (fun _ _ => rfl) (by simp) hg⟩

theorem over : Rows.pacerPaysRow.holds Try.pinned (OpenSpec.ofChange Rows.pacerPaysSpec) :=
  OpenClaim.holds_of_wide 9 Try.f9 rfl rfl rfl rfl rfl rfl rfl ⟨rfl, rfl, rfl, rfl, rfl⟩ rfl rfl rfl rfl rfl (by kernel_rfl) Try.func9 (by kernel_rfl)
    (of_decide_eq_true (by kernel_rfl)) (by unfold Func.isWrapper; first | (rw [if_pos (by decide +kernel)]; kernel_rfl) | (rw [if_neg (by decide +kernel)]; exact ⟨rfl, rfl⟩))
    (fun os started H enc _ => lifted os started H enc)

theorem proved : Rows.PacerPaysSaid :=
  over
#print axioms proved
end Go.Proofs.Ytikpoldmpmmpiaa.pacerPays
