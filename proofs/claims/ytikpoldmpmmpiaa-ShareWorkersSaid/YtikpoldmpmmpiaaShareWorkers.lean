/- For any five whole numbers the statement ShareWorkers answers true and leaves its arguments as they were: how many Ps work for the collector alone, the part of each other one, whether one is dedicated, whether one may work one more are what the document says. No condition. -/
import Derived.Test.YtikpoldmpmmpiaaHome
import Derived.Test.YtikpoldmpmmpiaaShareTold
import Derived.WalkKit
import Derived.ProofKit
import Derived.OpenShut
import Derived.Deep.RegionHeld3
import Derived.Deep.RegionWith
import Derived.Deep.Cut
import Derived.Deep.CutBlock
import Derived.Deep.CutRange
import Derived.Deep.DeepCutAuto
import Derived.RegionTactic
namespace Go.Proofs.Ytikpoldmpmmpiaa.shareWorkers
open Go.ChangeShapes Go.WideShapes Go.ChangeAt Go.WideElems Go.RowKit Go.Lib Fx Ho Sh
set_option linter.unusedVariables false

theorem own : ownKnob Try.prog.godebug = none := by kernel_rfl

set_option maxRecDepth 100000 in
set_option maxHeartbeats 4000000 in
theorem walk (a0 : Int) (a1 : Int) (a2 : Int) (a3 : Int) (a4 : Int) (w : World) (w0 : (Lit.int .i64 a0).wf = true) (w1 : (Lit.int .i64 a1).wf = true) (w2 : (Lit.int .i64 a2).wf = true) (w3 : (Lit.int .i64 a3).wf = true) (w4 : (Lit.int .i64 a4).wf = true) :
    Calls Try.prog 3 #[.int .i64 a0, .int .i64 a1, .int .i64 a2, .int .i64 a3, .int .i64 a4] w fun e w' => e = .returned (.bool true) ∧ Below w.heap.size w w' := by
  have r0 : inI a0 := by have := bounds_i64 w0; unfold inI; omega
  have r1 : inI a1 := by have := bounds_i64 w1; unfold inI; omega
  have ct := fun w => told_any w
  have c1 := fun w => workers_any a0 a1 r0 r1 w
  have c2 := fun w => rworkers_any a0 a1 r0 r1 w
  have c3 := fun w => dedicated_any a2 a0 a1 r0 r1 w
  have c4 := fun w => may_any a3 a4 a1 r1 w
  have c5 := fun w => rmay_any a3 a4 a1 r1 w
  unfold dedB at c3
  clear r0 r1
  generalize aloneI a0 a1 = A at *
  generalize restI a0 a1 = R at *
  generalize mayB a3 a4 a1 = M at *
  by_cases g1 : 0 ≤ a2
  · have g3 : decide (0 ≤ a2) = true := decide_eq_true g1
    rw [g3, Bool.true_and] at c3
    by_cases g2 : a2 < A
    all_goals
      go_enter Try.func3, Try.ntmps3
      go_wp2_with (first | (go_at_call 18; ((with_reducible refine (ct _).mono ?_); rintro e w' ⟨rfl, hb⟩)) | (go_at_call 16; ((with_reducible refine (c1 _).mono ?_); rintro e w' ⟨rfl, hb⟩)) | (go_at_call 17; ((with_reducible refine (c2 _).mono ?_); rintro e w' ⟨rfl, hb⟩)) | (go_at_call 19; ((with_reducible refine (c3 _).mono ?_); rintro e w' ⟨rfl, hb⟩)) | (go_at_call 20; ((with_reducible refine (c4 _).mono ?_); rintro e w' ⟨rfl, hb⟩)) | (go_at_call 21; ((with_reducible refine (c5 _).mono ?_); rintro e w' ⟨rfl, hb⟩)))
      go_ret
      exact ⟨rfl, (by repeat (first | assumption | exact Below.refl _ _ | refine below_drewN ?_ _ | refine below_alloc ?_ _ | refine below_then ?_ (by assumption)))⟩
  · have g3 : decide (0 ≤ a2) = false := decide_eq_false g1
    rw [g3, Bool.false_and] at c3
    go_enter Try.func3, Try.ntmps3
    go_wp2_with (first | (go_at_call 18; ((with_reducible refine (ct _).mono ?_); rintro e w' ⟨rfl, hb⟩)) | (go_at_call 16; ((with_reducible refine (c1 _).mono ?_); rintro e w' ⟨rfl, hb⟩)) | (go_at_call 17; ((with_reducible refine (c2 _).mono ?_); rintro e w' ⟨rfl, hb⟩)) | (go_at_call 19; ((with_reducible refine (c3 _).mono ?_); rintro e w' ⟨rfl, hb⟩)) | (go_at_call 20; ((with_reducible refine (c4 _).mono ?_); rintro e w' ⟨rfl, hb⟩)) | (go_at_call 21; ((with_reducible refine (c5 _).mono ?_); rintro e w' ⟨rfl, hb⟩)))
    go_ret
    exact ⟨rfl, (by repeat (first | assumption | exact Below.refl _ _ | refine below_drewN ?_ _ | refine below_alloc ?_ _ | refine below_then ?_ (by assumption)))⟩

set_option maxRecDepth 100000 in
theorem lifted (os : Os) (started : os.Started) (H : Type) (enc : TypeId × Value → H) :
    ReturnsInHanded {} Try.checked os 3 .any (Rows.shareWorkersSpec.pre6 enc Try.prog Try.f3 Rows.shareWorkersRow.domain false) (Rows.shareWorkersSpec.post enc Try.prog Try.f3 false true false false) := by
  refine returnsInHanded_of_change (C := Try.checked) own started (by kernel_rfl) Try.func3
    (ChangeSpec.witness6 (enc := enc) (C := Try.checked) false ⟨#[], #[.int .i64 0, .int .i64 0, .int .i64 0, .int .i64 0, .int .i64 0], []⟩ 8 (by kernel_rfl) (by kernel_rfl) (by kernel_rfl) (by kernel_rfl)) ?_
  intro W base args ds gs before hval0 hW hcnd _
  have hval : ∀ (j : Nat) t v, Try.f3.params[j]? = some t → args[j]? = some v → Value.okWide Try.prog W .any base t v := hval0
  have hW' := hW
  obtain ⟨p, q, hA0, hV, rfl, hfz, hnd⟩ := hW
  have hA : DataW.TrodAll enc Try.prog W 0 (fun _ => true) true Try.f3.params.toList args.toList ds p := hA0
  rw [Try.params3] at hA hval
  obtain ⟨v0, vs0, d0, ds0, p0, q0, hargs, rfl, rfl, h0, r0⟩ := trodAll_cons hA
  obtain ⟨v1, vs1, d1, ds1, p1, q1, rfl, rfl, rfl, h1, r1⟩ := trodAll_cons r0
  obtain ⟨v2, vs2, d2, ds2, p2, q2, rfl, rfl, rfl, h2, r2⟩ := trodAll_cons r1
  obtain ⟨v3, vs3, d3, ds3, p3, q3, rfl, rfl, rfl, h3, r3⟩ := trodAll_cons r2
  obtain ⟨v4, vs4, d4, ds4, p4, q4, rfl, rfl, rfl, h4, r4⟩ := trodAll_cons r3
  obtain ⟨rfl, rfl, rfl⟩ := trodAll_nil r4
  obtain rfl : args = #[v0, v1, v2, v3, v4] := by cases args; simp_all
  obtain ⟨rfl, rfl⟩ := trodVars_none hV
  obtain ⟨a0, rfl, rfl, rfl, w0⟩ := open_int Try.underlying3 (hval 0 3 v0 rfl rfl) h0
  obtain ⟨a1, rfl, rfl, rfl, w1⟩ := open_int Try.underlying2 (hval 1 2 v1 rfl rfl) h1
  obtain ⟨a2, rfl, rfl, rfl, w2⟩ := open_int Try.underlying3 (hval 2 3 v2 rfl rfl) h2
  obtain ⟨a3, rfl, rfl, rfl, w3⟩ := open_int Try.underlying2 (hval 3 2 v3 rfl rfl) h3
  obtain ⟨a4, rfl, rfl, rfl, w4⟩ := open_int Try.underlying2 (hval 4 2 v4 rfl rfl) h4
  clear hA0 hval0
  simp only [List.append_nil] at hW'
  refine (walk a0 a1 a2 a3 a4 W w0 w1 w2 w3 w4).mono fun e W' ⟨he, hg⟩ => ?_
  subst he
  exact ⟨_, rfl, post_of_kept (pa := _) (pv := []) hW' (fun _ _ _ => (trodAll_cons_mk (shut_bool Try.underlying4 _) trodAll_mk0)) (trodAll_cons_mk (shut_int Try.underlying3 w0) (trodAll_cons_mk (shut_int Try.underlying2 w1) (trodAll_cons_mk (shut_int Try.underlying3 w2) (trodAll_cons_mk (shut_int Try.underlying2 w3) (trodAll_cons_mk (shut_int Try.underlying2 w4) trodAll_mk0))))) (fun _ _ => rfl) (by simp) hg⟩

theorem over : Rows.shareWorkersRow.holds Try.pinned (OpenSpec.ofChange Rows.shareWorkersSpec) :=
  OpenClaim.holds_of_wide 3 Try.f3 rfl rfl rfl rfl rfl rfl rfl ⟨rfl, rfl, rfl, rfl, rfl⟩ rfl rfl rfl rfl rfl (by kernel_rfl) Try.func3 (by kernel_rfl)
    (of_decide_eq_true (by kernel_rfl)) (by unfold Func.isWrapper; first | (rw [if_pos (by decide +kernel)]; kernel_rfl) | (rw [if_neg (by decide +kernel)]; exact ⟨rfl, rfl⟩))
    (fun os started H enc _ => lifted os started H enc)

theorem proved : Rows.ShareWorkersSaid :=
  over
#print axioms proved
end Go.Proofs.Ytikpoldmpmmpiaa.shareWorkers
