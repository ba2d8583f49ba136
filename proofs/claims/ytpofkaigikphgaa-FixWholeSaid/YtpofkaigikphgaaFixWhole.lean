/- For any whole number of 64 bits and any float the statement FixWhole answers true and leaves its arguments as they were: whole numbers and floats become fixed-point ones and back as the document says, at what is not a number, infinities, zeros and all others. No condition. -/
import Derived.Test.YtpofkaigikphgaaFixRefReal
import Derived.WalkKit
import Derived.ProofKit
import Derived.OpenShut
namespace Go.Proofs.Ytpofkaigikphgaa.fixWhole
open Go.ChangeShapes Go.WideShapes Go.ChangeAt Go.RowKit Go.Lib Fx Fl
set_option linter.unusedVariables false

theorem own : ownKnob Try.prog.godebug = none := by kernel_rfl

set_option maxRecDepth 100000 in
set_option maxHeartbeats 2000000 in
theorem walk (a0 : Int) (a1 : Nat) (w0 : (Lit.int .i64 a0).wf = true) (w1 : (Lit.float .f64 a1).wf = true) (w : World) :
    Calls Try.prog 6 #[.int .i64 a0, .float .f64 a1] w fun e w' => e = .returned (.bool true) ∧ Grown w w' := by
  have ha := bounds_i64 w0
  have ct := fun w => told_any w
  have c1 := fun w => whole_any a0 ha w
  have c2 := fun w => rwhole_any a0 ha w
  have c3 := fun w => ans_of_same (int_any a0 w)
  have c4 := fun w => rint_any a0 w
  have c5 := fun w => float_any a1 w
  have c6 := fun w => rfloat_any a1 w
  have c7 := fun w => real_any a0 w
  have c8 := fun w => rreal_any a0 w
  have o := (realF_some a0).2
  have o1 : FloatKind.f64.format.order (realF a0) (realF a0) = some .eq := o
  generalize wholeI a0 = r1 at *
  generalize intI a0 = r2 at *
  generalize floatI a1 = r3 at *
  generalize realF a0 = r4 at *
  clear ha w0 w1 o
  go_enter Try.func6, Try.ntmps6
  go_wp2_with (first | (go_at_call 13; ((with_reducible refine (ct _).mono ?_); rintro e w' ⟨rfl, n, rfl⟩)) | (go_at_call 14; ((with_reducible refine (c1 _).mono ?_); rintro e w' ⟨rfl, n, rfl⟩)) | (go_at_call 25; ((with_reducible refine (c2 _).mono ?_); rintro e w' ⟨rfl, n, rfl⟩)) | (go_at_call 18; ((with_reducible refine (c3 _).mono ?_); rintro e w' ⟨rfl, n, rfl⟩)) | (go_at_call 26; ((with_reducible refine (c4 _).mono ?_); rintro e w' ⟨rfl, n, rfl⟩)) | (go_at_call 20; ((with_reducible refine (c5 _).mono ?_); rintro e w' ⟨rfl, n, rfl⟩)) | (go_at_call 27; ((with_reducible refine (c6 _).mono ?_); rintro e w' ⟨rfl, n, rfl⟩)) | (go_at_call 19; ((with_reducible refine (c7 _).mono ?_); rintro e w' ⟨rfl, n, rfl⟩)) | (go_at_call 28; ((with_reducible refine (c8 _).mono ?_); rintro e w' ⟨rfl, n, rfl⟩)))
  all_goals (go_ret; exact ⟨rfl, grown_draws _ _⟩)

set_option maxRecDepth 100000 in
theorem lifted (os : Os) (started : os.Started) (H : Type) (enc : TypeId × Value → H) :
    ReturnsInHanded {} Try.checked os 6 .any (Rows.fixWholeSpec.pre6 enc Try.prog Try.f6 Rows.fixWholeRow.domain false) (Rows.fixWholeSpec.post enc Try.prog Try.f6 false true false false) := by
  refine returnsInHanded_of_change (C := Try.checked) own started (by kernel_rfl) Try.func6
    (ChangeSpec.witness6 (enc := enc) (C := Try.checked) false ⟨#[], #[.int .i64 0, .float .f64 0], []⟩ 8 (by kernel_rfl) (by kernel_rfl) (by kernel_rfl) (by kernel_rfl)) ?_
  intro W base args ds gs before hval0 hW hcnd _
  have hval : ∀ (j : Nat) t v, Try.f6.params[j]? = some t → args[j]? = some v → Value.okWide Try.prog W .any base t v := hval0
  have hW' := hW
  obtain ⟨p, q, hA0, hV, rfl, hfz, hnd⟩ := hW
  have hA : DataW.TrodAll enc Try.prog W 0 (fun _ => true) true Try.f6.params.toList args.toList ds p := hA0
  rw [Try.params6] at hA hval
  obtain ⟨v0, vs0, d0, ds0, p0, q0, hargs, rfl, rfl, h0, r0⟩ := trodAll_cons hA
  obtain ⟨v1, vs1, d1, ds1, p1, q1, rfl, rfl, rfl, h1, r1⟩ := trodAll_cons r0
  obtain ⟨rfl, rfl, rfl⟩ := trodAll_nil r1
  obtain rfl : args = #[v0, v1] := by cases args; simp_all
  obtain ⟨rfl, rfl⟩ := trodVars_none hV
  obtain ⟨a0, rfl, rfl, rfl, w0⟩ := open_int Try.underlying2 (hval 0 2 v0 rfl rfl) h0
  obtain ⟨a1, rfl, rfl, rfl, w1⟩ := open_float Try.underlying27 (hval 1 27 v1 rfl rfl) h1
  clear hA0 hval0
  simp only [List.append_nil] at hW'
  refine (walk a0 a1 w0 w1 W).mono fun e W' ⟨he, hg⟩ => ?_
  subst he
  exact ⟨_, rfl, post_of_same (pa := []) (pv := []) hW' (fun _ _ _ => (trodAll_cons_mk (shut_bool Try.underlying4 _) trodAll_mk0)) (fun sp _ => (trodAll_cons_mk (shut_int Try.underlying2 w0) (trodAll_cons_mk (shut_float Try.underlying27 w1) trodAll_mk0))) (fun _ _ => rfl) rfl
    (hg.frame _) hg.2.1 (ok_one (by kernel_rfl) rfl (okWide_bool_mk Try.underlying4 _))⟩

theorem over : Rows.fixWholeRow.holds Try.pinned (OpenSpec.ofChange Rows.fixWholeSpec) :=
  OpenClaim.holds_of_wide 6 Try.f6 rfl rfl rfl rfl rfl rfl rfl ⟨rfl, rfl, rfl, rfl, rfl⟩ rfl rfl rfl rfl rfl (by kernel_rfl) Try.func6 (by kernel_rfl)
    (of_decide_eq_true (by kernel_rfl)) (by unfold Func.isWrapper; first | (rw [if_pos (by decide +kernel)]; kernel_rfl) | (rw [if_neg (by decide +kernel)]; exact ⟨rfl, rfl⟩))
    (fun os started H enc _ => lifted os started H enc)

theorem proved : Rows.FixWholeSaid :=
  over
#print axioms proved
end Go.Proofs.Ytpofkaigikphgaa.fixWhole
