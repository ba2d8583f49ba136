/- For any class and any size the statement ClassTable answers true and leaves its arguments as they were: the sizes, pages and places of classes and the class of a size are the document's own. No condition. -/
import Derived.Test.YtongpnkejakceaaClassRef
import Derived.WalkKit
import Derived.ProofKit
import Derived.OpenShut
namespace Go.Proofs.Ytongpnkejakceaa.classTable
open Go.ChangeShapes Go.WideShapes Go.ChangeAt Go.RowKit Go.Lib Fx Cl
set_option linter.unusedVariables false

theorem own : ownKnob Try.prog.godebug = none := by kernel_rfl

set_option maxRecDepth 100000 in
set_option maxHeartbeats 2000000 in
theorem walk (a0 : Int) (a1 : Int) (w0 : (Lit.int .i64 a0).wf = true) (w1 : (Lit.int .i64 a1).wf = true) (w : World) :
    Calls Try.prog 7 #[.int .i64 a0, .int .i64 a1] w fun e w' => e = .returned (.bool true) ∧ Below w.heap.size w w' := by
  have ct := fun w => told4_any w
  obtain ⟨Y, hY⟩ : ∃ Y : Int, IntKind.u64.wrap a0 = Y := ⟨_, rfl⟩
  have y0 : 0 ≤ Y := by rw [← hY, IntKind.wrap_u64]; omega
  obtain ⟨j, hj⟩ : ∃ j : Int, Y % 20 = j := ⟨_, rfl⟩
  have j1 : 0 ≤ j := by omega
  have j2 : j < 20 := by omega
  have s1 := fun w => size_any4 a0 w
  have s2 := fun w => rsize_any4 a0 w
  have p1 := fun w => pages_any a0 w
  have p2 := fun w => rpages_any a0 w
  have l1 := fun w => slots_any a0 w
  have l2 := fun w => rslots_any a0 w
  have o1 := fun w => of_any a1 w
  have o2 := fun w => rof_any a1 w
  have s3 := fun w => size_any4 j w
  have s4 := fun w => rsize_any4 j w
  have p3 := fun w => pages_any j w
  have p4 := fun w => rpages_any j w
  have l3 := fun w => slots_any j w
  have l4 := fun w => rslots_any j w
  have o3 := fun w => of_any (j * 13 + 1) w
  have o4 := fun w => rof_any (j * 13 + 1) w
  generalize sizeI a0 = x1 at *
  generalize pagesI a0 = x2 at *
  generalize slotsI a0 = x3 at *
  generalize ofI a1 = x4 at *
  generalize sizeI j = x5 at *
  generalize pagesI j = x6 at *
  generalize slotsI j = x7 at *
  generalize ofI (j * 13 + 1) = x8 at *
  go_enter Try.func7, Try.ntmps7
  go_wp2_with (first | (go_at_call 19; ((with_reducible refine (ct _).mono ?_); rintro e w' ⟨rfl, hb⟩)) | (go_at_call 20; ((with_reducible refine (s1 _).mono ?_); rintro e w' ⟨rfl, hb⟩)) | (go_at_call 21; ((with_reducible refine (s2 _).mono ?_); rintro e w' ⟨rfl, hb⟩)) | (go_at_call 22; ((with_reducible refine (p1 _).mono ?_); rintro e w' ⟨rfl, hb⟩)) | (go_at_call 23; ((with_reducible refine (p2 _).mono ?_); rintro e w' ⟨rfl, hb⟩)) | (go_at_call 24; ((with_reducible refine (l1 _).mono ?_); rintro e w' ⟨rfl, hb⟩)) | (go_at_call 25; ((with_reducible refine (l2 _).mono ?_); rintro e w' ⟨rfl, hb⟩)) | (go_at_call 26; ((with_reducible refine (o1 _).mono ?_); rintro e w' ⟨rfl, hb⟩)) | (go_at_call 27; ((with_reducible refine (o2 _).mono ?_); rintro e w' ⟨rfl, hb⟩)) | (go_at_call 20; ((with_reducible refine (s3 _).mono ?_); rintro e w' ⟨rfl, hb⟩)) | (go_at_call 21; ((with_reducible refine (s4 _).mono ?_); rintro e w' ⟨rfl, hb⟩)) | (go_at_call 22; ((with_reducible refine (p3 _).mono ?_); rintro e w' ⟨rfl, hb⟩)) | (go_at_call 23; ((with_reducible refine (p4 _).mono ?_); rintro e w' ⟨rfl, hb⟩)) | (go_at_call 24; ((with_reducible refine (l3 _).mono ?_); rintro e w' ⟨rfl, hb⟩)) | (go_at_call 25; ((with_reducible refine (l4 _).mono ?_); rintro e w' ⟨rfl, hb⟩)) | (go_at_call 26; ((with_reducible refine (o3 _).mono ?_); rintro e w' ⟨rfl, hb⟩)) | (go_at_call 27; ((with_reducible refine (o4 _).mono ?_); rintro e w' ⟨rfl, hb⟩)))
  go_ret
  exact ⟨rfl, (by repeat (first | assumption | exact Below.refl _ _ | refine below_drewN ?_ _ | refine below_alloc ?_ _ | refine below_then ?_ (by assumption)))⟩

set_option maxRecDepth 100000 in
theorem lifted (os : Os) (started : os.Started) (H : Type) (enc : TypeId × Value → H) :
    ReturnsInHanded {} Try.checked os 7 .any (Rows.classTableSpec.pre6 enc Try.prog Try.f7 Rows.classTableRow.domain false) (Rows.classTableSpec.post enc Try.prog Try.f7 false true false false) := by
  refine returnsInHanded_of_change (C := Try.checked) own started (by kernel_rfl) Try.func7
    (ChangeSpec.witness6 (enc := enc) (C := Try.checked) false ⟨#[], #[.int .i64 0, .int .i64 0], []⟩ 8 (by kernel_rfl) (by kernel_rfl) (by kernel_rfl) (by kernel_rfl)) ?_
  intro W base args ds gs before hval0 hW hcnd _
  have hval : ∀ (j : Nat) t v, Try.f7.params[j]? = some t → args[j]? = some v → Value.okWide Try.prog W .any base t v := hval0
  have hW' := hW
  obtain ⟨p, q, hA0, hV, rfl, hfz, hnd⟩ := hW
  have hA : DataW.TrodAll enc Try.prog W 0 (fun _ => true) true Try.f7.params.toList args.toList ds p := hA0
  rw [Try.params7] at hA hval
  obtain ⟨v0, vs0, d0, ds0, p0, q0, hargs, rfl, rfl, h0, r0⟩ := trodAll_cons hA
  obtain ⟨v1, vs1, d1, ds1, p1, q1, rfl, rfl, rfl, h1, r1⟩ := trodAll_cons r0
  obtain ⟨rfl, rfl, rfl⟩ := trodAll_nil r1
  obtain rfl : args = #[v0, v1] := by cases args; simp_all
  obtain ⟨rfl, rfl⟩ := trodVars_none hV
  obtain ⟨a0, rfl, rfl, rfl, w0⟩ := open_int Try.underlying3 (hval 0 3 v0 rfl rfl) h0
  obtain ⟨a1, rfl, rfl, rfl, w1⟩ := open_int Try.underlying3 (hval 1 3 v1 rfl rfl) h1
  clear hA0 hval0
  simp only [List.append_nil] at hW'
  refine (walk a0 a1 w0 w1 W).mono fun e W' ⟨he, hg⟩ => ?_
  subst he
  exact ⟨_, rfl, post_of_below (pa := []) (pv := []) hW' (fun _ _ _ => (trodAll_cons_mk (shut_bool Try.underlying4 _) trodAll_mk0)) (fun sp _ => (trodAll_cons_mk (shut_int Try.underlying3 w0) (trodAll_cons_mk (shut_int Try.underlying3 w1) trodAll_mk0))) (fun _ _ => rfl) rfl hg⟩

theorem over : Rows.classTableRow.holds Try.pinned (OpenSpec.ofChange Rows.classTableSpec) :=
  OpenClaim.holds_of_wide 7 Try.f7 rfl rfl rfl rfl rfl rfl rfl ⟨rfl, rfl, rfl, rfl, rfl⟩ rfl rfl rfl rfl rfl (by kernel_rfl) Try.func7 (by kernel_rfl)
    (of_decide_eq_true (by kernel_rfl)) (by unfold Func.isWrapper; first | (rw [if_pos (by decide +kernel)]; kernel_rfl) | (rw [if_neg (by decide +kernel)]; exact ⟨rfl, rfl⟩))
    (fun os started H enc _ => lifted os started H enc)

theorem proved : Rows.ClassTableSaid :=
  over
#print axioms proved
end Go.Proofs.Ytongpnkejakceaa.classTable
