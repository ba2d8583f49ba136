/- For any two whole numbers the statement StateMay answers true and leaves its arguments as they were: the moves that May tells are the document's, the dead stay dead, only who runs comes to wait, nobody moves to the state that they are in. No condition. -/
import Derived.Test.YteigcjgohhgjcaaStatesMore
import Derived.WalkKit
import Derived.ProofKit
import Derived.OpenShut
namespace Go.Proofs.Yteigcjgohhgjcaa.stateMay
open Go.ChangeShapes Go.WideShapes Go.ChangeAt Go.WideElems Go.RowKit Go.Lib Fx Ho St
set_option linter.unusedVariables false

theorem own : ownKnob Try.prog.godebug = none := by kernel_rfl

theorem dead_stay (t : Int) : mayB 5 t = false := by unfold mayB; simp
theorem no_same (f : Int) : mayB f f = false := by
  cases hm : mayB f f with
  | false => rfl
  | true => have := may_cases hm; omega
theorem wait_runs (f : Int) (h : f ≠ 2) : mayB f 3 = false := by
  cases hm : mayB f 3 with
  | false => rfl
  | true => have := may_cases hm; omega
set_option maxRecDepth 100000 in
set_option maxHeartbeats 4000000 in
theorem walk (a0 : Int) (a1 : Int) (w : World) (w0 : (Lit.int .i64 a0).wf = true) (w1 : (Lit.int .i64 a1).wf = true) :
    Calls Try.prog 12 #[.int .i64 a0, .int .i64 a1] w fun e w' => e = .returned (.bool true) ∧ Below w.heap.size w w' := by
  have ct := told_any w
  obtain ⟨f, hf⟩ : ∃ f : Int, a0.tmod 7 = f := ⟨_, rfl⟩
  obtain ⟨t, ht⟩ : ∃ t : Int, a1.tmod 7 = t := ⟨_, rfl⟩
  have cm := fun w => may_any a0 a1 w
  have cr := fun w => refmay_any a0 a1 w
  have cm2 := fun w => may_any f t w
  have cr2 := fun w => refmay_any f t w
  have cd := fun w => may_any 5 t w
  have cw := fun w => may_any f 3 w
  have cs := fun w => may_any f f w
  rw [dead_stay t] at cd
  rw [no_same f] at cs
  have hb3 : ∃ b3, mayB f 3 = b3 ∧ (b3 = false ∨ (f == 2) = true) := by
    by_cases h : f = 2
    · exact ⟨_, rfl, Or.inr (by rw [h]; rfl)⟩
    · exact ⟨_, rfl, Or.inl (wait_runs f h)⟩
  obtain ⟨b3, hb3, hq⟩ := hb3
  rw [hb3] at cw
  clear hb3
  generalize mayB a0 a1 = b1 at *
  generalize mayB f t = b2 at *
  rcases (show b3 = false ∨ (b3 = true ∧ (f == 2) = true) by cases b3 <;> simp at hq ⊢; exact hq) with rfl | ⟨rfl, hq2⟩
  all_goals
    clear hq
    go_enter Try.func12, Try.ntmps12
    go_wp2_with fail
    with_reducible refine Calls.mono (ct) ?_
    rintro e w1 ⟨rfl, hb1⟩
    go_wp2_with fail
    with_reducible refine Calls.mono (cm _) ?_
    rintro e w2 ⟨rfl, hb2⟩
    go_wp2_with fail
    with_reducible refine Calls.mono (cr _) ?_
    rintro e w3 ⟨rfl, rfl⟩
    go_wp2_with fail
    with_reducible refine Calls.mono (cm2 _) ?_
    rintro e w4 ⟨rfl, hb4⟩
    go_wp2_with fail
    with_reducible refine Calls.mono (cr2 _) ?_
    rintro e w5 ⟨rfl, rfl⟩
    go_wp2_with fail
    with_reducible refine Calls.mono (cd _) ?_
    rintro e w6 ⟨rfl, hb6⟩
    go_wp2_with fail
    with_reducible refine Calls.mono (cw _) ?_
    rintro e w7 ⟨rfl, hb7⟩
    go_wp2_with fail
    with_reducible refine Calls.mono (cs _) ?_
    rintro e w8 ⟨rfl, hb8⟩
    go_wp2_with fail
    go_ret
    exact ⟨rfl, below_then hb1 (below_then hb2 (below_then hb4 (below_then hb6 (below_then hb7 hb8))))⟩

set_option maxRecDepth 100000 in
theorem lifted (os : Os) (started : os.Started) (H : Type) (enc : TypeId × Value → H) :
    ReturnsInHanded {} Try.checked os 12 .any (Rows.stateMaySpec.pre6 enc Try.prog Try.f12 Rows.stateMayRow.domain false) (Rows.stateMaySpec.post enc Try.prog Try.f12 false true false false) := by
  refine returnsInHanded_of_change (C := Try.checked) own started (by kernel_rfl) Try.func12
    (ChangeSpec.witness6 (enc := enc) (C := Try.checked) false ⟨#[], #[.int .i64 0, .int .i64 0], []⟩ 8 (by kernel_rfl) (by kernel_rfl) (by kernel_rfl) (by kernel_rfl)) ?_
  intro W base args ds gs before hval0 hW hcnd _
  have hval : ∀ (j : Nat) t v, Try.f12.params[j]? = some t → args[j]? = some v → Value.okWide Try.prog W .any base t v := hval0
  have hW' := hW
  obtain ⟨p, q, hA0, hV, rfl, hfz, hnd⟩ := hW
  have hA : DataW.TrodAll enc Try.prog W 0 (fun _ => true) true Try.f12.params.toList args.toList ds p := hA0
  rw [Try.params12] at hA hval
  obtain ⟨v0, vs0, d0, ds0, p0, q0, hargs, rfl, rfl, h0, r0⟩ := trodAll_cons hA
  obtain ⟨v1, vs1, d1, ds1, p1, q1, rfl, rfl, rfl, h1, r1⟩ := trodAll_cons r0
  obtain ⟨rfl, rfl, rfl⟩ := trodAll_nil r1
  obtain rfl : args = #[v0, v1] := by cases args; simp_all
  obtain ⟨rfl, rfl⟩ := trodVars_none hV
  obtain ⟨a0, rfl, rfl, rfl, w0⟩ := open_int Try.underlying3 (hval 0 3 v0 rfl rfl) h0
  obtain ⟨a1, rfl, rfl, rfl, w1⟩ := open_int Try.underlying3 (hval 1 3 v1 rfl rfl) h1
  clear hA0 hval0
  simp only [List.append_nil] at hW'
  refine (walk a0 a1 W w0 w1).mono fun e W' ⟨he, hg⟩ => ?_
  subst he
  exact ⟨_, rfl, post_of_kept (pa := _) (pv := []) hW' (fun _ _ _ => (trodAll_cons_mk (shut_bool Try.underlying4 _) trodAll_mk0)) (trodAll_cons_mk (shut_int Try.underlying3 w0) (trodAll_cons_mk (shut_int Try.underlying3 w1) trodAll_mk0)) (fun _ _ => rfl) (by simp) hg⟩

theorem over : Rows.stateMayRow.holds Try.pinned (OpenSpec.ofChange Rows.stateMaySpec) :=
  OpenClaim.holds_of_wide 12 Try.f12 rfl rfl rfl rfl rfl rfl rfl ⟨rfl, rfl, rfl, rfl, rfl⟩ rfl rfl rfl rfl rfl (by kernel_rfl) Try.func12 (by kernel_rfl)
    (of_decide_eq_true (by kernel_rfl)) (by unfold Func.isWrapper; first | (rw [if_pos (by decide +kernel)]; kernel_rfl) | (rw [if_neg (by decide +kernel)]; exact ⟨rfl, rfl⟩))
    (fun os started H enc _ => lifted os started H enc)

theorem proved : Rows.StateMaySaid :=
  over
#print axioms proved
end Go.Proofs.Yteigcjgohhgjcaa.stateMay
