/- For any seven whole numbers the statement PacerOrder answers true and leaves its arguments as they were: a trigger is at most its goal, both within the heap; more that lives, or more percent, never brings a lesser goal; ratios lie within their bounds. No condition. -/
import Derived.Test.YtikpoldmpmmpiaaHome
import Derived.Test.YtikpoldmpmmpiaaPacer
import Derived.WalkKit
import Derived.ProofKit
import Derived.OpenShut
import Derived.Deep.RegionHeld3
import Derived.Deep.RegionWith
import Derived.Deep.Cut
import Derived.Deep.CutBlock
import Derived.Deep.CutRange
import Derived.Deep.DeepCutAuto
import Derived.RegionTactic
namespace Go.Proofs.Ytikpoldmpmmpiaa.pacerOrder
open Go.ChangeShapes Go.WideShapes Go.ChangeAt Go.WideElems Go.RowKit Go.Lib Fx Ho Pa
set_option linter.unusedVariables false

theorem own : ownKnob Try.prog.godebug = none := by kernel_rfl

set_option maxRecDepth 100000 in
set_option maxHeartbeats 4000000 in
theorem walk (a0 : Int) (a1 : Int) (a2 : Int) (a3 : Int) (a4 : Int) (a5 : Int) (a6 : Int) (w : World) (w0 : (Lit.int .i64 a0).wf = true) (w1 : (Lit.int .i64 a1).wf = true) (w2 : (Lit.int .i64 a2).wf = true) (w3 : (Lit.int .i64 a3).wf = true) (w4 : (Lit.int .i64 a4).wf = true) (w5 : (Lit.int .i64 a5).wf = true) (w6 : (Lit.int .i64 a6).wf = true) :
    Calls Try.prog 8 #[.int .i64 a0, .int .i64 a1, .int .i64 a2, .int .i64 a3, .int .i64 a4, .int .i64 a5, .int .i64 a6] w fun e w' => e = .returned (.bool true) ∧ Below w.heap.size w w' := by
  obtain ⟨Y, hY⟩ : ∃ Y : Int, IntKind.u64.wrap a1 = Y := ⟨_, rfl⟩
  have y0 : 0 ≤ Y := by rw [← hY, IntKind.wrap_u64]; omega
  obtain ⟨X, hX⟩ : ∃ X : Int, IntKind.u64.wrap a0 = X := ⟨_, rfl⟩
  have x0 : 0 ≤ X := by rw [← hX, IntKind.wrap_u64]; omega
  obtain ⟨P, hP⟩ : ∃ P : Int, IntKind.u64.wrap a2 = P := ⟨_, rfl⟩
  have p0 : 0 ≤ P := by rw [← hP, IntKind.wrap_u64]; omega
  obtain ⟨M, hM⟩ : ∃ M : Int, IntKind.u64.wrap a3 = M := ⟨_, rfl⟩
  have m0 : 0 ≤ M := by rw [← hM, IntKind.wrap_u64]; omega
  obtain ⟨W, hW⟩ : ∃ W : Int, Y % 16777216 = W := ⟨_, rfl⟩
  have W0 : 0 ≤ W := by omega
  have W1 : W ≤ 16777215 := by omega
  obtain ⟨l, hl⟩ : ∃ l : Int, X % (W + 1) = l := ⟨_, rfl⟩
  have l0 : 0 ≤ l := by rw [← hl]; exact Int.emod_nonneg _ (by omega)
  have l1 : l < W + 1 := by rw [← hl]; exact Int.emod_lt_of_pos _ (by omega)
  obtain ⟨p, hp⟩ : ∃ p : Int, P % 10001 = p := ⟨_, rfl⟩
  obtain ⟨m, hm⟩ : ∃ m : Int, M % 10001 = m := ⟨_, rfl⟩
  have p1 : 0 ≤ p := by omega
  have p2 : p ≤ 10000 := by omega
  have m1 : 0 ≤ m := by omega
  have m2 : m ≤ 10000 := by omega
  have i4 : inI a4 := by have := bounds_i64 w4; unfold inI; omega
  have i5 : inI a5 := by have := bounds_i64 w5; unfold inI; omega
  have i6 : inI a6 := by have := bounds_i64 w6; unfold inI; omega
  obtain ⟨lm, hlm⟩ : ∃ x, min (l + m) W = x := ⟨_, rfl⟩
  obtain ⟨pm, hpm⟩ : ∃ x, min (p + m) 10000 = x := ⟨_, rfl⟩
  have n1 := @run_min2 Try.prog _ _ _ hlm
  have n2 := @run_min2 Try.prog _ _ _ hpm
  have ct := fun w => told_any w
  have ca := fun w => goal_on l W p (by unfold inI; omega) (by unfold inI; omega) (by unfold inI; omega) w
  have cb := fun w => goal_on lm W p (by unfold inI; omega) (by unfold inI; omega) (by unfold inI; omega) w
  have cc := fun w => goal_on l W pm (by unfold inI; omega) (by unfold inI; omega) (by unfold inI; omega) w
  have cr := fun w => ratio_any a4 a5 a6 i4 i5 i6 w
  have eA : allI W = W := cutI_id W0 (by omega)
  have eL : livesI W l = l := cutI_id l0 (by omega)
  have eM : livesI W lm = lm := cutI_id (by omega) (by omega)
  rw [eA, eL] at ca cc
  rw [eA, eM] at cb
  obtain ⟨g1, g2, g3, g4, g5, g6⟩ := goal_bd (all := W) (lives := l) (percent := p) W0 (by omega) l0 (by omega)
  have gm1 := goal_mono (all := W) (l := l) (l' := lm) (p := p) (p' := p) l0 (by omega) (Int.le_refl _)
  have gm2 := goal_mono (all := W) (l := l) (l' := l) (p := p) (p' := pm) l0 (Int.le_refl _) (by omega)
  obtain ⟨r1, r2⟩ := ratio_bd l (trigI l (goalI W l p)) (goalI W l p)
  obtain ⟨r3, r4⟩ := ratio_bd a4 a5 a6
  generalize ratioI l (trigI l (goalI W l p)) (goalI W l p) = R at *
  generalize ratioI a4 a5 a6 = R' at *
  generalize trigI l (goalI W l p) = T at *
  generalize goalI W l p = G at *
  generalize ratioI lm (trigI lm (goalI W lm p)) (goalI W lm p) = Rb at *
  generalize trigI lm (goalI W lm p) = Tb at *
  generalize goalI W lm p = Gb at *
  generalize ratioI l (trigI l (goalI W l pm)) (goalI W l pm) = Rc at *
  generalize trigI l (goalI W l pm) = Tc at *
  generalize goalI W l pm = Gc at *
  clear eA eL eM hlm hpm i4 i5 i6 w0 w1 w2 w3 w4 w5 w6 g3 g6
  go_enter Try.func8, Try.ntmps8
  go_wp2_with fail
  with_reducible refine Calls.mono (ca _) ?_
  rintro e w1 ⟨rfl, hb⟩
  clear ca
  go_wp2_with fail
  with_reducible refine Calls.mono (cb _) ?_
  rintro e w2 ⟨rfl, hb2⟩
  have hx1 := (Box3.new w1 T G R).below hb2
  replace hb := below_then (below_then hb (below_alloc (Below.refl _ _) _)) hb2
  generalize w1.heap.size = B1 at *
  clear hb2 cb
  go_wp2_with fail
  with_reducible refine Calls.mono (cc _) ?_
  rintro e w3 ⟨rfl, hb3⟩
  have hx2 := (Box3.new w2 Tb Gb Rb).below hb3
  replace hx1 := (hx1.below (below_alloc (Below.refl _ _) _)).below hb3
  replace hb := below_then (below_then hb (below_alloc (Below.refl _ _) _)) hb3
  generalize w2.heap.size = B2 at *
  clear hb3 cc
  go_wp2_with fail
  with_reducible refine Calls.mono (cr _) ?_
  rintro e w4 ⟨rfl, hb4⟩
  have hx3 := (Box3.new w3 Tc Gc Rc).below hb4
  replace hx1 := (hx1.below (below_alloc (Below.refl _ _) _)).below hb4
  replace hx2 := (hx2.below (below_alloc (Below.refl _ _) _)).below hb4
  replace hb := below_then (below_then hb (below_alloc (Below.refl _ _) _)) hb4
  generalize w3.heap.size = B3 at *
  clear hb4 cr
  go_wp2_with fail
  with_reducible refine Calls.mono (ct _) ?_
  rintro e w5 ⟨rfl, hb5⟩
  replace hx1 := hx1.below hb5
  replace hx2 := hx2.below hb5
  replace hx3 := hx3.below hb5
  replace hb := below_then hb hb5
  clear hb5
  obtain ⟨h10, h11, h12, -, -, -⟩ := hx1.c0
  obtain ⟨h20, h21, h22, -, -, -⟩ := hx2.c0
  obtain ⟨h30, h31, h32, -, -, -⟩ := hx3.c0
  go_wp2_with fail
  go_ret
  exact ⟨rfl, hb⟩

set_option maxRecDepth 100000 in
theorem lifted (os : Os) (started : os.Started) (H : Type) (enc : TypeId × Value → H) :
    ReturnsInHanded {} Try.checked os 8 .any (Rows.pacerOrderSpec.pre6 enc Try.prog Try.f8 Rows.pacerOrderRow.domain false) (Rows.pacerOrderSpec.post enc Try.prog Try.f8 false true false false) := by
  refine returnsInHanded_of_change (C := Try.checked) own started (by kernel_rfl) Try.func8
    (ChangeSpec.witness6 (enc := enc) (C := Try.checked) false ⟨#[], #[.int .i64 0, .int .i64 0, .int .i64 0, .int .i64 0, .int .i64 0, .int .i64 0, .int .i64 0], []⟩ 8 (by kernel_rfl) (by kernel_rfl) (by kernel_rfl) (by kernel_rfl)) ?_
  intro W base args ds gs before hval0 hW hcnd _
  have hval : ∀ (j : Nat) t v, Try.f8.params[j]? = some t → args[j]? = some v → Value.okWide Try.prog W .any base t v := hval0
  have hW' := hW
  obtain ⟨p, q, hA0, hV, rfl, hfz, hnd⟩ := hW
  have hA : DataW.TrodAll enc Try.prog W 0 (fun _ => true) true Try.f8.params.toList args.toList ds p := hA0
  rw [Try.params8] at hA hval
  obtain ⟨v0, vs0, d0, ds0, p0, q0, hargs, rfl, rfl, h0, r0⟩ := trodAll_cons hA
  obtain ⟨v1, vs1, d1, ds1, p1, q1, rfl, rfl, rfl, h1, r1⟩ := trodAll_cons r0
  obtain ⟨v2, vs2, d2, ds2, p2, q2, rfl, rfl, rfl, h2, r2⟩ := trodAll_cons r1
  obtain ⟨v3, vs3, d3, ds3, p3, q3, rfl, rfl, rfl, h3, r3⟩ := trodAll_cons r2
  obtain ⟨v4, vs4, d4, ds4, p4, q4, rfl, rfl, rfl, h4, r4⟩ := trodAll_cons r3
  obtain ⟨v5, vs5, d5, ds5, p5, q5, rfl, rfl, rfl, h5, r5⟩ := trodAll_cons r4
  obtain ⟨v6, vs6, d6, ds6, p6, q6, rfl, rfl, rfl, h6, r6⟩ := trodAll_cons r5
  obtain ⟨rfl, rfl, rfl⟩ := trodAll_nil r6
  obtain rfl : args = #[v0, v1, v2, v3, v4, v5, v6] := by cases args; simp_all
  obtain ⟨rfl, rfl⟩ := trodVars_none hV
  obtain ⟨a0, rfl, rfl, rfl, w0⟩ := open_int Try.underlying3 (hval 0 3 v0 rfl rfl) h0
  obtain ⟨a1, rfl, rfl, rfl, w1⟩ := open_int Try.underlying3 (hval 1 3 v1 rfl rfl) h1
  obtain ⟨a2, rfl, rfl, rfl, w2⟩ := open_int Try.underlying3 (hval 2 3 v2 rfl rfl) h2
  obtain ⟨a3, rfl, rfl, rfl, w3⟩ := open_int Try.underlying3 (hval 3 3 v3 rfl rfl) h3
  obtain ⟨a4, rfl, rfl, rfl, w4⟩ := open_int Try.underlying2 (hval 4 2 v4 rfl rfl) h4
  obtain ⟨a5, rfl, rfl, rfl, w5⟩ := open_int Try.underlying2 (hval 5 2 v5 rfl rfl) h5
  obtain ⟨a6, rfl, rfl, rfl, w6⟩ := open_int Try.underlying2 (hval 6 2 v6 rfl rfl) h6
  clear hA0 hval0
  simp only [List.append_nil] at hW'
  refine (walk a0 a1 a2 a3 a4 a5 a6 W w0 w1 w2 w3 w4 w5 w6).mono fun e W' ⟨he, hg⟩ => ?_
  subst he
  exact ⟨_, rfl, post_of_kept (pa := _) (pv := []) hW' (fun _ _ _ => (trodAll_cons_mk (shut_bool Try.underlying4 _) trodAll_mk0)) (trodAll_cons_mk (shut_int Try.underlying3 w0) (trodAll_cons_mk (shut_int Try.underlying3 w1) (trodAll_cons_mk (shut_int Try.underlying3 w2) (trodAll_cons_mk (shut_int Try.underlying3 w3) (trodAll_cons_mk (shut_int Try.underlying2 w4) (trodAll_cons_mk (shut_int Try.underlying2 w5) (trodAll_cons_mk (shut_int Try.underlying2 w6) trodAll_mk0))))))) (fun _ _ => rfl) (by simp) hg⟩

theorem over : Rows.pacerOrderRow.holds Try.pinned (OpenSpec.ofChange Rows.pacerOrderSpec) :=
  OpenClaim.holds_of_wide 8 Try.f8 rfl rfl rfl rfl rfl rfl rfl ⟨rfl, rfl, rfl, rfl, rfl⟩ rfl rfl rfl rfl rfl (by kernel_rfl) Try.func8 (by kernel_rfl)
    (of_decide_eq_true (by kernel_rfl)) (by unfold Func.isWrapper; first | (rw [if_pos (by decide +kernel)]; kernel_rfl) | (rw [if_neg (by decide +kernel)]; exact ⟨rfl, rfl⟩))
    (fun os started H enc _ => lifted os started H enc)

theorem proved : Rows.PacerOrderSaid :=
  over
#print axioms proved
end Go.Proofs.Ytikpoldmpmmpiaa.pacerOrder
