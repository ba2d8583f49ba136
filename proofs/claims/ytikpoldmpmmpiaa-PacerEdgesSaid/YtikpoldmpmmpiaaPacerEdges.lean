/- For any whole number the statement PacerEdges answers true and leaves its argument as it was: goals and triggers of an empty heap, of a full one, of a collector that is off, of percents beyond their bounds. No condition. -/
import Derived.Test.YtikpoldmpmmpiaaHome
import Derived.Test.YtikpoldmpmmpiaaPacer
import Derived.WalkKit
import Derived.ProofKit
import Derived.OpenShut
import Derived.Deep.RegionHeld3
import Derived.Deep.RegionWith
import Derived.Deep.Cut
import Derived.Deep.CutBlock
import Derived.Deep.CutRange
import Derived.Deep.DeepCutAuto
import Derived.RegionTactic
namespace Go.Proofs.Ytikpoldmpmmpiaa.pacerEdges
open Go.ChangeShapes Go.WideShapes Go.ChangeAt Go.WideElems Go.RowKit Go.Lib Fx Ho Pa
set_option linter.unusedVariables false

theorem own : ownKnob Try.prog.godebug = none := by kernel_rfl

theorem ratio_full {W G : Int} (h0 : 64 ≤ W) (h1 : W ≤ 16777216) (g0 : 0 ≤ G) (g1 : G ≤ W) : ratioI W G G = 67108864 := by
  unfold ratioI addI subI
  rw [show max W 0 = W by omega, clampI_id (by unfold inI; omega : inI (W + 64)), show G - G = 0 by omega, clampI_id (by unfold inI; omega : inI 0), show max (0 : Int) 1 = 1 by omega, wholeI_id (by unfold inI; omega), wholeI_id (by unfold inI; omega)]
  rw [divI_pos (by omega) (by unfold inI; omega)]
  unfold cutI; omega
theorem goal_full {W : Int} (h0 : 0 ≤ W) (h1 : W ≤ 16777216) : goalI W W 100 = W / 2 * 2 ∧ trigI W (W / 2 * 2) = W / 2 * 2 := by
  have e : cutI 0 10000 100 = 100 := by decide
  unfold goalI trigI grownI
  rw [e]
  unfold cutI; omega
theorem goal_empty {W : Int} (h0 : 0 ≤ W) (h1 : W ≤ 16777216) : goalI W 0 0 = W / 4 ∧ trigI 0 (W / 4) = W / 4 * 3 / 4 := by
  unfold goalI trigI grownI cutI; omega
theorem goal_pct (W L : Int) : goalI W L 20000 = goalI W L 10000 ∧ goalI W L (-7) = goalI W L 0 := by
  have h1 : cutI 0 10000 20000 = cutI 0 10000 10000 := by decide
  have h2 : cutI 0 10000 (-7) = cutI 0 10000 0 := by decide
  unfold goalI grownI
  rw [h1, h2]; exact ⟨rfl, rfl⟩
set_option maxRecDepth 100000 in
set_option maxHeartbeats 4000000 in
theorem walk (a0 : Int) (w : World) (w0 : (Lit.int .i64 a0).wf = true) :
    Calls Try.prog 10 #[.int .i64 a0] w fun e w' => e = .returned (.bool true) ∧ Below w.heap.size w w' := by
  obtain ⟨Y, hY⟩ : ∃ Y : Int, IntKind.u64.wrap a0 = Y := ⟨_, rfl⟩
  have y0 : 0 ≤ Y := by rw [← hY, IntKind.wrap_u64]; omega
  obtain ⟨W, hW⟩ : ∃ W : Int, 64 + Y % 16777153 = W := ⟨_, rfl⟩
  have W0 : 64 ≤ W := by omega
  have W1 : W ≤ 16777216 := by omega
  have ct := fun w => told_any w
  have c1 := fun w => goal_on 0 W 0 (by unfold inI; omega) (by unfold inI; omega) (by unfold inI; omega) w
  have c2 := fun w => goal_on W W 100 (by unfold inI; omega) (by unfold inI; omega) (by unfold inI; omega) w
  have c3 := fun w => goal_on (W + 5) W 20000 (by unfold inI; omega) (by unfold inI; omega) (by unfold inI; omega) w
  have c4 := fun w => goal_off (W / 2) W 100 (by unfold inI; omega) w
  have c5 := fun w => goal_on (W / 3) W (-7) (by unfold inI; omega) (by unfold inI; omega) (by unfold inI; omega) w
  have c6 := fun w => goal_on (W / 3) W 0 (by unfold inI; omega) (by unfold inI; omega) (by unfold inI; omega) w
  have c7 := fun w => goal_on W W 10000 (by unfold inI; omega) (by unfold inI; omega) (by unfold inI; omega) w
  have eA : allI W = W := cutI_id (by omega) (by omega)
  have e0 : livesI W 0 = 0 := cutI_id (by omega) (by omega)
  have eW : livesI W W = W := cutI_id (by omega) (by omega)
  have e5 : livesI W (W + 5) = W := by unfold livesI cutI; omega
  have e3 : livesI W (W / 3) = W / 3 := cutI_id (by omega) (by omega)
  obtain ⟨f1, f1'⟩ := goal_full (W := W) (by omega) W1
  obtain ⟨m1, m2⟩ := goal_empty (W := W) (by omega) W1
  rw [eA, e0, m1, m2] at c1
  rw [eA, eW, f1, f1', ratio_full W0 W1 (by omega) (by omega)] at c2
  rw [eA, e5, (goal_pct W W).1] at c3
  rw [eA] at c4
  rw [eA, e3, (goal_pct W (W / 3)).2] at c5
  rw [eA, e3] at c6
  rw [eA, eW] at c7
  have cb1 := fun w => begin_any W W 0 W w
  have cb2 := fun w => begin_any (W / 2 * 2) (W / 2 * 2) 67108864 W w
  rw [show (decide (W ≤ W) && decide ((0 : Int) < 0)) = false by simp] at cb1
  rw [show (decide (W / 2 * 2 ≤ W) && decide ((0 : Int) < 67108864)) = true by rw [decide_eq_true (by omega)]; rfl] at cb2
  generalize ratioI W (trigI W (goalI W W 10000)) (goalI W W 10000) = Ro at *
  generalize trigI W (goalI W W 10000) = To at *
  generalize goalI W W 10000 = Go at *
  generalize ratioI (W / 3) (trigI (W / 3) (goalI W (W / 3) 0)) (goalI W (W / 3) 0) = Rs at *
  generalize trigI (W / 3) (goalI W (W / 3) 0) = Ts at *
  generalize goalI W (W / 3) 0 = Gs at *
  obtain ⟨q4, hq4⟩ : ∃ q, W / 4 = q := ⟨_, rfl⟩
  obtain ⟨q43, hq43⟩ : ∃ q, q4 * 3 = q := ⟨_, rfl⟩
  obtain ⟨t4, ht4⟩ : ∃ q, q43 / 4 = q := ⟨_, rfl⟩
  obtain ⟨h2, hh2⟩ : ∃ q, W / 2 = q := ⟨_, rfl⟩
  obtain ⟨f2, hf2⟩ : ∃ q, h2 * 2 = q := ⟨_, rfl⟩
  rw [hq4, hq43, ht4] at c1
  rw [hh2, hf2] at c2 cb2
  have E1 : Hid (IntKind.i64.wrap (W.tdiv 4) = q4) := by show _ = _; rw [Int.tdiv_eq_ediv_of_nonneg (by omega), hq4]; exact IntWalk.i64_in _ ⟨by omega, by omega⟩
  have E2 : Hid (IntKind.i64.wrap (q4 * 3) = q43) := by show _ = _; rw [hq43]; exact IntWalk.i64_in _ ⟨by omega, by omega⟩
  have E3 : Hid (IntKind.i64.wrap (q43.tdiv 4) = t4) := by show _ = _; rw [Int.tdiv_eq_ediv_of_nonneg (by omega), ht4]; exact IntWalk.i64_in _ ⟨by omega, by omega⟩
  have E4 : Hid (IntKind.i64.wrap (W.tdiv 2) = h2) := by show _ = _; rw [Int.tdiv_eq_ediv_of_nonneg (by omega), hh2]; exact IntWalk.i64_in _ ⟨by omega, by omega⟩
  have E5 : Hid (IntKind.i64.wrap (h2 * 2) = f2) := by show _ = _; rw [hf2]; exact IntWalk.i64_in _ ⟨by omega, by omega⟩
  generalize ratioI 0 t4 q4 = Rn at *
  clear eA e0 eW e5 e3 f1 f1' m1 m2 w0 hq4 hq43 ht4 hh2 hf2
  go_enter Try.func10, Try.ntmps10
  go_wp2_with fail
  with_reducible refine Calls.mono (c1 _) ?_
  rintro e w1 ⟨rfl, hb⟩
  clear c1
  go_wp2_with fail
  with_reducible refine Calls.mono (c2 _) ?_
  rintro e w2 ⟨rfl, hb2⟩
  have hx1 := (Box3.new w1 t4 q4 Rn).below hb2
  replace hb := below_then (below_then hb (below_alloc (Below.refl _ _) _)) hb2
  generalize w1.heap.size = B1 at *
  clear hb2 c2
  go_wp2_with fail
  with_reducible refine Calls.mono (c3 _) ?_
  rintro e w3 ⟨rfl, hb3⟩
  have hx2 := (Box3.new w2 f2 f2 67108864).below hb3
  replace hx1 := (hx1.below (below_alloc (Below.refl _ _) _)).below hb3
  replace hb := below_then (below_then hb (below_alloc (Below.refl _ _) _)) hb3
  generalize w2.heap.size = B2 at *
  clear hb3 c3
  go_wp2_with fail
  with_reducible refine Calls.mono (c4 _) ?_
  rintro e w4 ⟨rfl, hb4⟩
  have hx3 := (Box3.new w3 To Go Ro).below hb4
  replace hx1 := (hx1.below (below_alloc (Below.refl _ _) _)).below hb4
  replace hx2 := (hx2.below (below_alloc (Below.refl _ _) _)).below hb4
  replace hb := below_then (below_then hb (below_alloc (Below.refl _ _) _)) hb4
  generalize w3.heap.size = B3 at *
  clear hb4 c4
  go_wp2_with fail
  with_reducible refine Calls.mono (c5 _) ?_
  rintro e w5 ⟨rfl, hb5⟩
  have hx4 := (Box3.new w4 W W 0).below hb5
  replace hx1 := (hx1.below (below_alloc (Below.refl _ _) _)).below hb5
  replace hx2 := (hx2.below (below_alloc (Below.refl _ _) _)).below hb5
  replace hx3 := (hx3.below (below_alloc (Below.refl _ _) _)).below hb5
  replace hb := below_then (below_then hb (below_alloc (Below.refl _ _) _)) hb5
  generalize w4.heap.size = B4 at *
  clear hb5 c5
  go_wp2_with fail
  with_reducible refine Calls.mono (c6 _) ?_
  rintro e w6 ⟨rfl, hb6⟩
  have hx5 := (Box3.new w5 Ts Gs Rs).below hb6
  replace hx1 := (hx1.below (below_alloc (Below.refl _ _) _)).below hb6
  replace hx2 := (hx2.below (below_alloc (Below.refl _ _) _)).below hb6
  replace hx3 := (hx3.below (below_alloc (Below.refl _ _) _)).below hb6
  replace hx4 := (hx4.below (below_alloc (Below.refl _ _) _)).below hb6
  replace hb := below_then (below_then hb (below_alloc (Below.refl _ _) _)) hb6
  generalize w5.heap.size = B5 at *
  clear hb6 c6
  go_wp2_with fail
  have hx6 := Box3.new w6 Ts Gs Rs
  replace hx1 := hx1.below (below_alloc (Below.refl _ _) (.cells #[.int .i64 Ts, .int .i64 Gs, .int .i64 Rs] 35))
  replace hx2 := hx2.below (below_alloc (Below.refl _ _) (.cells #[.int .i64 Ts, .int .i64 Gs, .int .i64 Rs] 35))
  replace hx3 := hx3.below (below_alloc (Below.refl _ _) (.cells #[.int .i64 Ts, .int .i64 Gs, .int .i64 Rs] 35))
  replace hx4 := hx4.below (below_alloc (Below.refl _ _) (.cells #[.int .i64 Ts, .int .i64 Gs, .int .i64 Rs] 35))
  replace hx5 := hx5.below (below_alloc (Below.refl _ _) (.cells #[.int .i64 Ts, .int .i64 Gs, .int .i64 Rs] 35))
  replace hb := below_then hb (below_alloc (Below.refl _ _) (.cells #[.int .i64 Ts, .int .i64 Gs, .int .i64 Rs] 35))
  generalize w6.heap.size = B6 at *
  generalize w6.alloc (.cells #[.int .i64 Ts, .int .i64 Gs, .int .i64 Rs] 35) = w7 at *
  obtain ⟨h10, h11, -, -, -, -⟩ := hx1.c0
  obtain ⟨h20, h21, h22, -, -, -⟩ := hx2.c0
  obtain ⟨h30, h31, h32, -, -, -⟩ := hx3.c0
  obtain ⟨h40, h41, h42, -, -, -⟩ := hx4.c0
  obtain ⟨h50, h51, h52, -, -, -⟩ := hx5.c0
  obtain ⟨h60, h61, h62, -, -, -⟩ := hx6.c0
  have hb0 : Below w7.heap.size w7 w7 := Below.refl _ _
  clear hx1 hx2 hx3 hx4 hx5 hx6
  have e1 := E1.out
  have e2 := E2.out
  have e3 := E3.out
  have e4 := E4.out
  have e5 := E5.out
  dsimp only [List.append]
  go_region_held3 (fun W' => Below w7.heap.size w7 W' ∧ W'.cell? ⟨B1, 0, none⟩ = some (.int .i64 (t4)) ∧ W'.cell? ⟨B1, 1, none⟩ = some (.int .i64 (q4)) ∧ W'.cell? ⟨B2, 0, none⟩ = some (.int .i64 (f2)) ∧ W'.cell? ⟨B2, 1, none⟩ = some (.int .i64 (f2)) ∧ W'.cell? ⟨B2, 2, none⟩ = some (.int .i64 (67108864)) ∧ W'.cell? ⟨B3, 0, none⟩ = some (.int .i64 (To)) ∧ W'.cell? ⟨B3, 1, none⟩ = some (.int .i64 (Go)) ∧ W'.cell? ⟨B3, 2, none⟩ = some (.int .i64 (Ro)) ∧ W'.cell? ⟨B4, 0, none⟩ = some (.int .i64 (W)) ∧ W'.cell? ⟨B4, 1, none⟩ = some (.int .i64 (W)) ∧ W'.cell? ⟨B4, 2, none⟩ = some (.int .i64 (0)) ∧ W'.cell? ⟨B5, 0, none⟩ = some (.int .i64 (Ts)) ∧ W'.cell? ⟨B5, 1, none⟩ = some (.int .i64 (Gs)) ∧ W'.cell? ⟨B5, 2, none⟩ = some (.int .i64 (Rs)) ∧ W'.cell? ⟨B6, 0, none⟩ = some (.int .i64 (Ts)) ∧ W'.cell? ⟨B6, 1, none⟩ = some (.int .i64 (Gs)) ∧ W'.cell? ⟨B6, 2, none⟩ = some (.int .i64 (Rs))) (first | exact ⟨hb0.drew, h10, h11, h20, h21, h22, h30, h31, h32, h40, h41, h42, h50, h51, h52, h60, h61, h62⟩ | go_keep | (go_split_ands; exact ⟨below_then (by assumption) (by assumption), cell_then (by assumption) (by assumption), cell_then (by assumption) (by assumption), cell_then (by assumption) (by assumption), cell_then (by assumption) (by assumption), cell_then (by assumption) (by assumption), cell_then (by assumption) (by assumption), cell_then (by assumption) (by assumption), cell_then (by assumption) (by assumption), cell_then (by assumption) (by assumption), cell_then (by assumption) (by assumption), cell_then (by assumption) (by assumption), cell_then (by assumption) (by assumption), cell_then (by assumption) (by assumption), cell_then (by assumption) (by assumption), cell_then (by assumption) (by assumption), cell_then (by assumption) (by assumption), cell_then (by assumption) (by assumption)⟩)) (first | (go_at_call 24; ((with_reducible refine (ct _).mono ?_); rintro e wA ⟨rfl, hbA⟩)) | (go_at_call 22; ((with_reducible refine (c7 _).mono ?_); rintro e wB ⟨rfl, hbB⟩)) | (go_at_call 28; ((with_reducible refine (cb1 _).mono ?_); rintro e wC ⟨rfl, hbC⟩)) | (go_at_call 28; ((with_reducible refine (cb2 _).mono ?_); rintro e wD ⟨rfl, hbD⟩)))
  go_wp2_with fail
  go_ret
  exact ⟨rfl, below_then (below_then (below_then (below_then hb.drew hbA) hbB) hbC) hbD⟩

set_option maxRecDepth 100000 in
theorem lifted (os : Os) (started : os.Started) (H : Type) (enc : TypeId × Value → H) :
    ReturnsInHanded {} Try.checked os 10 .any (Rows.pacerEdgesSpec.pre6 enc Try.prog Try.f10 Rows.pacerEdgesRow.domain false) (Rows.pacerEdgesSpec.post enc Try.prog Try.f10 false true false false) := by
  refine returnsInHanded_of_change (C := Try.checked) own started (by kernel_rfl) Try.func10
    (ChangeSpec.witness6 (enc := enc) (C := Try.checked) false ⟨#[], #[.int .i64 0], []⟩ 8 (by kernel_rfl) (by kernel_rfl) (by kernel_rfl) (by kernel_rfl)) ?_
  intro W base args ds gs before hval0 hW hcnd _
  have hval : ∀ (j : Nat) t v, Try.f10.params[j]? = some t → args[j]? = some v → Value.okWide Try.prog W .any base t v := hval0
  have hW' := hW
  obtain ⟨p, q, hA0, hV, rfl, hfz, hnd⟩ := hW
  have hA : DataW.TrodAll enc Try.prog W 0 (fun _ => true) true Try.f10.params.toList args.toList ds p := hA0
  rw [Try.params10] at hA hval
  obtain ⟨v0, vs0, d0, ds0, p0, q0, hargs, rfl, rfl, h0, r0⟩ := trodAll_cons hA
  obtain ⟨rfl, rfl, rfl⟩ := trodAll_nil r0
  obtain rfl : args = #[v0] := by cases args; simp_all
  obtain ⟨rfl, rfl⟩ := trodVars_none hV
  obtain ⟨a0, rfl, rfl, rfl, w0⟩ := open_int Try.underlying3 (hval 0 3 v0 rfl rfl) h0
  clear hA0 hval0
  simp only [List.append_nil] at hW'
  refine (walk a0 W w0).mono fun e W' ⟨he, hg⟩ => ?_
  subst he
  exact ⟨_, rfl, post_of_kept (pa := _) (pv := []) hW' (fun _ _ _ => (trodAll_cons_mk (shut_bool Try.underlying4 _) trodAll_mk0)) (trodAll_cons_mk (shut_int Try.underlying3 w0) trodAll_mk0) (fun _ _ => rfl) (by simp) hg⟩

theorem over : Rows.pacerEdgesRow.holds Try.pinned (OpenSpec.ofChange Rows.pacerEdgesSpec) :=
  OpenClaim.holds_of_wide 10 Try.f10 rfl rfl rfl rfl rfl rfl rfl ⟨rfl, rfl, rfl, rfl, rfl⟩ rfl rfl rfl rfl rfl (by kernel_rfl) Try.func10 (by kernel_rfl)
    (of_decide_eq_true (by kernel_rfl)) (by unfold Func.isWrapper; first | (rw [if_pos (by decide +kernel)]; kernel_rfl) | (rw [if_neg (by decide +kernel)]; exact ⟨rfl, rfl⟩))
    (fun os started H enc _ => lifted os started H enc)

theorem proved : Rows.PacerEdgesSaid :=
  over
#print axioms proved
end Go.Proofs.Ytikpoldmpmmpiaa.pacerEdges
