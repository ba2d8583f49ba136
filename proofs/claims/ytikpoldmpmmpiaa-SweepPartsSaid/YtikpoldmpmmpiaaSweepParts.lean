/- For any five whole numbers the statement SweepParts answers true and leaves its arguments as they were: what is needed never falls as more is allocated, is never more than what is left, and with nothing allocated is nothing. No condition. -/
import Derived.Test.YtikpoldmpmmpiaaHome
import Derived.Test.YtikpoldmpmmpiaaSweepK
import Derived.WalkKit
import Derived.ProofKit
import Derived.OpenShut
import Derived.Deep.RegionHeld3
import Derived.Deep.RegionWith
import Derived.Deep.Cut
import Derived.Deep.CutBlock
import Derived.Deep.CutRange
import Derived.Deep.DeepCutAuto
import Derived.RegionTactic
namespace Go.Proofs.Ytikpoldmpmmpiaa.sweepParts
open Go.ChangeShapes Go.WideShapes Go.ChangeAt Go.WideElems Go.RowKit Go.Lib Fx Ho Sk
set_option linter.unusedVariables false

theorem own : ownKnob Try.prog.godebug = none := by kernel_rfl

theorem even_mid {n v : Int} (n0 : 0 ≤ n) (n1 : n ≤ 1048576) (v0 : 1 ≤ v) (v1 : v ≤ 1048576) : evenI n 50 (50 + v) = divI (wholeI n) (wholeI v) := by
  unfold evenI
  rw [sw31_id (by omega : 0 ≤ 50 + v) (by omega), sw31_id n0 (by omega), show sw31 50 = 50 from rfl, if_neg (by omega), show 50 + v - 50 = v by omega]
set_option maxRecDepth 100000 in
set_option maxHeartbeats 4000000 in
theorem walk (a0 : Int) (a1 : Int) (a2 : Int) (a3 : Int) (a4 : Int) (w : World) (w0 : (Lit.int .i64 a0).wf = true) (w1 : (Lit.int .i64 a1).wf = true) (w2 : (Lit.int .i64 a2).wf = true) (w3 : (Lit.int .i64 a3).wf = true) (w4 : (Lit.int .i64 a4).wf = true) :
    Calls Try.prog 12 #[.int .i64 a0, .int .i64 a1, .int .i64 a2, .int .i64 a3, .int .i64 a4] w fun e w' => e = .returned (.bool true) ∧ Below w.heap.size w w' := by
  obtain ⟨X, hX⟩ : ∃ X : Int, IntKind.u64.wrap a0 = X := ⟨_, rfl⟩
  have x0 : 0 ≤ X := by rw [← hX, IntKind.wrap_u64]; omega
  obtain ⟨S, hS⟩ : ∃ S : Int, IntKind.u64.wrap a1 = S := ⟨_, rfl⟩
  have s0 : 0 ≤ S := by rw [← hS, IntKind.wrap_u64]; omega
  obtain ⟨Y, hY⟩ : ∃ Y : Int, IntKind.u64.wrap a2 = Y := ⟨_, rfl⟩
  have y0 : 0 ≤ Y := by rw [← hY, IntKind.wrap_u64]; omega
  obtain ⟨A, hA⟩ : ∃ A : Int, IntKind.u64.wrap a3 = A := ⟨_, rfl⟩
  have A0 : 0 ≤ A := by rw [← hA, IntKind.wrap_u64]; omega
  obtain ⟨B, hB⟩ : ∃ B : Int, IntKind.u64.wrap a4 = B := ⟨_, rfl⟩
  have B0 : 0 ≤ B := by rw [← hB, IntKind.wrap_u64]; omega
  obtain ⟨n, hn⟩ : ∃ n : Int, X % 1048576 = n := ⟨_, rfl⟩
  obtain ⟨v, hv⟩ : ∃ v : Int, 1 + Y % 1048576 = v := ⟨_, rfl⟩
  have n0 : 0 ≤ n := by omega
  have n1 : n ≤ 1048575 := by omega
  have v0 : 1 ≤ v := by omega
  have v1 : v ≤ 1048576 := by omega
  obtain ⟨d, hd⟩ : ∃ d : Int, S % (n + 1) = d := ⟨_, rfl⟩
  have d0 : 0 ≤ d := by rw [← hd]; exact Int.emod_nonneg _ (by omega)
  have d1 : d < n + 1 := by rw [← hd]; exact Int.emod_lt_of_pos _ (by omega)
  obtain ⟨x, hx⟩ : ∃ x : Int, A % (v + 1) = x := ⟨_, rfl⟩
  have q0 : 0 ≤ x := by rw [← hx]; exact Int.emod_nonneg _ (by omega)
  have q1 : x < v + 1 := by rw [← hx]; exact Int.emod_lt_of_pos _ (by omega)
  obtain ⟨y, hy⟩ : ∃ y : Int, B % (v + 1) = y := ⟨_, rfl⟩
  have p0 : 0 ≤ y := by rw [← hy]; exact Int.emod_nonneg _ (by omega)
  have p1 : y < v + 1 := by rw [← hy]; exact Int.emod_lt_of_pos _ (by omega)
  have ct := fun w => told_any w
  obtain ⟨lo, hi, l1, l2, l3, hcase⟩ : ∃ lo hi : Int, 0 ≤ lo ∧ lo ≤ hi ∧ hi ≤ v ∧ ((y < x ∧ lo = y ∧ hi = x) ∨ (¬ y < x ∧ lo = x ∧ hi = y)) := by
    by_cases g : y < x
    · exact ⟨y, x, p0, by omega, by omega, Or.inl ⟨g, rfl, rfl⟩⟩
    · exact ⟨x, y, q0, by omega, by omega, Or.inr ⟨g, rfl, rfl⟩⟩
  obtain ⟨e1, e2, e3, e4, e5, e6, e7⟩ := need_parts n0 (by omega) d0 (by omega : d ≤ n) l1 l2 l3 v0 v1
  have c1 := fun w => need_any n d 50 (50 + lo) (50 + v) w
  have c2 := fun w => need_any n d 50 (50 + hi) (50 + v) w
  have c3 := fun w => need_any n d 50 50 (50 + v) w
  have c4 := fun w => need_any n 0 50 (50 + v) (50 + v) w
  have c5 := fun w => need_any n n 50 (50 + hi) (50 + v) w
  have c6 := fun w => even_any n 50 (50 + v) w
  rw [e4] at c3
  rw [e5] at c4
  rw [e6] at c5
  rw [even_mid n0 (by omega) v0 v1] at c6
  have c7 := fun w => whole_any n (by unfold inI; omega) w
  have c8 := fun w => whole_any v (by unfold inI; omega) w
  have i7 := wholeI_in n
  have i8 := wholeI_in v
  generalize wholeI n = N at *
  generalize wholeI v = V at *
  have c9 := fun w => div_any N V i7 i8 w
  generalize divI N V = Q at *
  generalize needI n d 50 (50 + lo) (50 + v) = P1 at *
  generalize needI n d 50 (50 + hi) (50 + v) = P2 at *
  have k0 : 0 ≤ n * hi := Int.mul_nonneg n0 (by omega)
  have k1 : n * hi ≤ 1048576 * 1048576 := Int.mul_le_mul (by omega) (by omega) (by omega) (by omega)
  have k2 : 0 ≤ (d + P2) * v := Int.mul_nonneg (by omega) (by omega)
  have k3 : (d + P2) * v ≤ 1048576 * 1048576 := Int.mul_le_mul (by omega) (by omega) (by omega) (by omega)
  obtain ⟨nh, hnh⟩ : ∃ x, n * hi = x := ⟨_, rfl⟩
  obtain ⟨dv, hdv⟩ : ∃ x, (d + P2) * v = x := ⟨_, rfl⟩
  rw [hnh] at k0 k1 e7
  rw [hdv] at k2 k3 e7
  have r1 : wrap64 (n * hi) = nh := by rw [hnh]; exact IntWalk.wrap64_in _ ⟨by omega, by omega⟩
  have r2 : wrap64 ((d + P2) * v) = dv := by rw [hdv]; exact IntWalk.wrap64_in _ ⟨by omega, by omega⟩
  have f1 : IntKind.i64.wrap (v + 1) = v + 1 := IntWalk.i64_in _ ⟨by omega, by omega⟩
  have f2 : IntKind.u64.wrap (v + 1) = v + 1 := by rw [IntKind.wrap_u64]; omega
  have f3 : A.tmod (v + 1) = x := by rw [Int.tmod_eq_emod_of_nonneg A0, hx]
  have f4 : B.tmod (v + 1) = y := by rw [Int.tmod_eq_emod_of_nonneg B0, hy]
  have f5 : IntKind.i64.wrap x = x := IntWalk.i64_in _ ⟨by omega, by omega⟩
  have f6 : IntKind.i64.wrap y = y := IntWalk.i64_in _ ⟨by omega, by omega⟩
  have f7 : ¬ v + 1 = 0 := by omega
  have hw : ∀ z : Int, 0 ≤ z → z ≤ 1048576 → IntKind.u64.wrap z = z := fun z h h' => by rw [IntKind.wrap_u64]; omega
  have f8 := hw x q0 (by omega)
  have f9 := hw y p0 (by omega)
  have hn1 : IntKind.u64.wrap (n + 1) = n + 1 := by rw [IntKind.wrap_u64]; omega
  clear hw e4 e5 e6 hnh hdv i7 i8 w0 w1 w2 w3 w4
  rcases hcase with ⟨g, rfl, rfl⟩ | ⟨g, rfl, rfl⟩
  all_goals
    go_enter Try.func12, Try.ntmps12
    go_wp2_with fail
    go_quiet (fail)
    clear f1 f2 f3 f4 f5 f6 f7 f8 f9 hx hy hX hY hS hA hB hn hv hd
    go_wp2_with fail
    have hb0 : Below w.heap.size w (w.drewN nq) := below_drewN (Below.refl _ _) nq
    generalize w.drewN nq = w0 at *
    with_reducible refine Calls.mono (c1 _) ?_
    rintro e w1 ⟨rfl, hb1⟩
    go_wp2_with fail
    with_reducible refine Calls.mono (c2 _) ?_
    rintro e w2 ⟨rfl, hb2⟩
    go_wp2_with fail
    with_reducible refine Calls.mono (ct _) ?_
    rintro e w3 ⟨rfl, hb3⟩
    go_wp2_with fail
    with_reducible refine Calls.mono (c3 _) ?_
    rintro e w4 ⟨rfl, hb4⟩
    go_wp2_with fail
    with_reducible refine Calls.mono (c4 _) ?_
    rintro e w5 ⟨rfl, hb5⟩
    go_wp2_with fail
    with_reducible refine Calls.mono (c5 _) ?_
    rintro e w6 ⟨rfl, hb6⟩
    go_wp2_with fail
    with_reducible refine Calls.mono (c6 _) ?_
    rintro e w7 ⟨rfl, hb7⟩
    go_wp2_with fail
    with_reducible refine Calls.mono (c7 _) ?_
    rintro e w8 ⟨rfl, k8, rfl⟩
    go_wp2_with fail
    with_reducible refine Calls.mono (c8 _) ?_
    rintro e w9 ⟨rfl, k9, rfl⟩
    go_wp2_with fail
    with_reducible refine Calls.mono (c9 _) ?_
    rintro e w10 ⟨rfl, k10, rfl⟩
    go_wp2_with fail
    go_ret
    exact ⟨rfl, (by repeat (first | assumption | exact Below.refl _ _ | refine below_drewN ?_ _ | refine below_alloc ?_ _ | refine below_then ?_ (by assumption)))⟩

set_option maxRecDepth 100000 in
theorem lifted (os : Os) (started : os.Started) (H : Type) (enc : TypeId × Value → H) :
    ReturnsInHanded {} Try.checked os 12 .any (Rows.sweepPartsSpec.pre6 enc Try.prog Try.f12 Rows.sweepPartsRow.domain false) (Rows.sweepPartsSpec.post enc Try.prog Try.f12 false true false false) := by
  refine returnsInHanded_of_change (C := Try.checked) own started (by kernel_rfl) Try.func12
    (ChangeSpec.witness6 (enc := enc) (C := Try.checked) false ⟨#[], #[.int .i64 0, .int .i64 0, .int .i64 0, .int .i64 0, .int .i64 0], []⟩ 8 (by kernel_rfl) (by kernel_rfl) (by kernel_rfl) (by kernel_rfl)) ?_
  intro W base args ds gs before hval0 hW hcnd _
  have hval : ∀ (j : Nat) t v, Try.f12.params[j]? = some t → args[j]? = some v → Value.okWide Try.prog W .any base t v := hval0
  have hW' := hW
  obtain ⟨p, q, hA0, hV, rfl, hfz, hnd⟩ := hW
  have hA : DataW.TrodAll enc Try.prog W 0 (fun _ => true) true Try.f12.params.toList args.toList ds p := hA0
  rw [Try.params12] at hA hval
  obtain ⟨v0, vs0, d0, ds0, p0, q0, hargs, rfl, rfl, h0, r0⟩ := trodAll_cons hA
  obtain ⟨v1, vs1, d1, ds1, p1, q1, rfl, rfl, rfl, h1, r1⟩ := trodAll_cons r0
  obtain ⟨v2, vs2, d2, ds2, p2, q2, rfl, rfl, rfl, h2, r2⟩ := trodAll_cons r1
  obtain ⟨v3, vs3, d3, ds3, p3, q3, rfl, rfl, rfl, h3, r3⟩ := trodAll_cons r2
  obtain ⟨v4, vs4, d4, ds4, p4, q4, rfl, rfl, rfl, h4, r4⟩ := trodAll_cons r3
  obtain ⟨rfl, rfl, rfl⟩ := trodAll_nil r4
  obtain rfl : args = #[v0, v1, v2, v3, v4] := by cases args; simp_all
  obtain ⟨rfl, rfl⟩ := trodVars_none hV
  obtain ⟨a0, rfl, rfl, rfl, w0⟩ := open_int Try.underlying3 (hval 0 3 v0 rfl rfl) h0
  obtain ⟨a1, rfl, rfl, rfl, w1⟩ := open_int Try.underlying3 (hval 1 3 v1 rfl rfl) h1
  obtain ⟨a2, rfl, rfl, rfl, w2⟩ := open_int Try.underlying3 (hval 2 3 v2 rfl rfl) h2
  obtain ⟨a3, rfl, rfl, rfl, w3⟩ := open_int Try.underlying3 (hval 3 3 v3 rfl rfl) h3
  obtain ⟨a4, rfl, rfl, rfl, w4⟩ := open_int Try.underlying3 (hval 4 3 v4 rfl rfl) h4
  clear hA0 hval0
  simp only [List.append_nil] at hW'
  refine (walk a0 a1 a2 a3 a4 W w0 w1 w2 w3 w4).mono fun e W' ⟨he, hg⟩ => ?_
  subst he
  exact ⟨_, rfl, post_of_kept (pa := _) (pv := []) hW' (fun _ _ _ => (trodAll_cons_mk (shut_bool Try.underlying4 _) trodAll_mk0)) (trodAll_cons_mk (shut_int Try.underlying3 w0) (trodAll_cons_mk (shut_int Try.underlying3 w1) (trodAll_cons_mk (shut_int Try.underlying3 w2) (trodAll_cons_mk (shut_int Try.underlying3 w3) (trodAll_cons_mk (shut_int Try.underlying3 w4) trodAll_mk0))))) (fun _ _ => rfl) (by simp) hg⟩

theorem over : Rows.sweepPartsRow.holds Try.pinned (OpenSpec.ofChange Rows.sweepPartsSpec) :=
  OpenClaim.holds_of_wide 12 Try.f12 rfl rfl rfl rfl rfl rfl rfl ⟨rfl, rfl, rfl, rfl, rfl⟩ rfl rfl rfl rfl rfl (by kernel_rfl) Try.func12 (by kernel_rfl)
    (of_decide_eq_true (by kernel_rfl)) (by unfold Func.isWrapper; first | (rw [if_pos (by decide +kernel)]; kernel_rfl) | (rw [if_neg (by decide +kernel)]; exact ⟨rfl, rfl⟩))
    (fun os started H enc _ => lifted os started H enc)

theorem proved : Rows.SweepPartsSaid :=
  over
#print axioms proved
end Go.Proofs.Ytikpoldmpmmpiaa.sweepParts
