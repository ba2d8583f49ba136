/- For any three whole numbers the statement ShareDedicates answers true and leaves its arguments as they were: so many Ps as Workers says are dedicated, the first ones; with a greater part no fewer. No condition. -/
import Derived.Test.YtikpoldmpmmpiaaHome
import Derived.Test.YtikpoldmpmmpiaaShareTold
import Derived.WalkKit
import Derived.ProofKit
import Derived.OpenShut
import Derived.Deep.RegionHeld3
import Derived.Deep.RegionWith
import Derived.Deep.Cut
import Derived.Deep.CutBlock
import Derived.Deep.CutRange
import Derived.Deep.DeepCutAuto
import Derived.RegionTactic
namespace Go.Proofs.Ytikpoldmpmmpiaa.shareDedicates
open Go.ChangeShapes Go.WideShapes Go.ChangeAt Go.WideElems Go.RowKit Go.Lib Fx Ho Sh
set_option linter.unusedVariables false

theorem own : ownKnob Try.prog.godebug = none := by kernel_rfl

theorem alone_mono {n x y : Int} (h1 : 1 ≤ n) (h2 : n ≤ 64) (x0 : 0 ≤ x) (xy : x ≤ y) (y1 : y ≤ 1048576) : aloneI n x ≤ aloneI n y := by
  unfold aloneI
  rw [cutI_id h1 h2, cutI_id x0 (by omega), cutI_id (by omega) y1]
  have := Int.mul_le_mul_of_nonneg_left xy (by omega : 0 ≤ n)
  omega
theorem alone_one {n : Int} (h1 : 1 ≤ n) (h2 : n ≤ 64) : aloneI n 1048576 = n ∧ restI n 1048576 = 0 := by
  unfold aloneI restI
  rw [cutI_id h1 h2, cutI_id (by omega) (by omega)]
  refine ⟨by omega, ?_⟩
  rw [show n * 1048576 % 1048576 = 0 by omega]; exact Int.zero_ediv _
set_option maxRecDepth 100000 in
set_option maxHeartbeats 4000000 in
theorem walk (a0 : Int) (a1 : Int) (a2 : Int) (w : World) (w0 : (Lit.int .i64 a0).wf = true) (w1 : (Lit.int .i64 a1).wf = true) (w2 : (Lit.int .i64 a2).wf = true) :
    Calls Try.prog 6 #[.int .i64 a0, .int .i64 a1, .int .i64 a2] w fun e w' => e = .returned (.bool true) ∧ Below w.heap.size w w' := by
  obtain ⟨Y, hY⟩ : ∃ Y : Int, IntKind.u64.wrap a0 = Y := ⟨_, rfl⟩
  have y0 : 0 ≤ Y := by rw [← hY, IntKind.wrap_u64]; omega
  obtain ⟨X, hX⟩ : ∃ X : Int, IntKind.u64.wrap a1 = X := ⟨_, rfl⟩
  have x0 : 0 ≤ X := by rw [← hX, IntKind.wrap_u64]; omega
  obtain ⟨Z, hZ⟩ : ∃ Z : Int, IntKind.u64.wrap a2 = Z := ⟨_, rfl⟩
  have z0 : 0 ≤ Z := by rw [← hZ, IntKind.wrap_u64]; omega
  obtain ⟨n, hn⟩ : ∃ n : Nat, 1 + Y % 64 = (n : Int) := ⟨(1 + Y % 64).toNat, by omega⟩
  obtain ⟨x, hx⟩ : ∃ x : Int, X % 1048577 = x := ⟨_, rfl⟩
  obtain ⟨y, hy⟩ : ∃ y : Int, Z % 1048577 = y := ⟨_, rfl⟩
  have n1 : 1 ≤ n := by omega
  have n2 : n ≤ 64 := by omega
  have x1 : 0 ≤ x := by omega
  have x2 : x ≤ 1048576 := by omega
  have y1 : 0 ≤ y := by omega
  have y2 : y ≤ 1048576 := by omega
  have ct := fun w => told_any w
  have m1 : ∀ w, Calls Try.prog 20 #[.int .i64 0, .int .i64 0, .int .i64 1048576] w (AnsB (.bool true) w) := fun w => may_any 0 0 1048576 (by unfold inI; omega) w
  have m2 : ∀ w, Calls Try.prog 20 #[.int .i64 0, .int .i64 0, .int .i64 524288] w (AnsB (.bool false) w) := fun w => may_any 0 0 524288 (by unfold inI; omega) w
  have c3 := fun w => workers_any n 1048576 (by unfold inI; omega) (by unfold inI; omega) w
  rw [(alone_one (n := n) (by omega) (by omega)).1, (alone_one (n := n) (by omega) (by omega)).2] at c3
  obtain ⟨lo, hi, hlo⟩ : ∃ lo hi : Int, 0 ≤ lo ∧ lo ≤ hi ∧ hi ≤ 1048576 ∧ ((y < x ∧ lo = y ∧ hi = x) ∨ (¬ y < x ∧ lo = x ∧ hi = y)) := by
    by_cases g : y < x
    · exact ⟨y, x, y1, by omega, x2, Or.inl ⟨g, rfl, rfl⟩⟩
    · exact ⟨x, y, x1, by omega, y2, Or.inr ⟨g, rfl, rfl⟩⟩
  obtain ⟨l1, l2, l3, hcase⟩ := hlo
  have c1 := fun w => workers_any n lo (by unfold inI; omega) (by unfold inI; omega) w
  have c2 := fun w => workers_any n hi (by unfold inI; omega) (by unfold inI; omega) w
  have c4 : Hid (∀ q w, Calls Try.prog 19 #[.int .i64 q, .int .i64 n, .int .i64 lo] w (AnsB (.bool (dedB q n lo)) w)) := Lib.hid fun q w => dedicated_any q n lo (by unfold inI; omega) (by unfold inI; omega) w
  unfold dedB at c4
  have hm := alone_mono (n := n) (by omega) (by omega) l1 l2 l3
  obtain ⟨b1, b2, b3, b4⟩ := alone_bd n lo
  obtain ⟨e1, e2, e3, e4⟩ := alone_bd n hi
  have en := (parts_sum (n := n) (by omega) (by omega) (by omega) l3).2.2
  generalize aloneI n lo = d at *
  generalize restI n lo = r at *
  generalize aloneI n hi = e at *
  generalize restI n hi = f at *
  clear l1 l2 l3 w0 w1 w2
  rcases hcase with ⟨g, rfl, rfl⟩ | ⟨g, rfl, rfl⟩
  all_goals
    go_enter Try.func6, Try.ntmps6
    go_wp2_with fail
    with_reducible refine Calls.mono (c1 _) ?_
    rintro e w1 ⟨rfl, hb1⟩
    go_wp2_with fail
    with_reducible refine Calls.mono (c2 _) ?_
    rintro e w2 ⟨rfl, hb2⟩
    go_wp2_with fail
    have hb0 := below_then hb1 hb2
    clear hb1 hb2 c1 c2 hY hX hZ hn hx hy
    go_loopw [14] (fun i wr => ∃ q : Int, i = .int .i64 q ∧ -1 ≤ q ∧ q ≤ n + 1 ∧ Below w.heap.size w wr) (fun i _ => ((n : Int) + 1 - intOf i).toNat)
    case atStart => exact ⟨-1, rfl, by omega, by omega, hb0⟩
    case round =>
      obtain ⟨q, rfl, q1, q2, hb⟩ := hrel
      clear hb0
      by_cases hlt : q ≤ n
      · have cd := c4.out q
        by_cases g1 : 0 ≤ q
        · have g3 : decide (0 ≤ q) = true := decide_eq_true g1
          rw [g3, Bool.true_and] at cd
          go_wp2_with fail
          with_reducible refine Calls.mono (cd _) ?_
          rintro e w3 ⟨rfl, hb3⟩
          go_wp2_with fail
          go_roundw
          case rel => exact ⟨q + 1, rfl, by omega, by omega, below_then hb hb3⟩
          case measure => simp [intOf]; omega
        · have g3 : decide (0 ≤ q) = false := decide_eq_false g1
          rw [g3, Bool.false_and] at cd
          go_wp2_with fail
          with_reducible refine Calls.mono (cd _) ?_
          rintro e w3 ⟨rfl, hb3⟩
          go_wp2_with fail
          go_roundw
          case rel => exact ⟨q + 1, rfl, by omega, by omega, below_then hb hb3⟩
          case measure => simp [intOf]; omega
      · skip
        go_wp2_with fail
        with_reducible refine Calls.mono (c3 _) ?_
        rintro e w3 ⟨rfl, hb3⟩
        go_wp2_with fail
        with_reducible refine Calls.mono (ct _) ?_
        rintro e w4 ⟨rfl, hb4⟩
        go_wp2_with fail
        with_reducible refine Calls.mono (m1 _) ?_
        rintro e w5 ⟨rfl, hb5⟩
        go_wp2_with fail
        with_reducible refine Calls.mono (m2 _) ?_
        rintro e w6 ⟨rfl, hb6⟩
        go_wp2_with fail
        go_ret
        exact ⟨rfl, (by repeat (first | assumption | exact Below.refl _ _ | refine below_drewN ?_ _ | refine below_alloc ?_ _ | refine below_then ?_ (by assumption)))⟩

set_option maxRecDepth 100000 in
theorem lifted (os : Os) (started : os.Started) (H : Type) (enc : TypeId × Value → H) :
    ReturnsInHanded {} Try.checked os 6 .any (Rows.shareDedicatesSpec.pre6 enc Try.prog Try.f6 Rows.shareDedicatesRow.domain false) (Rows.shareDedicatesSpec.post enc Try.prog Try.f6 false true false false) := by
  refine returnsInHanded_of_change (C := Try.checked) own started (by kernel_rfl) Try.func6
    (ChangeSpec.witness6 (enc := enc) (C := Try.checked) false ⟨#[], #[.int .i64 0, .int .i64 0, .int .i64 0], []⟩ 8 (by kernel_rfl) (by kernel_rfl) (by kernel_rfl) (by kernel_rfl)) ?_
  intro W base args ds gs before hval0 hW hcnd _
  have hval : ∀ (j : Nat) t v, Try.f6.params[j]? = some t → args[j]? = some v → Value.okWide Try.prog W .any base t v := hval0
  have hW' := hW
  obtain ⟨p, q, hA0, hV, rfl, hfz, hnd⟩ := hW
  have hA : DataW.TrodAll enc Try.prog W 0 (fun _ => true) true Try.f6.params.toList args.toList ds p := hA0
  rw [Try.params6] at hA hval
  obtain ⟨v0, vs0, d0, ds0, p0, q0, hargs, rfl, rfl, h0, r0⟩ := trodAll_cons hA
  obtain ⟨v1, vs1, d1, ds1, p1, q1, rfl, rfl, rfl, h1, r1⟩ := trodAll_cons r0
  obtain ⟨v2, vs2, d2, ds2, p2, q2, rfl, rfl, rfl, h2, r2⟩ := trodAll_cons r1
  obtain ⟨rfl, rfl, rfl⟩ := trodAll_nil r2
  obtain rfl : args = #[v0, v1, v2] := by cases args; simp_all
  obtain ⟨rfl, rfl⟩ := trodVars_none hV
  obtain ⟨a0, rfl, rfl, rfl, w0⟩ := open_int Try.underlying3 (hval 0 3 v0 rfl rfl) h0
  obtain ⟨a1, rfl, rfl, rfl, w1⟩ := open_int Try.underlying2 (hval 1 2 v1 rfl rfl) h1
  obtain ⟨a2, rfl, rfl, rfl, w2⟩ := open_int Try.underlying2 (hval 2 2 v2 rfl rfl) h2
  clear hA0 hval0
  simp only [List.append_nil] at hW'
  refine (walk a0 a1 a2 W w0 w1 w2).mono fun e W' ⟨he, hg⟩ => ?_
  subst he
  exact ⟨_, rfl, post_of_kept (pa := _) (pv := []) hW' (fun _ _ _ => (trodAll_cons_mk (shut_bool Try.underlying4 _) trodAll_mk0)) (trodAll_cons_mk (shut_int Try.underlying3 w0) (trodAll_cons_mk (shut_int Try.underlying2 w1) (trodAll_cons_mk (shut_int Try.underlying2 w2) trodAll_mk0))) (fun _ _ => rfl) (by simp) hg⟩

theorem over : Rows.shareDedicatesRow.holds Try.pinned (OpenSpec.ofChange Rows.shareDedicatesSpec) :=
  OpenClaim.holds_of_wide 6 Try.f6 rfl rfl rfl rfl rfl rfl rfl ⟨rfl, rfl, rfl, rfl, rfl⟩ rfl rfl rfl rfl rfl (by kernel_rfl) Try.func6 (by kernel_rfl)
    (of_decide_eq_true (by kernel_rfl)) (by unfold Func.isWrapper; first | (rw [if_pos (by decide +kernel)]; kernel_rfl) | (rw [if_neg (by decide +kernel)]; exact ⟨rfl, rfl⟩))
    (fun os started H enc _ => lifted os started H enc)

theorem proved : Rows.ShareDedicatesSaid :=
  over
#print axioms proved
end Go.Proofs.Ytikpoldmpmmpiaa.shareDedicates
