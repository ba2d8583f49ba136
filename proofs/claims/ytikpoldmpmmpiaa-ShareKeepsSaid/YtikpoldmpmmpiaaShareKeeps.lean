/- For any two whole numbers the statement ShareKeeps answers true and leaves its arguments as they were: who works whenever one may has worked at most the part of all steps, and one, and is never behind it by more than one. No condition. -/
import Derived.Test.YtikpoldmpmmpiaaHome
import Derived.Test.YtikpoldmpmmpiaaShareTold
import Derived.WalkKit
import Derived.ProofKit
import Derived.OpenShut
import Derived.Deep.RegionHeld3
import Derived.Deep.RegionWith
import Derived.Deep.Cut
import Derived.Deep.CutBlock
import Derived.Deep.CutRange
import Derived.Deep.DeepCutAuto
import Derived.RegionTactic
namespace Go.Proofs.Ytikpoldmpmmpiaa.shareKeeps
open Go.ChangeShapes Go.WideShapes Go.ChangeAt Go.WideElems Go.RowKit Go.Lib Fx Ho Sh
set_option linter.unusedVariables false

theorem own : ownKnob Try.prog.godebug = none := by kernel_rfl

set_option maxRecDepth 100000 in
set_option maxHeartbeats 4000000 in
theorem walk (a0 : Int) (a1 : Int) (w : World) (w0 : (Lit.int .i64 a0).wf = true) (w1 : (Lit.int .i64 a1).wf = true) :
    Calls Try.prog 5 #[.int .i64 a0, .int .i64 a1] w fun e w' => e = .returned (.bool true) ∧ Below w.heap.size w w' := by
  obtain ⟨Y, hY⟩ : ∃ Y : Int, IntKind.u64.wrap a0 = Y := ⟨_, rfl⟩
  have y0 : 0 ≤ Y := by rw [← hY, IntKind.wrap_u64]; omega
  obtain ⟨Z, hZ⟩ : ∃ Z : Int, IntKind.u64.wrap a1 = Z := ⟨_, rfl⟩
  have z0 : 0 ≤ Z := by rw [← hZ, IntKind.wrap_u64]; omega
  obtain ⟨p, hp⟩ : ∃ p : Int, 16384 + Y % 1032193 = p := ⟨_, rfl⟩
  obtain ⟨n, hn⟩ : ∃ n : Nat, Z % 501 = (n : Int) := ⟨(Z % 501).toNat, by omega⟩
  have p1 : 0 ≤ p := by omega
  have p2 : p ≤ 1048576 := by omega
  have n1 : n ≤ 500 := by omega
  have ct := fun w => told_any w
  clear w0 w1
  go_enter Try.func5, Try.ntmps5
  go_wp2_with fail
  clear hY hZ hp hn y0 z0
  go_loopw [6, 8] (fun v i wr => ∃ (k q : Nat), v = .int .i64 k ∧ i = .int .i64 q ∧ k ≤ q ∧ q ≤ n ∧ (k : Int) * 1048576 ≤ (q : Int) * p ∧ (q : Int) * p - 1048576 < (k : Int) * 1048576 ∧ Below w.heap.size w wr) (fun _ i _ => n - (intOf i).toNat)
  case atStart => exact ⟨0, 0, rfl, rfl, Nat.le_refl _, by omega, by simp, by simp, Below.refl _ _⟩
  case round =>
    obtain ⟨k, q, rfl, rfl, kq, qn, h1, h2, hb⟩ := hrel
    by_cases hlt : q < n
    · have i2 : (q : Int) < (n : Int) := by omega
      have cm := fun w => may_any k q p (by unfold inI; omega) w
      rw [may_small (by omega) (by omega) (by omega) (by omega) p1 p2] at cm
      obtain ⟨s1, s2⟩ := keeps_step p1 p2 h1 h2
      have x0 : 0 ≤ ((q : Int) + 1) * p := Int.mul_nonneg (by omega) p1
      have x1 := Int.mul_le_mul (by omega : (q : Int) + 1 ≤ 1000) p2 p1 (by omega : (0 : Int) ≤ 1000)
      obtain ⟨x, hxe⟩ : ∃ x, ((q : Int) + 1) * p = x := ⟨_, rfl⟩
      have hxq : Hid (((q + 1 : Nat) : Int) * p = x) := by rw [← hxe]; show _ = _; rw [Int.natCast_add]; rfl
      have hx : wrap64 (((q : Int) + 1) * p) = x := by rw [hxe] at x0 x1 ⊢; exact IntWalk.wrap64_in _ ⟨by omega, by omega⟩
      simp only [hxe] at x0 x1 s1 s2 cm
      clear h1 h2 hxe
      by_cases g : ((k : Int) + 1) * 1048576 ≤ x
      · obtain ⟨e1, e2⟩ := s1 g
        rw [decide_eq_true g] at cm
        have X1 := Lib.hid (And.intro e1 e2)
        clear s1 s2 g
        go_wp2_with fail
        with_reducible refine Calls.mono (cm _) ?_
        rintro e w1 ⟨rfl, hb1⟩
        clear cm
        go_wp2_with fail
        go_roundw
        case rel => exact ⟨k + 1, q + 1, by go_num, by go_num, by omega, by omega, by rw [hxq.out]; have := X1.out.1; omega, by rw [hxq.out]; have := X1.out.2; omega, below_then hb hb1⟩
        case measure => simp [intOf]; omega
      · obtain ⟨e1, e2⟩ := s2 g
        rw [decide_eq_false g] at cm
        have X1 := Lib.hid (And.intro e1 e2)
        clear s1 s2
        go_wp2_with fail
        with_reducible refine Calls.mono (cm _) ?_
        rintro e w1 ⟨rfl, hb1⟩
        clear cm
        go_wp2_with fail
        go_roundw
        case rel => exact ⟨k, q + 1, rfl, by go_num, by omega, by omega, by rw [hxq.out]; exact X1.out.1, by rw [hxq.out]; exact X1.out.2, below_then hb hb1⟩
        case measure => simp [intOf]; omega
    · obtain rfl : q = n := by omega
      go_wp2_with fail
      with_reducible refine Calls.mono (ct _) ?_
      rintro e w1 ⟨rfl, hb1⟩
      go_wp2_with fail
      go_ret
      exact ⟨rfl, (by repeat (first | assumption | exact Below.refl _ _ | refine below_drewN ?_ _ | refine below_alloc ?_ _ | refine below_then ?_ (by assumption)))⟩

set_option maxRecDepth 100000 in
theorem lifted (os : Os) (started : os.Started) (H : Type) (enc : TypeId × Value → H) :
    ReturnsInHanded {} Try.checked os 5 .any (Rows.shareKeepsSpec.pre6 enc Try.prog Try.f5 Rows.shareKeepsRow.domain false) (Rows.shareKeepsSpec.post enc Try.prog Try.f5 false true false false) := by
  refine returnsInHanded_of_change (C := Try.checked) own started (by kernel_rfl) Try.func5
    (ChangeSpec.witness6 (enc := enc) (C := Try.checked) false ⟨#[], #[.int .i64 0, .int .i64 0], []⟩ 8 (by kernel_rfl) (by kernel_rfl) (by kernel_rfl) (by kernel_rfl)) ?_
  intro W base args ds gs before hval0 hW hcnd _
  have hval : ∀ (j : Nat) t v, Try.f5.params[j]? = some t → args[j]? = some v → Value.okWide Try.prog W .any base t v := hval0
  have hW' := hW
  obtain ⟨p, q, hA0, hV, rfl, hfz, hnd⟩ := hW
  have hA : DataW.TrodAll enc Try.prog W 0 (fun _ => true) true Try.f5.params.toList args.toList ds p := hA0
  rw [Try.params5] at hA hval
  obtain ⟨v0, vs0, d0, ds0, p0, q0, hargs, rfl, rfl, h0, r0⟩ := trodAll_cons hA
  obtain ⟨v1, vs1, d1, ds1, p1, q1, rfl, rfl, rfl, h1, r1⟩ := trodAll_cons r0
  obtain ⟨rfl, rfl, rfl⟩ := trodAll_nil r1
  obtain rfl : args = #[v0, v1] := by cases args; simp_all
  obtain ⟨rfl, rfl⟩ := trodVars_none hV
  obtain ⟨a0, rfl, rfl, rfl, w0⟩ := open_int Try.underlying2 (hval 0 2 v0 rfl rfl) h0
  obtain ⟨a1, rfl, rfl, rfl, w1⟩ := open_int Try.underlying3 (hval 1 3 v1 rfl rfl) h1
  clear hA0 hval0
  simp only [List.append_nil] at hW'
  refine (walk a0 a1 W w0 w1).mono fun e W' ⟨he, hg⟩ => ?_
  subst he
  exact ⟨_, rfl, post_of_kept (pa := _) (pv := []) hW' (fun _ _ _ => (trodAll_cons_mk (shut_bool Try.underlying4 _) trodAll_mk0)) (trodAll_cons_mk (shut_int Try.underlying2 w0) (trodAll_cons_mk (shut_int Try.underlying3 w1) trodAll_mk0)) (fun _ _ => rfl) (by simp) hg⟩

theorem over : Rows.shareKeepsRow.holds Try.pinned (OpenSpec.ofChange Rows.shareKeepsSpec) :=
  OpenClaim.holds_of_wide 5 Try.f5 rfl rfl rfl rfl rfl rfl rfl ⟨rfl, rfl, rfl, rfl, rfl⟩ rfl rfl rfl rfl rfl (by kernel_rfl) Try.func5 (by kernel_rfl)
    (of_decide_eq_true (by kernel_rfl)) (by unfold Func.isWrapper; first | (rw [if_pos (by decide +kernel)]; kernel_rfl) | (rw [if_neg (by decide +kernel)]; exact ⟨rfl, rfl⟩))
    (fun os started H enc _ => lifted os started H enc)

theorem proved : Rows.ShareKeepsSaid :=
  over
#print axioms proved
end Go.Proofs.Ytikpoldmpmmpiaa.shareKeeps
