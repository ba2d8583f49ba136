/- For any float and any whole number of 64 bits the statement FixFloats answers true and leaves its arguments as they were: a float below 2 to the 32nd in size is at least its fixed-point number and less than one part above it, and a number up to 2 to the 53rd comes back from its float. No condition. -/
import Derived.Test.YtpofkaigikphgaaFixTold
import Derived.WalkKit
import Derived.ProofKit
import Derived.OpenShut
namespace Go.Proofs.Ytpofkaigikphgaa.fixFloats
open Go.ChangeShapes Go.WideShapes Go.ChangeAt Go.RowKit Go.Lib Fx Fl
set_option linter.unusedVariables false

theorem own : ownKnob Try.prog.godebug = none := by kernel_rfl

namespace Fq
theorem read_c32 : Ieee.double.read 4751297606875873280 = .number false 4503599627370496 (-20) := by decide
theorem read_m32 : Ieee.double.read 13974669643730649088 = .number true 4503599627370496 (-20) := by decide
theorem val_c32 : val false 4503599627370496 (-20) = 4294967296 * (TT : Int) := by
  unfold val sg
  rw [if_neg (by decide), Int.one_mul, val_const 4503599627370496 (-20) 52 32 (by decide) rfl, Int.natCast_mul]
  rfl
theorem val_m32 : val true 4503599627370496 (-20) = -(4294967296 * (TT : Int)) := by
  unfold val sg
  rw [if_pos rfl, val_const 4503599627370496 (-20) 52 32 (by decide) rfl, Int.natCast_mul, Int.neg_mul, Int.one_mul]
  rfl
/-- A number up to 2^53 comes back from its float. -/
theorem comes_back (m : Int) (h : m.natAbs ≤ 9007199254740992) : floatI (realF m) = m := by
  obtain ⟨s, k, i, h1, h2⟩ := realF_val m h
  have hT : (0 : Int) < (TT : Int) := by have := TT_pos; omega
  rw [floatI_number h1, h2, Int.mul_ediv_cancel _ (by omega), clampI_id (by unfold inI; omega)]
end Fq
set_option maxRecDepth 100000 in
set_option maxHeartbeats 2000000 in
theorem walk (a0 : Nat) (a1 : Int) (w0 : (Lit.float .f64 a0).wf = true) (w1 : (Lit.int .i64 a1).wf = true) (w : World) :
    Calls Try.prog 8 #[.float .f64 a0, .int .i64 a1] w fun e w' => e = .returned (.bool true) ∧ Grown w w' := by
  have ct := fun w => told_any w
  obtain ⟨_, d2, d3, _, _⟩ := trem a1 (b := 9007199254740992) (by decide)
  obtain ⟨m, hm⟩ : ∃ m : Int, a1.tmod 9007199254740992 = m := ⟨_, rfl⟩
  rw [hm] at d2 d3
  clear w0 w1
  have cr := fun w => real_any m w
  have cf : ∀ w, Calls Try.prog 20 #[.float .f64 (realF m)] w (Ans (.int .i64 m) w) := fun w => by
    have := float_any (realF m) w
    rw [Fq.comes_back m (by omega)] at this
    exact this
  obtain ⟨d, hd⟩ : ∃ d, Ieee.double.read a0 = d := ⟨_, rfl⟩
  have out : (FloatKind.f64.format.order a0 13974669643730649088 = none ∨ FloatKind.f64.format.order a0 13974669643730649088 = some .lt ∨ FloatKind.f64.format.order a0 13974669643730649088 = some .eq ∨ (FloatKind.f64.format.order a0 13974669643730649088 = some .gt ∧ (FloatKind.f64.format.order a0 4751297606875873280 = some .gt ∨ FloatKind.f64.format.order a0 4751297606875873280 = some .eq))) →
      Calls Try.prog 8 #[.float .f64 a0, .int .i64 a1] w fun e w' => e = .returned (.bool true) ∧ Grown w w' := by
    intro h
    generalize realF m = rm at *
    clear hd
    rcases h with h | h | h | ⟨h, h2 | h2⟩
    all_goals
      go_enter Try.func8, Try.ntmps8
      go_wp2_with (first | (go_at_call 13; ((with_reducible refine (ct _).mono ?_); rintro e w' ⟨rfl, n, rfl⟩)) | (go_at_call 19; ((with_reducible refine (cr _).mono ?_); rintro e w' ⟨rfl, n, rfl⟩)) | (go_at_call 20; ((with_reducible refine (cf _).mono ?_); rintro e w' ⟨rfl, n, rfl⟩)))
      all_goals (go_ret; exact ⟨rfl, grown_draws _ _⟩)
  cases d with
  | nan s t => exact out (Or.inl (by show Ieee.double.order _ _ = _; unfold Ieee.Format.order; rw [hd]; rfl))
  | infinity s =>
    cases s with
    | true => exact out (Or.inr (Or.inl (by show Ieee.double.order _ _ = _; unfold Ieee.Format.order; rw [hd, Fq.read_m32]; rfl)))
    | false => exact out (Or.inr (Or.inr (Or.inr ⟨by show Ieee.double.order _ _ = _; unfold Ieee.Format.order; rw [hd, Fq.read_m32]; rfl, Or.inl (by show Ieee.double.order _ _ = _; unfold Ieee.Format.order; rw [hd, Fq.read_c32]; rfl)⟩)))
  | number s k i =>
    have q2 : FloatKind.f64.format.order a0 4751297606875873280 = some (compare (val s k i) (4294967296 * (TT : Int))) := by show Ieee.double.order _ _ = _; rw [order_val hd Fq.read_c32, Fq.val_c32]
    have q3 : FloatKind.f64.format.order a0 13974669643730649088 = some (compare (val s k i) (-(4294967296 * (TT : Int)))) := by show Ieee.double.order _ _ = _; rw [order_val hd Fq.read_m32, Fq.val_m32]
    have hT : (0 : Int) < (TT : Int) := by have := TT_pos; omega
    by_cases h1 : val s k i ≤ -(4294967296 * (TT : Int))
    · by_cases h : val s k i = -(4294967296 * (TT : Int))
      · exact out (Or.inr (Or.inr (Or.inl (by rw [q3, compare_eq h]))))
      · exact out (Or.inr (Or.inl (by rw [q3, compare_lt (by omega)])))
    · have o3 : FloatKind.f64.format.order a0 13974669643730649088 = some .gt := by rw [q3, compare_gt (by omega)]
      by_cases h2 : 4294967296 * (TT : Int) ≤ val s k i
      · by_cases h : val s k i = 4294967296 * (TT : Int)
        · exact out (Or.inr (Or.inr (Or.inr ⟨o3, Or.inr (by rw [q2, compare_eq h])⟩)))
        · exact out (Or.inr (Or.inr (Or.inr ⟨o3, Or.inl (by rw [q2, compare_gt (by omega)])⟩)))
      · have o2 : FloatKind.f64.format.order a0 4751297606875873280 = some .lt := by rw [q2, compare_lt (by omega)]
        have g1 : -4503599627370496 ≤ val s k i * 1048576 / (TT : Int) := Int.le_ediv_of_mul_le hT (by omega)
        have g2 : val s k i * 1048576 / (TT : Int) < 4503599627370496 := Int.ediv_lt_of_lt_mul hT (by omega)
        have e1 := Int.ediv_mul_le (val s k i * 1048576) (by omega : (TT : Int) ≠ 0)
        have e2 := Int.lt_ediv_add_one_mul_self (val s k i * 1048576) hT
        obtain ⟨A, hA⟩ : ∃ A : Int, A = val s k i * 1048576 / (TT : Int) := ⟨_, rfl⟩
        have hfl : floatI a0 = A := by rw [floatI_number hd, ← hA, clampI_id (by unfold inI; omega)]
        rw [← hA] at g1 g2 e1 e2
        obtain ⟨s1, k1, i1, r1, r2⟩ := realF_val A (by omega)
        obtain ⟨s2, k2, i2, t1, t2⟩ := realF_val (A + 1) (by omega)
        have oA : FloatKind.f64.format.order (realF A) a0 = some .lt ∨ FloatKind.f64.format.order (realF A) a0 = some .eq := by
          show Ieee.double.order _ _ = _ ∨ Ieee.double.order _ _ = _
          rw [order_val r1 hd]
          by_cases h : val s1 k1 i1 = val s k i
          · right; rw [compare_eq h]
          · left; rw [compare_lt (by omega)]
        have oB : FloatKind.f64.format.order a0 (realF (A + 1)) = some .lt := by
          show Ieee.double.order _ _ = _
          rw [order_val hd t1, compare_lt (by omega)]
        have ca : ∀ w, Calls Try.prog 20 #[.float .f64 a0] w (Ans (.int .i64 A) w) := fun w => by
          have := float_any a0 w
          rw [hfl] at this
          exact this
        have cA := fun w => real_any A w
        have cB := fun w => real_any (A + 1) w
        generalize realF m = rm at *
        generalize realF (A + 1) = rB at *
        generalize realF A = rA at *
        clear out hd q2 q3 hT h1 h2 e1 e2 hA hfl r1 r2 t1 t2
        rcases oA with oA | oA
        all_goals
          go_enter Try.func8, Try.ntmps8
          go_wp2_with (first | (go_at_call 13; ((with_reducible refine (ct _).mono ?_); rintro e w' ⟨rfl, n, rfl⟩)) | (go_at_call 19; ((with_reducible refine (cr _).mono ?_); rintro e w' ⟨rfl, n, rfl⟩)) | (go_at_call 19; ((with_reducible refine (cA _).mono ?_); rintro e w' ⟨rfl, n, rfl⟩)) | (go_at_call 19; ((with_reducible refine (cB _).mono ?_); rintro e w' ⟨rfl, n, rfl⟩)) | (go_at_call 20; ((with_reducible refine (cf _).mono ?_); rintro e w' ⟨rfl, n, rfl⟩)) | (go_at_call 20; ((with_reducible refine (ca _).mono ?_); rintro e w' ⟨rfl, n, rfl⟩)))
          all_goals (go_ret; exact ⟨rfl, grown_draws _ _⟩)

set_option maxRecDepth 100000 in
theorem lifted (os : Os) (started : os.Started) (H : Type) (enc : TypeId × Value → H) :
    ReturnsInHanded {} Try.checked os 8 .any (Rows.fixFloatsSpec.pre6 enc Try.prog Try.f8 Rows.fixFloatsRow.domain false) (Rows.fixFloatsSpec.post enc Try.prog Try.f8 false true false false) := by
  refine returnsInHanded_of_change (C := Try.checked) own started (by kernel_rfl) Try.func8
    (ChangeSpec.witness6 (enc := enc) (C := Try.checked) false ⟨#[], #[.float .f64 0, .int .i64 0], []⟩ 8 (by kernel_rfl) (by kernel_rfl) (by kernel_rfl) (by kernel_rfl)) ?_
  intro W base args ds gs before hval0 hW hcnd _
  have hval : ∀ (j : Nat) t v, Try.f8.params[j]? = some t → args[j]? = some v → Value.okWide Try.prog W .any base t v := hval0
  have hW' := hW
  obtain ⟨p, q, hA0, hV, rfl, hfz, hnd⟩ := hW
  have hA : DataW.TrodAll enc Try.prog W 0 (fun _ => true) true Try.f8.params.toList args.toList ds p := hA0
  rw [Try.params8] at hA hval
  obtain ⟨v0, vs0, d0, ds0, p0, q0, hargs, rfl, rfl, h0, r0⟩ := trodAll_cons hA
  obtain ⟨v1, vs1, d1, ds1, p1, q1, rfl, rfl, rfl, h1, r1⟩ := trodAll_cons r0
  obtain ⟨rfl, rfl, rfl⟩ := trodAll_nil r1
  obtain rfl : args = #[v0, v1] := by cases args; simp_all
  obtain ⟨rfl, rfl⟩ := trodVars_none hV
  obtain ⟨a0, rfl, rfl, rfl, w0⟩ := open_float Try.underlying27 (hval 0 27 v0 rfl rfl) h0
  obtain ⟨a1, rfl, rfl, rfl, w1⟩ := open_int Try.underlying2 (hval 1 2 v1 rfl rfl) h1
  clear hA0 hval0
  simp only [List.append_nil] at hW'
  refine (walk a0 a1 w0 w1 W).mono fun e W' ⟨he, hg⟩ => ?_
  subst he
  exact ⟨_, rfl, post_of_same (pa := []) (pv := []) hW' (fun _ _ _ => (trodAll_cons_mk (shut_bool Try.underlying4 _) trodAll_mk0)) (fun sp _ => (trodAll_cons_mk (shut_float Try.underlying27 w0) (trodAll_cons_mk (shut_int Try.underlying2 w1) trodAll_mk0))) (fun _ _ => rfl) rfl
    (hg.frame _) hg.2.1 (ok_one (by kernel_rfl) rfl (okWide_bool_mk Try.underlying4 _))⟩

theorem over : Rows.fixFloatsRow.holds Try.pinned (OpenSpec.ofChange Rows.fixFloatsSpec) :=
  OpenClaim.holds_of_wide 8 Try.f8 rfl rfl rfl rfl rfl rfl rfl ⟨rfl, rfl, rfl, rfl, rfl⟩ rfl rfl rfl rfl rfl (by kernel_rfl) Try.func8 (by kernel_rfl)
    (of_decide_eq_true (by kernel_rfl)) (by unfold Func.isWrapper; first | (rw [if_pos (by decide +kernel)]; kernel_rfl) | (rw [if_neg (by decide +kernel)]; exact ⟨rfl, rfl⟩))
    (fun os started H enc _ => lifted os started H enc)

theorem proved : Rows.FixFloatsSaid :=
  over
#print axioms proved
end Go.Proofs.Ytpofkaigikphgaa.fixFloats
