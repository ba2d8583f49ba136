/- For any whole numbers the statement ConfWholes answers true and leaves its arguments as they were: whole percents up to 10,000 come back, with three quarters more too, and parts of 2^20 from one 64th to one come back from their floats. No condition. -/
import Derived.Test.YtongpnkejakceaaConfMay
import Derived.WalkKit
import Derived.ProofKit
import Derived.OpenShut
namespace Go.Proofs.Ytongpnkejakceaa.confWholes
open Go.ChangeShapes Go.WideShapes Go.ChangeAt Go.RowKit Go.Lib Fx Fl
set_option linter.unusedVariables false

theorem own : ownKnob Try.prog.godebug = none := by kernel_rfl

namespace Cw
open Ieee
theorem pow_join {i b : Int} (h : b ≤ i) (hb : -1200 ≤ b) : 2 ^ (i - b).toNat * 2 ^ (b + 1200).toNat = 2 ^ (i + 1200).toNat := by
  rw [← Nat.pow_add]; congr 1; omega
theorem signed_val {s : Bool} {m : Nat} {i b : Int} (h : b ≤ i) (hb : -1200 ≤ b) : signed s m (i - b).toNat * ((2 ^ (b + 1200).toNat : Nat) : Int) = val s m i := by
  rw [signed_eq]; unfold val
  rw [Int.mul_assoc, ← Int.natCast_mul, Nat.mul_assoc, pow_join h hb]
/-- A sum that a word holds. -/
theorem add_word {x c : Nat} {s t : Bool} {m n : Nat} {i j : Int} (hx : double.read x = .number s m i) (hc : double.read c = .number t n j) {k : Nat} {p : Int} (h0 : 0 < val s m i + val t n j) (hk : k < 9007199254740992) (hp1 : -1074 ≤ p) (hp2 : p ≤ 971) (e : val s m i + val t n j = ((k * 2 ^ (p + 1200).toNat : Nat) : Int)) :
    ∃ y m' i', double.add x c = some y ∧ double.read y = .number false m' i' ∧ val false m' i' = val s m i + val t n j := by
  obtain ⟨b1, b2, b3⟩ := read_bounds hx
  obtain ⟨c1, c2, c3⟩ := read_bounds hc
  have hb : -1074 ≤ min i j := by omega
  have e1 := signed_val (s := s) (m := m) (i := i) (b := min i j) (by omega) (by omega)
  have e2 := signed_val (s := t) (m := n) (i := j) (b := min i j) (by omega) (by omega)
  obtain ⟨total, ht⟩ : ∃ total, total = signed s m (i - min i j).toNat + signed t n (j - min i j).toNat := ⟨_, rfl⟩
  have e3 : total * ((2 ^ (min i j + 1200).toNat : Nat) : Int) = val s m i + val t n j := by rw [ht, Int.add_mul, e1, e2]
  have hU : (0 : Int) < ((2 ^ (min i j + 1200).toNat : Nat) : Int) := by have := Nat.two_pow_pos (min i j + 1200).toNat; omega
  have hpos : 0 < total := by
    refine Int.not_le.1 fun hle => ?_
    have := Int.mul_nonpos_of_nonpos_of_nonneg hle (Int.le_of_lt hU)
    omega
  have hs : double.add x c = some (double.write (.number false total.natAbs (min i j))) := by
    unfold Format.add
    rw [hx, hc]
    unfold Datum.sum
    simp only [← ht, Option.map_some]
    rw [if_neg (by omega), decide_eq_false (by omega)]
  have hm : total.natAbs * 2 ^ (min i j + 1200).toNat = k * 2 ^ (p + 1200).toNat := by
    have : ((total.natAbs * 2 ^ (min i j + 1200).toNat : Nat) : Int) = ((k * 2 ^ (p + 1200).toNat : Nat) : Int) := by
      rw [← e, ← e3, Int.natCast_mul, Int.natAbs_of_nonneg (by omega)]
    exact Int.ofNat.inj this
  obtain ⟨m', i', w1, w2⟩ := write_exact (s := false) (mag := total.natAbs) (place := min i j) (by omega) hk hp1 hp2 hm
  refine ⟨_, m', i', hs, w1, ?_⟩
  rw [w2, show sg false = 1 from rfl, Int.one_mul, e]
theorem read_75 : double.read 4604930618986332160 = .number false 6755399441055744 (-53) := by decide
theorem val_75 : ∃ U : Nat, 0 < U ∧ TT = 4 * U ∧ 2 ^ ((-2 : Int) + 1200).toNat = U ∧ val false 6755399441055744 (-53) = 3 * (U : Int) := by
  refine ⟨2 ^ ((-2 : Int) + 1200).toNat, Nat.two_pow_pos _, ?_, rfl, ?_⟩
  · rw [show (4 : Nat) = 2 ^ 2 from rfl, ← Nat.pow_add, show 2 + ((-2 : Int) + 1200).toNat = NN from rfl]; rfl
  · unfold val
    rw [show sg false = 1 from rfl, Int.one_mul, show (6755399441055744 : Nat) = 3 * 2 ^ 51 from by decide, Nat.mul_assoc, ← Nat.pow_add, show 51 + ((-53 : Int) + 1200).toNat = ((-2 : Int) + 1200).toNat from rfl, Int.natCast_mul]
    rfl
theorem pct_num {x : Nat} {s : Bool} {m : Nat} {i : Int} (hx : double.read x = .number s m i) (h0 : 0 ≤ val s m i) : pctI x = (if 10000 * (TT : Int) ≤ val s m i then 10000 else val s m i / (TT : Int)) ∧ pctB x = true := by
  have e1 : pctI x = if val s m i < 0 then 0 else if 10000 * (TT : Int) ≤ val s m i then 10000 else (val s m i).tdiv (TT : Int) := by unfold pctI; rw [hx]
  have e2 : pctB x = !decide (val s m i < 0) := by unfold pctB; rw [hx]
  rw [e1, e2, if_neg (by omega), decide_eq_false (by omega), Int.tdiv_eq_ediv_of_nonneg h0]
  exact ⟨rfl, rfl⟩
theorem pct_whole (k : Int) (h0 : 0 ≤ k) (h1 : k ≤ 10000) : pctI (floatOfInt .f64 k) = k ∧ pctB (floatOfInt .f64 k) = true := by
  obtain ⟨m, i, r1, r2⟩ := int_word (n := k) (k := k.natAbs) (p := 0) (by omega) (by omega) (by omega) (by rw [pow_TT])
  have hT : (0 : Int) < (TT : Int) := by have := TT_pos; omega
  have hnn : 0 ≤ k * (TT : Int) := Int.mul_nonneg h0 (by omega)
  obtain ⟨e1, e2⟩ := pct_num r1 (by rw [r2]; exact hnn)
  refine ⟨?_, e2⟩
  rw [e1, r2, Int.mul_ediv_cancel _ (by omega)]
  split
  · rename_i h
    have := Int.le_of_mul_le_mul_right h hT
    omega
  · rfl
theorem pct_more (k : Int) (h0 : 0 ≤ k) (h1 : k ≤ 10000) : ∃ y, double.add (floatOfInt .f64 k) 4604930618986332160 = some y ∧ pctI y = k ∧ pctB y = true := by
  obtain ⟨m, i, r1, r2⟩ := int_word (n := k) (k := k.natAbs) (p := 0) (by omega) (by omega) (by omega) (by rw [pow_TT])
  obtain ⟨U, u0, u1, u2, u3⟩ := val_75
  have uT : (TT : Int) = 4 * (U : Int) := by rw [u1]; rfl
  have hnn : 0 ≤ k * (U : Int) := Int.mul_nonneg h0 (by omega)
  have e4 : k * (4 * (U : Int)) = 4 * (k * (U : Int)) := by rw [← Int.mul_assoc, Int.mul_comm k 4, Int.mul_assoc]
  have hsum : val (decide (k < 0)) m i + val false 6755399441055744 (-53) = (4 * k + 3) * (U : Int) := by
    rw [r2, u3, uT, e4, Int.add_mul, Int.mul_assoc]
  obtain ⟨y, m', i', a1, a2, a3⟩ := add_word r1 read_75 (k := (4 * k + 3).toNat) (p := -2) (by rw [hsum]; exact Int.mul_pos (by omega) (by omega)) (by omega) (by omega) (by omega)
    (by rw [hsum, u2, Int.natCast_mul, Int.toNat_of_nonneg (by omega)])
  rw [hsum] at a3
  obtain ⟨e1, e2⟩ := pct_num a2 (by rw [a3]; exact Int.mul_nonneg (by omega) (by omega))
  refine ⟨y, a1, ?_, e2⟩
  rw [e1, a3, uT, Int.mul_ediv_mul_of_pos_left _ _ (by omega)]
  split
  · rename_i h
    rw [← Int.mul_assoc] at h
    have := Int.le_of_mul_le_mul_right h (by omega)
    omega
  · omega
theorem part_back (p : Int) (h0 : 16384 ≤ p) (h1 : p ≤ 1048576) : partI (realF p) = p := by
  obtain ⟨s, m, i, r1, r2⟩ := realF_val p (by omega)
  have hT : (0 : Int) < (TT : Int) := by have := TT_pos; omega
  have e1 : partI (realF p) = if val s m i * 64 < (TT : Int) then 16384 else if (TT : Int) ≤ val s m i then 1048576 else floatI (realF p) := by unfold partI; rw [r1]
  have g1 : 16384 * (TT : Int) ≤ p * (TT : Int) := Int.mul_le_mul_of_nonneg_right h0 (by omega)
  rw [e1, if_neg (by omega)]
  split
  · rename_i h
    have : 1048576 * (TT : Int) ≤ p * (TT : Int) := by omega
    have := Int.le_of_mul_le_mul_right this hT
    omega
  · rw [floatI_number r1, r2, Int.mul_ediv_cancel _ (by omega), clampI_id (by unfold inI; omega)]
end Cw
open Cw
set_option maxRecDepth 100000 in
set_option maxHeartbeats 2000000 in
theorem walk (a0 : Int) (a1 : Int) (w0 : (Lit.int .i64 a0).wf = true) (w1 : (Lit.int .i64 a1).wf = true) (w : World) :
    Calls Try.prog 5 #[.int .i64 a0, .int .i64 a1] w fun e w' => e = .returned (.bool true) ∧ Below w.heap.size w w' := by
  have ct := fun w => told2_any w
  obtain ⟨Y, hY⟩ : ∃ Y : Int, IntKind.u64.wrap a0 = Y := ⟨_, rfl⟩
  obtain ⟨Z, hZ⟩ : ∃ Z : Int, IntKind.u64.wrap a1 = Z := ⟨_, rfl⟩
  have y0 : 0 ≤ Y := by rw [← hY, IntKind.wrap_u64]; omega
  have z0 : 0 ≤ Z := by rw [← hZ, IntKind.wrap_u64]; omega
  obtain ⟨k, hk⟩ : ∃ k : Int, Y % 10001 = k := ⟨_, rfl⟩
  obtain ⟨q, hq⟩ : ∃ q : Int, Z % 1032193 = q := ⟨_, rfl⟩
  have k1 : 0 ≤ k := by omega
  have k2 : k ≤ 10000 := by omega
  have q1 : 0 ≤ q := by omega
  have q2 : q ≤ 1032192 := by omega
  obtain ⟨e1, e2⟩ := pct_whole k k1 k2
  obtain ⟨y, a1, a2, a3⟩ := pct_more k k1 k2
  have e3 := part_back (16384 + q) (by omega) (by omega)
  have c1 := fun w => pct_any (floatOfInt .f64 k) w
  have c2 := fun w => pct_any y w
  have c3 := fun w => real_any (16384 + q) w
  have c4 := fun w => part_any (realF (16384 + q)) w
  rw [e1, e2] at c1
  rw [a2, a3] at c2
  rw [e3] at c4
  have hadd : ∀ w, (binOp .add 22 (.float .f64 (floatOfInt .f64 k)) (.float .f64 4604930618986332160)).run Try.prog w = .ok (.float .f64 y) w := fun w => run_float_arith w .add 22 .f64 _ _ y a1
  clear e1 e2 a1 a2 a3 e3
  generalize realF (16384 + q) = rp at *
  go_enter Try.func5, Try.ntmps5
  go_wp2_with (first | (go_at_call 13; ((with_reducible refine (ct _).mono ?_); rintro e w' ⟨rfl, hb⟩)) | (go_at_call 10; ((with_reducible refine (c1 _).mono ?_); rintro e w' ⟨rfl, n, rfl⟩)) | (go_at_call 10; ((with_reducible refine (c2 _).mono ?_); rintro e w' ⟨rfl, n, rfl⟩)) | (go_at_call 18; ((with_reducible refine (c3 _).mono ?_); rintro e w' ⟨rfl, n, rfl⟩)) | (go_at_call 16; ((with_reducible refine (c4 _).mono ?_); rintro e w' ⟨rfl, n, rfl⟩)))

  all_goals go_ret
  all_goals exact ⟨rfl, (by repeat (first | assumption | exact Below.refl _ _ | refine below_drewN ?_ _ | refine below_alloc ?_ _ | refine below_then ?_ (by assumption)))⟩

set_option maxRecDepth 100000 in
theorem lifted (os : Os) (started : os.Started) (H : Type) (enc : TypeId × Value → H) :
    ReturnsInHanded {} Try.checked os 5 .any (Rows.confWholesSpec.pre6 enc Try.prog Try.f5 Rows.confWholesRow.domain false) (Rows.confWholesSpec.post enc Try.prog Try.f5 false true false false) := by
  refine returnsInHanded_of_change (C := Try.checked) own started (by kernel_rfl) Try.func5
    (ChangeSpec.witness6 (enc := enc) (C := Try.checked) false ⟨#[], #[.int .i64 0, .int .i64 0], []⟩ 8 (by kernel_rfl) (by kernel_rfl) (by kernel_rfl) (by kernel_rfl)) ?_
  intro W base args ds gs before hval0 hW hcnd _
  have hval : ∀ (j : Nat) t v, Try.f5.params[j]? = some t → args[j]? = some v → Value.okWide Try.prog W .any base t v := hval0
  have hW' := hW
  obtain ⟨p, q, hA0, hV, rfl, hfz, hnd⟩ := hW
  have hA : DataW.TrodAll enc Try.prog W 0 (fun _ => true) true Try.f5.params.toList args.toList ds p := hA0
  rw [Try.params5] at hA hval
  obtain ⟨v0, vs0, d0, ds0, p0, q0, hargs, rfl, rfl, h0, r0⟩ := trodAll_cons hA
  obtain ⟨v1, vs1, d1, ds1, p1, q1, rfl, rfl, rfl, h1, r1⟩ := trodAll_cons r0
  obtain ⟨rfl, rfl, rfl⟩ := trodAll_nil r1
  obtain rfl : args = #[v0, v1] := by cases args; simp_all
  obtain ⟨rfl, rfl⟩ := trodVars_none hV
  obtain ⟨a0, rfl, rfl, rfl, w0⟩ := open_int Try.underlying3 (hval 0 3 v0 rfl rfl) h0
  obtain ⟨a1, rfl, rfl, rfl, w1⟩ := open_int Try.underlying2 (hval 1 2 v1 rfl rfl) h1
  clear hA0 hval0
  simp only [List.append_nil] at hW'
  refine (walk a0 a1 w0 w1 W).mono fun e W' ⟨he, hg⟩ => ?_
  subst he
  exact ⟨_, rfl, post_of_below (pa := []) (pv := []) hW' (fun _ _ _ => (trodAll_cons_mk (shut_bool Try.underlying4 _) trodAll_mk0)) (fun sp _ => (trodAll_cons_mk (shut_int Try.underlying3 w0) (trodAll_cons_mk (shut_int Try.underlying2 w1) trodAll_mk0))) (fun _ _ => rfl) rfl hg⟩

theorem over : Rows.confWholesRow.holds Try.pinned (OpenSpec.ofChange Rows.confWholesSpec) :=
  OpenClaim.holds_of_wide 5 Try.f5 rfl rfl rfl rfl rfl rfl rfl ⟨rfl, rfl, rfl, rfl, rfl⟩ rfl rfl rfl rfl rfl (by kernel_rfl) Try.func5 (by kernel_rfl)
    (of_decide_eq_true (by kernel_rfl)) (by unfold Func.isWrapper; first | (rw [if_pos (by decide +kernel)]; kernel_rfl) | (rw [if_neg (by decide +kernel)]; exact ⟨rfl, rfl⟩))
    (fun os started H enc _ => lifted os started H enc)

theorem proved : Rows.ConfWholesSaid :=
  over
#print axioms proved
end Go.Proofs.Ytongpnkejakceaa.confWholes
