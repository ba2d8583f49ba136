/- Rows of floats of whole numbers, NaN among them: their sums and means. -/
import Derived.Test.YtinlbenifmcgaaaDoorRateQuo
import Derived.Test.YtinlbenifmcgaaaDoorRateFl
namespace Go.Proofs.YtinlbenifmcgaaaDoor
open Go.RowKit Go.Lib Fx Ho Gr Ieee
set_option linter.unusedVariables false
namespace Pr
open Fk Fl
theorem sumM_app (zs : List Nat) (x : Nat) : sumM (zs ++ [x]) = stepM (sumM zs) x := by
  unfold sumM
  rw [List.foldl_append]
  rfl
theorem sumM_nan {zs : List Nat} {x : Nat} (h : isN x = true) : sumM (zs ++ [x]) = sumM zs := by
  rw [sumM_app]
  unfold stepM
  rw [if_pos h]
theorem isN_int {k : Int} (hk : k.natAbs < 9007199254740992) : isN (floatOfInt .f64 k) = false := by
  obtain ⟨m, i, h, _⟩ := int_read hk
  unfold isN
  rw [h]
  rfl
theorem sumM_int {zs : List Nat} {s k : Int} {c : Nat} (h : sumM zs = (some (floatOfInt .f64 s), c)) (hs : s.natAbs < 9007199254740992) (hk : k.natAbs < 9007199254740992) (hsk : (s + k).natAbs < 9007199254740992) : sumM (zs ++ [floatOfInt .f64 k]) = (some (floatOfInt .f64 (s + k)), c + 1) := by
  rw [sumM_app, h]
  unfold stepM addO
  rw [if_neg (by rw [isN_int hk]; exact Bool.false_ne_true)]
  simp only [Option.bind_some, sum_int hs hk hsk]
theorem sumM_nil : sumM [] = (some (floatOfInt .f64 0), 0) := by
  have : floatOfInt .f64 0 = 0 := by decide +kernel
  rw [this]
  rfl
theorem wf_int (k : Int) : Wf (floatOfInt .f64 k) := by
  have := floatOfInt_wf .f64 k
  simpa [Lit.wf, Wf] using this
/-- The quotient of whole numbers, and how it stands to those on both sides. -/
theorem quo_int {S lo hi : Int} {n : Nat} (hn0 : n ≠ 0) (hS : S.natAbs < 1048576) (hn : n < 1048576) (hlo : lo.natAbs < 1048576) (hhi : hi.natAbs < 1048576) (h1 : lo * n ≤ S) (h2 : S ≤ hi * n) :
    ∃ q, floatBits .quo .f64 (floatOfInt .f64 S) (floatOfInt .f64 (n : Int)) = some q ∧ (∃ o, double.order q (floatOfInt .f64 lo) = some o ∧ o ≠ .lt) ∧ (∃ o, double.order q (floatOfInt .f64 hi) = some o ∧ o ≠ .gt) ∧ double.order q q = some .eq := by
  obtain ⟨m, i, r1, v1⟩ := int_read (n := S) (by omega)
  obtain ⟨k, j, r2, v2⟩ := int_read (n := (n : Int)) (by omega)
  obtain ⟨ml, il, r3, v3⟩ := int_read (n := lo) (by omega)
  obtain ⟨mh, ih, r4, v4⟩ := int_read (n := hi) (by omega)
  have hT := TT_pos
  have fin : ∀ r s m' i', (double.read (floatOfInt .f64 S)).quotient 54 (double.read (floatOfInt .f64 (n : Int))) = some r → double.read (double.write r) = .number s m' i' → lo * (TT : Int) ≤ val s m' i' → val s m' i' ≤ hi * (TT : Int) → ∃ q, floatBits .quo .f64 (floatOfInt .f64 S) (floatOfInt .f64 (n : Int)) = some q ∧ (∃ o, double.order q (floatOfInt .f64 lo) = some o ∧ o ≠ .lt) ∧ (∃ o, double.order q (floatOfInt .f64 hi) = some o ∧ o ≠ .gt) ∧ double.order q q = some .eq := by
    intro r s m' i' e1 e2 e3 e4
    refine ⟨double.write r, ?_, ⟨_, order_val e2 r3, ?_⟩, ⟨_, order_val e2 r4, ?_⟩, ?_⟩
    · show double.div _ _ = _
      unfold Format.div
      rw [fraction_eq, e1]
      rfl
    · rw [v3]
      rcases Int.lt_trichotomy (val s m' i') (lo * (TT : Int)) with h | h | h
      · omega
      · rw [compare_eq h]; decide
      · rw [compare_gt h]; decide
    · rw [v4]
      rcases Int.lt_trichotomy (val s m' i') (hi * (TT : Int)) with h | h | h
      · rw [compare_lt h]; decide
      · rw [compare_eq h]; decide
      · omega
    · rw [order_val e2 e2, compare_eq rfl]
  have w1 := wf_int S
  have w2 := wf_int (n : Int)
  obtain ⟨e, rfl, a1, a2, _⟩ := read_parts w1 r1
  obtain ⟨f, rfl, b1, b2, _⟩ := read_parts w2 r2
  have hneg : decide ((n : Int) < 0) = false := decide_eq_false (by omega)
  rw [hneg] at r2 v2
  have u1 : m * 2 ^ (e + 126) = S.natAbs * TT := by
    unfold val at v1
    rw [show (-1074 + (e : Int) + 1200).toNat = e + 126 by omega] at v1
    have := congrArg Int.natAbs v1
    rw [Int.natAbs_mul, Int.natAbs_mul, Int.natAbs_natCast, Int.natAbs_natCast] at this
    have hs : (sg (decide (S < 0))).natAbs = 1 := by unfold sg; cases decide (S < 0) <;> rfl
    rw [hs, Nat.one_mul] at this
    exact this
  have u2 : k * 2 ^ (f + 126) = n * TT := by
    unfold val at v2
    rw [show (-1074 + (f : Int) + 1200).toNat = f + 126 by omega] at v2
    have := congrArg Int.natAbs v2
    rw [Int.natAbs_mul, Int.natAbs_mul, Int.natAbs_natCast, Int.natAbs_natCast, Int.natAbs_natCast] at this
    have hs : (sg false).natAbs = 1 := rfl
    rw [hs, Nat.one_mul] at this
    exact this
  rcases Int.lt_trichotomy S 0 with hS0 | hS0 | hS0
  · have hd : decide (S < 0) = true := decide_eq_true hS0
    rw [hd] at r1
    have hlo0 : lo < 0 := by
      rcases Int.lt_or_le lo 0 with h | h
      · exact h
      · have := Int.mul_nonneg h (show (0 : Int) ≤ n by omega)
        omega
    have g4 : S.natAbs ≤ lo.natAbs * n := by
      have : ((lo.natAbs * n : Nat) : Int) = -(lo * n) := by rw [Int.natCast_mul, show (lo.natAbs : Int) = -lo by omega, Int.neg_mul]
      omega
    have g3 : (-hi).toNat * n ≤ S.natAbs := by
      rcases Int.lt_or_le hi 0 with h | h
      · have : (((-hi).toNat * n : Nat) : Int) = -(hi * n) := by rw [Int.natCast_mul, show ((-hi).toNat : Int) = -hi by omega, Int.neg_mul]
        omega
      · rw [show (-hi).toNat = 0 by omega, Nat.zero_mul]; omega
    obtain ⟨r, m', i', q1, q2, q3, q4⟩ := quo_between (lo := (-hi).toNat) (hi := lo.natAbs) true (show S.natAbs ≠ 0 by omega) hn0 hS hn a1 b1 a2 b2 u1 u2 g3 g4
    have hv : val true m' i' = -((m' * 2 ^ (i' + 1200).toNat : Nat) : Int) := by
      unfold val sg
      rw [if_pos rfl, Int.neg_mul, Int.one_mul]
    have p1 : (((-hi).toNat * TT : Nat) : Int) = ((-hi).toNat : Int) * (TT : Int) := Int.natCast_mul _ _
    have p2 : ((lo.natAbs * TT : Nat) : Int) = -(lo * (TT : Int)) := by rw [Int.natCast_mul, show (lo.natAbs : Int) = -lo by omega, Int.neg_mul]
    refine fin r true m' i' (by rw [r1, r2]; exact q1) q2 ?_ ?_
    · rw [hv]; omega
    · rw [hv]
      have : -(hi * (TT : Int)) ≤ ((-hi).toNat : Int) * (TT : Int) := by
        rw [← Int.neg_mul]
        exact Int.mul_le_mul_of_nonneg_right (by omega) (by omega)
      omega
  · subst hS0
    have hm0 : m = 0 := by
      rw [show (0 : Int).natAbs = 0 from rfl, Nat.zero_mul] at u1
      rcases Nat.mul_eq_zero.1 u1 with h | h
      · exact h
      · have := Nat.two_pow_pos (e + 126)
        omega
    subst hm0
    have hk0 : k ≠ 0 := fun h => by
      subst h
      rw [Nat.zero_mul] at u2
      rcases Nat.mul_eq_zero.1 u2.symm with h | h <;> omega
    have hlo0 : lo ≤ 0 := by
      rcases Int.lt_or_le 0 lo with h | h
      · have := Int.mul_pos h (show (0 : Int) < n by omega)
        omega
      · exact h
    have hhi0 : 0 ≤ hi := by
      rcases Int.lt_or_le hi 0 with h | h
      · have := Int.mul_neg_of_neg_of_pos h (show (0 : Int) < n by omega)
        omega
      · exact h
    have hq : ∃ pl, (double.read (floatOfInt .f64 0)).quotient 54 (double.read (floatOfInt .f64 (n : Int))) = some (.number false 0 pl) := by
      rw [r1, r2]
      unfold Datum.quotient
      simp only [if_neg hk0, Nat.zero_shiftLeft, Nat.zero_div, Nat.zero_mod, Nat.mul_zero]
      exact ⟨_, rfl⟩
    obtain ⟨pl, hq⟩ := hq
    refine fin _ false 0 (-1074) hq ?_ ?_ ?_
    · show double.read (double.nearest false 0 pl) = _
      unfold Format.nearest
      rw [if_pos rfl, read_word _ _ (by decide)]
      rfl
    · rw [val_zero]
      have := Int.mul_nonneg (show 0 ≤ -lo by omega) (show (0 : Int) ≤ TT by omega)
      rw [Int.neg_mul] at this
      omega
    · rw [val_zero]
      exact Int.mul_nonneg hhi0 (by omega)
  · have hd : decide (S < 0) = false := decide_eq_false (by omega)
    rw [hd] at r1
    have hhi0 : 0 < hi := by
      rcases Int.lt_or_le 0 hi with h | h
      · exact h
      · have := Int.mul_nonneg (show 0 ≤ -hi by omega) (show (0 : Int) ≤ n by omega)
        rw [Int.neg_mul] at this
        omega
    have g4 : S.natAbs ≤ hi.natAbs * n := by
      have : ((hi.natAbs * n : Nat) : Int) = hi * n := by rw [Int.natCast_mul, show (hi.natAbs : Int) = hi by omega]
      omega
    have g3 : lo.toNat * n ≤ S.natAbs := by
      rcases Int.lt_or_le 0 lo with h | h
      · have : ((lo.toNat * n : Nat) : Int) = lo * n := by rw [Int.natCast_mul, show (lo.toNat : Int) = lo by omega]
        omega
      · rw [show lo.toNat = 0 by omega, Nat.zero_mul]; omega
    obtain ⟨r, m', i', q1, q2, q3, q4⟩ := quo_between (lo := lo.toNat) (hi := hi.natAbs) false (show S.natAbs ≠ 0 by omega) hn0 hS hn a1 b1 a2 b2 u1 u2 g3 g4
    have hv : val false m' i' = ((m' * 2 ^ (i' + 1200).toNat : Nat) : Int) := by
      unfold val sg
      rw [if_neg (by decide), Int.one_mul]
    have p1 : ((lo.toNat * TT : Nat) : Int) = (lo.toNat : Int) * (TT : Int) := Int.natCast_mul _ _
    have p2 : ((hi.natAbs * TT : Nat) : Int) = hi * (TT : Int) := by rw [Int.natCast_mul, show (hi.natAbs : Int) = hi by omega]
    refine fin r false m' i' (by rw [r1, r2]; exact q1) q2 ?_ ?_
    · rw [hv]
      have : lo * (TT : Int) ≤ (lo.toNat : Int) * (TT : Int) := Int.mul_le_mul_of_nonneg_right (by omega) (by omega)
      omega
    · rw [hv]; omega
end Pr
end Go.Proofs.YtinlbenifmcgaaaDoor
