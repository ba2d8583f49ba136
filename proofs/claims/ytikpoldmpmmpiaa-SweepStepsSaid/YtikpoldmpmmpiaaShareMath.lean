/- Plain arithmetic behind the packages share, sweep and pacer: numbers cut to bounds, parts of a whole, quotients that are rounded up; no condition but those that each statement names. -/
import Derived.Test.YtikpoldmpmmpiaaFixMath
namespace Go.Proofs.Ytikpoldmpmmpiaa.Fx
set_option linter.unusedVariables false

/-- A number cut to bounds. -/
def cutI (lo hi n : Int) : Int := min (max n lo) hi
theorem cutI_le {lo hi n : Int} (h : lo ≤ hi) : lo ≤ cutI lo hi n ∧ cutI lo hi n ≤ hi := by unfold cutI; omega
theorem cutI_id {lo hi n : Int} (h : lo ≤ n) (h' : n ≤ hi) : cutI lo hi n = n := by unfold cutI; omega
theorem mulI_id {a b : Int} (h : inI (a * b / 1048576)) : mulI a b = a * b / 1048576 := clampI_id h
theorem wholeI_id {a : Int} (h : inI (a * 1048576)) : wholeI a = a * 1048576 := clampI_id h
theorem divI_pos {a b : Int} (hb : 0 < b) (h : inI (a * 1048576 / b)) : divI a b = a * 1048576 / b := by
  unfold divI; rw [if_neg (by omega), if_pos hb]; exact clampI_id h
theorem mul_div_whole (n p : Int) : n * 1048576 * p / 1048576 = n * p := by
  rw [Int.mul_assoc, Int.mul_comm 1048576 p, ← Int.mul_assoc, Int.mul_ediv_cancel _ (by decide)]
/-- How many Ps work alone, of n times p, and what is left for each other one. -/
def aloneI (ps part : Int) : Int := cutI 1 64 ps * cutI 0 1048576 part / 1048576
def restI (ps part : Int) : Int := cutI 1 64 ps * cutI 0 1048576 part % 1048576 / cutI 1 64 ps
theorem prod_bd {n p : Int} (h1 : 1 ≤ n) (h2 : n ≤ 64) (h3 : 0 ≤ p) (h4 : p ≤ 1048576) : 0 ≤ n * p ∧ n * p ≤ 67108864 := by
  refine ⟨Int.mul_nonneg (by omega) h3, ?_⟩
  have := Int.mul_le_mul h2 h4 h3 (by omega : (0 : Int) ≤ 64)
  omega
/-- The ways of the program and of the document come to that. -/
theorem workers_val {n p : Int} (h1 : 1 ≤ n) (h2 : n ≤ 64) (h3 : 0 ≤ p) (h4 : p ≤ 1048576) :
    wholeI n = n * 1048576 ∧ mulI (n * 1048576) p = n * p ∧ intI (n * p) = n * p / 1048576 ∧ wholeI (n * p / 1048576) = n * p / 1048576 * 1048576 ∧
    subI (n * p) (n * p / 1048576 * 1048576) = n * p % 1048576 ∧ divI (n * p % 1048576) (n * 1048576) = n * p % 1048576 / n ∧ n * p - n * p / 1048576 * 1048576 = n * p % 1048576 := by
  obtain ⟨b1, b2⟩ := prod_bd h1 h2 h3 h4
  have hw : wholeI n = n * 1048576 := wholeI_id (by unfold inI; omega)
  have hm : mulI (n * 1048576) p = n * p := by
    rw [mulI_id]
    · exact mul_div_whole n p
    · rw [mul_div_whole]; unfold inI; omega
  generalize n * p = x at *
  have hr : x - x / 1048576 * 1048576 = x % 1048576 := by omega
  have hq : x % 1048576 * 1048576 / (n * 1048576) = x % 1048576 / n := Int.mul_ediv_mul_of_pos_left _ _ (by decide)
  have hle : x % 1048576 / n ≤ x % 1048576 := Int.ediv_le_self _ (by omega)
  have hge : 0 ≤ x % 1048576 / n := Int.ediv_nonneg (by omega) (by omega)
  refine ⟨hw, hm, rfl, wholeI_id (by unfold inI; omega), ?_, ?_, hr⟩
  · unfold subI; rw [hr]; exact clampI_id (by unfold inI; omega)
  · rw [divI_pos (by omega) (by rw [hq]; unfold inI; omega), hq]
theorem alone_bd (ps part : Int) : 0 ≤ aloneI ps part ∧ aloneI ps part ≤ 64 ∧ 0 ≤ restI ps part ∧ restI ps part < 1048576 := by
  obtain ⟨h1, h2⟩ := cutI_le (lo := 1) (hi := 64) (n := ps) (by omega)
  obtain ⟨h3, h4⟩ := cutI_le (lo := 0) (hi := 1048576) (n := part) (by omega)
  obtain ⟨b1, b2⟩ := prod_bd h1 h2 h3 h4
  unfold aloneI restI
  generalize cutI 1 64 ps = n at *
  generalize n * cutI 0 1048576 part = x at *
  have hle : x % 1048576 / n ≤ x % 1048576 := Int.ediv_le_self _ (by omega)
  have hge : 0 ≤ x % 1048576 / n := Int.ediv_nonneg (by omega) (by omega)
  omega
/-- Together they are all, but for less than one each. -/
theorem parts_sum {n p : Int} (h1 : 1 ≤ n) (h2 : n ≤ 64) (h3 : 0 ≤ p) (h4 : p ≤ 1048576) :
    aloneI n p * 1048576 + restI n p * n ≤ n * p ∧ n * p - n < aloneI n p * 1048576 + restI n p * n ∧ aloneI n p ≤ n := by
  unfold aloneI restI
  rw [cutI_id h1 h2, cutI_id h3 h4]
  have h : n * p ≤ n * 1048576 := Int.mul_le_mul_of_nonneg_left h4 (by omega)
  generalize n * p = x at *
  have e := Int.mul_ediv_add_emod (x % 1048576) n
  have l := Int.emod_lt_of_pos (x % 1048576) (by omega : 0 < n)
  have g := Int.emod_nonneg (x % 1048576) (by omega : n ≠ 0)
  rw [Int.mul_comm] at e
  omega
/-- May who worked w of a steps work one more? -/
def mayB (w a p : Int) : Bool := decide (wholeI (cutI 0 1099511627776 w + 1) ≤ mulI (wholeI (cutI 0 1099511627776 a + 1)) p)
theorem may_small {w a p : Int} (h1 : 0 ≤ w) (h2 : w ≤ 1000) (h3 : 0 ≤ a) (h4 : a ≤ 1000) (h5 : 0 ≤ p) (h6 : p ≤ 1048576) : mayB w a p = decide ((w + 1) * 1048576 ≤ (a + 1) * p) := by
  unfold mayB
  rw [cutI_id h1 (by omega), cutI_id h3 (by omega), wholeI_id (by unfold inI; omega), wholeI_id (by unfold inI; omega)]
  have hb : 0 ≤ (a + 1) * p := Int.mul_nonneg (by omega) h5
  have ht := Int.mul_le_mul (by omega : a + 1 ≤ 1001) h6 h5 (by omega : (0 : Int) ≤ 1001)
  rw [mulI_id (by rw [mul_div_whole]; unfold inI; omega), mul_div_whole]
/-- Work whenever one may: never above the part, and one; never behind by more than one. -/
theorem keeps_step {k i p : Int} (h5 : 0 ≤ p) (h6 : p ≤ 1048576) (hi : k * 1048576 ≤ i * p) (lo : i * p - 1048576 < k * 1048576) :
    ((k + 1) * 1048576 ≤ (i + 1) * p → (k + 1) * 1048576 ≤ (i + 1) * p ∧ (i + 1) * p - 1048576 < (k + 1) * 1048576) ∧ (¬ (k + 1) * 1048576 ≤ (i + 1) * p → k * 1048576 ≤ (i + 1) * p ∧ (i + 1) * p - 1048576 < k * 1048576) := by
  rw [Int.add_mul i, Int.one_mul]
  generalize i * p = x at *
  constructor <;> intro h <;> omega
end Go.Proofs.Ytikpoldmpmmpiaa.Fx
