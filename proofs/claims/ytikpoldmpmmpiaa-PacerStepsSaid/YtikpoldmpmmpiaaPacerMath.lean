/- Plain arithmetic behind the package pacer: goals, triggers and ratios; no condition but those that each statement names. -/
import Derived.Test.YtikpoldmpmmpiaaShareMath
namespace Go.Proofs.Ytikpoldmpmmpiaa.Fx
set_option linter.unusedVariables false

def ratioI (scan trigger goal : Int) : Int := cutI 131072 67108864 (divI (wholeI (addI (max scan 0) 64)) (wholeI (max (subI goal trigger) 1)))
def allI (words : Int) : Int := cutI 0 16777216 words
def livesI (all live : Int) : Int := cutI 0 all live
def grownI (lives percent : Int) : Int := lives + lives * cutI 0 10000 percent / 100
def goalI (all lives percent : Int) : Int := min (cutI (all / 4) (all / 2 + lives / 2) (grownI lives percent)) all
def trigI (lives goal : Int) : Int := min (lives + 3 * max (goal - lives) 0 / 4) goal
theorem ratio_bd (a b c : Int) : 131072 ≤ ratioI a b c ∧ ratioI a b c ≤ 67108864 := cutI_le (by omega)
theorem all_bd (w : Int) : 0 ≤ allI w ∧ allI w ≤ 16777216 := cutI_le (by omega)
theorem lives_bd {all : Int} (live : Int) (h : 0 ≤ all) : 0 ≤ livesI all live ∧ livesI all live ≤ all := cutI_le h
theorem pct_prod {lives percent : Int} (h : 0 ≤ lives) (h' : lives ≤ 16777216) : 0 ≤ lives * cutI 0 10000 percent ∧ lives * cutI 0 10000 percent ≤ 167772160000 := by
  obtain ⟨h3, h4⟩ := cutI_le (lo := 0) (hi := 10000) (n := percent) (by omega)
  refine ⟨Int.mul_nonneg h h3, ?_⟩
  have := Int.mul_le_mul h' h4 h3 (by omega : (0 : Int) ≤ 16777216)
  omega
theorem grown_bd {lives percent : Int} (h : 0 ≤ lives) (h' : lives ≤ 16777216) : lives ≤ grownI lives percent ∧ grownI lives percent ≤ 1694498816 := by
  obtain ⟨h1, h2⟩ := pct_prod (percent := percent) h h'
  unfold grownI
  omega
/-- A goal lies within the heap; its trigger below it. -/
theorem goal_bd {all lives percent : Int} (h0 : 0 ≤ all) (h1 : all ≤ 16777216) (h2 : 0 ≤ lives) (h3 : lives ≤ all) :
    0 ≤ goalI all lives percent ∧ goalI all lives percent ≤ all ∧ min (all / 4) (all / 2 + lives / 2) ≤ goalI all lives percent ∧ 0 ≤ trigI lives (goalI all lives percent) ∧ trigI lives (goalI all lives percent) ≤ goalI all lives percent ∧ min lives (goalI all lives percent) ≤ trigI lives (goalI all lives percent) := by
  unfold trigI goalI cutI
  have := grown_bd (percent := percent) h2 (by omega)
  generalize grownI lives percent = g at *
  omega
/-- More that lives, or more percent, never brings a lesser goal. -/
theorem goal_mono {all l l' p p' : Int} (h0 : 0 ≤ l) (hl : l ≤ l') (hp : p ≤ p') : goalI all l p ≤ goalI all l' p' := by
  have h1 : cutI 0 10000 p ≤ cutI 0 10000 p' := by unfold cutI; omega
  have h2 : 0 ≤ cutI 0 10000 p := (cutI_le (by omega)).1
  have h3 : l * cutI 0 10000 p ≤ l' * cutI 0 10000 p' := Int.mul_le_mul hl h1 h2 (by omega)
  have h4 : grownI l p ≤ grownI l' p' := by unfold grownI; omega
  unfold goalI cutI
  omega
/-- A ratio of numbers that are not cut. -/
theorem ratio_mid {s c w : Int} (s0 : 0 ≤ s) (s1 : s ≤ 16777216) (c0 : 0 ≤ c) (c1 : c ≤ 16777216) (w0 : 1 ≤ w) (w1 : w ≤ 16777216) : ratioI s c (c + w) = cutI 131072 67108864 ((s + 64) * 1048576 / w) := by
  unfold ratioI addI subI
  rw [show max s 0 = s by omega, show c + w - c = w by omega, clampI_id (by unfold inI; omega : inI (s + 64)), clampI_id (by unfold inI; omega : inI w), show max w 1 = w by omega, wholeI_id (by unfold inI; omega), wholeI_id (by unfold inI; omega)]
  have e : (s + 64) * 1048576 * 1048576 / (w * 1048576) = (s + 64) * 1048576 / w := Int.mul_ediv_mul_of_pos_left _ _ (by decide)
  have l : (s + 64) * 1048576 / w ≤ (s + 64) * 1048576 := Int.ediv_le_self _ (by omega)
  have g : 0 ≤ (s + 64) * 1048576 / w := Int.ediv_nonneg (by omega) (by omega)
  rw [divI_pos (by omega) (by rw [e]; unfold inI; omega), e]
/-- What is to be scanned is paid by the goal. -/
theorem pays {s w : Int} (s0 : 0 ≤ s) (s1 : s < 1048576) (w0 : 1 ≤ w) (w1 : w ≤ 1048576) :
    (ratioI s 1000 (1000 + w) = 67108864 → w ≤ (s + 64) / 64) ∧ (ratioI s 1000 (1000 + w) = 131072 → 8 * (s + 64) ≤ w + 8) ∧
    (ratioI s 1000 (1000 + w) ≠ 67108864 → ratioI s 1000 (1000 + w) ≠ 131072 → w * ratioI s 1000 (1000 + w) / 1048576 ≤ s + 64 ∧ s + 64 - 1 - w / 1048576 ≤ w * ratioI s 1000 (1000 + w) / 1048576) := by
  rw [ratio_mid s0 (by omega) (by omega) (by omega) w0 (by omega)]
  have e := Int.mul_ediv_add_emod ((s + 64) * 1048576) w
  have l := Int.emod_lt_of_pos ((s + 64) * 1048576) (by omega : 0 < w)
  have g := Int.emod_nonneg ((s + 64) * 1048576) (by omega : w ≠ 0)
  generalize (s + 64) * 1048576 / w = q at *
  generalize (s + 64) * 1048576 % w = r at *
  refine ⟨fun h => ?_, fun h => ?_, fun h h' => ?_⟩
  · have hq : 67108864 ≤ q := by unfold cutI at h; omega
    have := Int.mul_le_mul_of_nonneg_left hq (by omega : 0 ≤ w)
    omega
  · have hq : q ≤ 131072 := by unfold cutI at h; omega
    have := Int.mul_le_mul_of_nonneg_left hq (by omega : 0 ≤ w)
    omega
  · have hq : cutI 131072 67108864 q = q := by unfold cutI at h h' ⊢; omega
    rw [hq]
    omega
/-- Paid by whole words: w times r. -/
theorem paid_val {w r : Int} (w0 : 1 ≤ w) (w1 : w ≤ 1048576) (r0 : 131072 ≤ r) (r1 : r ≤ 67108864) : wholeI w = w * 1048576 ∧ mulI (w * 1048576) r = w * r ∧ 0 ≤ w * r ∧ w * r ≤ 70368744177664 := by
  have b1 : 0 ≤ w * r := Int.mul_nonneg (by omega) (by omega)
  have b2 := Int.mul_le_mul w1 r1 (by omega) (by omega : (0 : Int) ≤ 1048576)
  refine ⟨wholeI_id (by unfold inI; omega), ?_, b1, by omega⟩
  rw [mulI_id (by rw [mul_div_whole]; unfold inI; omega), mul_div_whole]
end Go.Proofs.Ytikpoldmpmmpiaa.Fx
