/- Plain arithmetic behind the package sweep: how many spans are to be swept, so that all are as a goal is come to; no condition but those that each statement names. -/
import Derived.Test.YtikpoldmpmmpiaaShareMath
namespace Go.Proofs.Ytikpoldmpmmpiaa.Fx
set_option linter.unusedVariables false

/-- A number divided and rounded up. -/
def upI (by' n : Int) : Int := (n + by' - 1) / by'
def sw31 (n : Int) : Int := min (max n 0) 2147483648
def needI (spans swept began now goal : Int) : Int :=
  if sw31 goal ≤ sw31 began then sw31 spans - min (sw31 swept) (sw31 spans)
  else min (max (upI (sw31 goal - sw31 began) (sw31 spans * max (sw31 now - sw31 began) 0) - min (sw31 swept) (sw31 spans)) 0) (sw31 spans - min (sw31 swept) (sw31 spans))
def evenI (spans began goal : Int) : Int :=
  if sw31 goal ≤ sw31 began then 9223372036854775807 else divI (wholeI (sw31 spans)) (wholeI (sw31 goal - sw31 began))
theorem sw31_bd (n : Int) : 0 ≤ sw31 n ∧ sw31 n ≤ 2147483648 := by unfold sw31; omega
theorem sw31_id {n : Int} (h : 0 ≤ n) (h' : n ≤ 2147483648) : sw31 n = n := by unfold sw31; omega
theorem up_ge {b n : Int} (hb : 0 < b) : n ≤ upI b n * b ∧ (upI b n - 1) * b < n := by
  unfold upI
  have e := Int.mul_ediv_add_emod (n + b - 1) b
  have l := Int.emod_lt_of_pos (n + b - 1) hb
  have g := Int.emod_nonneg (n + b - 1) (by omega : b ≠ 0)
  rw [Int.mul_comm] at e
  rw [Int.sub_mul, Int.one_mul]
  omega
theorem up_le {b n m : Int} (hb : 0 < b) (h : n ≤ m * b) : upI b n ≤ m := by
  obtain ⟨h1, h2⟩ := up_ge (n := n) hb
  have h3 : (upI b n - 1) * b < m * b := by omega
  have := Int.lt_of_mul_lt_mul_right h3 (by omega)
  omega
theorem up_zero {b : Int} (hb : 0 < b) : upI b 0 = 0 := by
  unfold upI; exact Int.ediv_eq_zero_of_lt (by omega) (by omega)
theorem up_mono {b n m : Int} (hb : 0 < b) (h : n ≤ m) : upI b n ≤ upI b m := up_le hb (by have := (up_ge (n := m) hb).1; omega)
theorem up_nonneg {b n : Int} (hb : 0 < b) (h : 0 ≤ n) : 0 ≤ upI b n := by have := up_mono hb h; rw [up_zero hb] at this; exact this
theorem up_all {b n : Int} (hb : 0 < b) : upI b (n * b) = n := by
  have h1 := up_le hb (Int.le_refl (n * b))
  have h2 := (up_ge (n := n * b) hb).1
  have := Int.le_of_mul_le_mul_right h2 hb
  omega
/-- Within bounds: from c words on, x of w. -/
theorem need_mid {n d c x w : Int} (n0 : 0 ≤ n) (n1 : n ≤ 1048576) (d0 : 0 ≤ d) (d1 : d ≤ n) (c0 : 0 ≤ c) (c1 : c ≤ 1000) (x0 : 0 ≤ x) (x1 : x ≤ 2097152) (w0 : 1 ≤ w) (w1 : w ≤ 1048576) :
    needI n d c (c + x) (c + w) = min (max (upI w (n * x) - d) 0) (n - d) := by
  unfold needI
  rw [sw31_id c0 (by omega), sw31_id (by omega : 0 ≤ c + w) (by omega), sw31_id n0 (by omega), sw31_id d0 (by omega), sw31_id (by omega : 0 ≤ c + x) (by omega), if_neg (by omega),
    show min d n = d by omega, show c + w - c = w by omega, show max (c + x - c) 0 = x by omega]
/-- One step of sweeping: behind it just what is needed is swept. -/
theorem need_step {n d x w : Int} (n0 : 0 ≤ n) (x0 : 0 ≤ x) (x1 : x ≤ w) (w0 : 1 ≤ w) (d0 : 0 ≤ d) (hd : d ≤ upI w (n * x)) :
    d + min (max (upI w (n * x) - d) 0) (n - d) = upI w (n * x) ∧ upI w (n * x) ≤ n := by
  have : upI w (n * x) ≤ n := up_le (by omega) (Int.mul_le_mul_of_nonneg_left x1 n0)
  omega
/-- What is needed rises with what is allocated, and is all at the goal. -/
theorem need_parts {n d x y w : Int} (n0 : 0 ≤ n) (n1 : n ≤ 1048576) (d0 : 0 ≤ d) (d1 : d ≤ n) (x0 : 0 ≤ x) (xy : x ≤ y) (y1 : y ≤ w) (w0 : 1 ≤ w) (w1 : w ≤ 1048576) :
    0 ≤ needI n d 50 (50 + x) (50 + w) ∧ needI n d 50 (50 + x) (50 + w) ≤ needI n d 50 (50 + y) (50 + w) ∧ needI n d 50 (50 + y) (50 + w) ≤ n - d ∧ needI n d 50 50 (50 + w) = 0 ∧
    needI n 0 50 (50 + w) (50 + w) = n ∧ needI n n 50 (50 + y) (50 + w) = 0 ∧ n * y ≤ (d + needI n d 50 (50 + y) (50 + w)) * w := by
  have e0 := need_mid n0 n1 d0 d1 (by omega : (0 : Int) ≤ 50) (by omega) (Int.le_refl 0) (by omega) w0 w1
  rw [need_mid n0 n1 d0 d1 (by omega) (by omega) x0 (by omega) w0 w1, need_mid n0 n1 d0 d1 (by omega) (by omega) (by omega) (by omega) w0 w1,
    need_mid n0 n1 (Int.le_refl 0) n0 (by omega) (by omega) (by omega) (by omega) w0 w1, need_mid n0 n1 n0 (Int.le_refl n) (by omega) (by omega) (by omega) (by omega) w0 w1]
  rw [show (50 : Int) + 0 = 50 by omega, Int.mul_zero, up_zero (by omega)] at e0
  rw [e0, up_all (by omega)]
  have m1 := up_mono (b := w) (by omega) (Int.mul_le_mul_of_nonneg_left xy n0)
  have m2 : upI w (n * y) ≤ n := up_le (by omega) (Int.mul_le_mul_of_nonneg_left y1 n0)
  have m3 := (up_ge (b := w) (n := n * y) (by omega)).1
  have m4 := up_nonneg (b := w) (by omega) (Int.mul_nonneg n0 x0)
  refine ⟨by omega, by omega, by omega, by omega, by omega, by omega, ?_⟩
  refine Int.le_trans m3 (Int.mul_le_mul_of_nonneg_right ?_ (by omega))
  omega
end Go.Proofs.Ytikpoldmpmmpiaa.Fx
