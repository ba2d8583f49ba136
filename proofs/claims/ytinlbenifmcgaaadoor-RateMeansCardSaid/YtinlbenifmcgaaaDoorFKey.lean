/- Floats as places in one order: NaN, minus infinity, .., -0, 0, .., infinity; by whole numbers. -/
import Derived.Test.YtinlbenifmcgaaaDoorFloatOps
import Derived.Test.YtinlbenifmcgaaaDoorHeapMath
namespace Go.Proofs.YtinlbenifmcgaaaDoor
open Ieee Fl
set_option linter.unusedVariables false
namespace Fk
def NA : Nat := 2171
def NK : Nat := 2240
def top : Int := ((2 ^ NK : Nat) : Int)
def keyD : Datum → Int
  | .number s m i => 2 * val s m i + (if m = 0 ∧ s = false then 1 else 0)
  | .infinity s => if s then -top else top
  | .nan _ _ => -top - 1
/-- A float's place in the order. -/
def key (x : Nat) : Int := keyD (double.read x)
def isN (x : Nat) : Bool := (double.read x).isNaN
def neg (x : Nat) : Bool := x / 9223372036854775808 % 2 == 1
theorem val_zero (s : Bool) (i : Int) : val s 0 i = 0 := by unfold val; simp
theorem val_pos {s : Bool} {m : Nat} {i : Int} (h : m ≠ 0) : (s = false → 1 ≤ val s m i) ∧ (s = true → val s m i ≤ -1) := by
  have hp : 1 ≤ m * 2 ^ (i + 1200).toNat := Nat.mul_pos (Nat.pos_of_ne_zero h) (Nat.two_pow_pos _)
  unfold val sg
  generalize m * 2 ^ (i + 1200).toNat = M at *
  constructor <;> (intro e; subst e)
  · rw [if_neg (by decide)]; omega
  · rw [if_pos rfl]; omega
theorem top_eq : top = ((2 ^ NA : Nat) : Int) * 590295810358705651712 := by
  unfold top
  rw [show NK = NA + 69 from rfl, Nat.pow_add, Int.natCast_mul]
  rfl
theorem val_bd {x : Nat} {s : Bool} {m : Nat} {i : Int} (h : double.read x = .number s m i) : 2 * val s m i + 1 < top ∧ -top < 2 * val s m i := by
  obtain ⟨h1, h2, h3⟩ := read_bounds h
  have h4 : m * 2 ^ (i + 1200).toNat ≤ 9007199254740992 * 2 ^ NA := Nat.mul_le_mul (by omega) (Nat.pow_le_pow_right (by omega) (by unfold NA; omega))
  have h7 : 1 ≤ 2 ^ NA := Nat.two_pow_pos _
  rw [top_eq]
  unfold val sg
  generalize m * 2 ^ (i + 1200).toNat = M at *
  generalize 2 ^ NA = T at *
  cases s
  · rw [if_neg (by decide)]; omega
  · rw [if_pos rfl]; omega
theorem top_pos : 10 < top := by
  have h7 : 1 ≤ 2 ^ NA := Nat.two_pow_pos _
  rw [top_eq]
  generalize 2 ^ NA = T at *
  omega
theorem neg_read {x : Nat} (hx : x < 18446744073709551616) : (double.read x).neg = neg x := by
  unfold Format.read neg
  rw [signWeight_eq]
  dsimp only
  split
  · rfl
  · split
    · rfl
    · split <;> rfl
theorem ord_nan {x y : Nat} (h : isN x = true ∨ isN y = true) : FloatKind.f64.format.order x y = none := by
  show double.order x y = none
  unfold isN at h
  unfold Format.order
  generalize double.read x = d at *
  generalize double.read y = e at *
  cases d <;> cases e <;> first | rfl | (simp [Datum.isNaN] at h)
/-- How two that are no NaN stand to each other. -/
structure Cmp (x y : Nat) (r : Ordering) : Prop where
  o : FloatKind.f64.format.order x y = some r
  lt : r = Ordering.lt → key x < key y
  gt : r = Ordering.gt → key y < key x
  eq : r = Ordering.eq → (neg x && !neg y) = decide (key x < key y)
/-- A number's sign, its size and its place agree. -/
def Sgn (s : Bool) (m : Nat) (a : Int) : Prop := (m = 0 → a = 0) ∧ (m ≠ 0 → s = false → 1 ≤ a) ∧ (m ≠ 0 → s = true → a ≤ -1)
def kn (s : Bool) (m : Nat) (a : Int) : Int := 2 * a + (if m = 0 ∧ s = false then 1 else 0)
theorem sgn_val (s : Bool) (m : Nat) (i : Int) : Sgn s m (val s m i) := ⟨fun e => by subst e; exact val_zero _ _, fun h => (val_pos h).1, fun h => (val_pos h).2⟩
theorem kn_lt {s t : Bool} {m n : Nat} {a b : Int} (h1 : Sgn s m a) (h2 : Sgn t n b) (h : a < b) : kn s m a < kn t n b := by
  obtain ⟨z1, p1, q1⟩ := h1
  obtain ⟨z2, p2, q2⟩ := h2
  unfold kn
  by_cases m0 : m = 0
  · have e1 := z1 m0
    by_cases n0 : n = 0
    · have e2 := z2 n0; omega
    · rw [if_neg (show ¬ (n = 0 ∧ t = false) from fun e => n0 e.1)]
      split <;> omega
  · rw [if_neg (show ¬ (m = 0 ∧ s = false) from fun e => m0 e.1)]
    split <;> omega
theorem kn_eq {s t : Bool} {m n : Nat} {a b : Int} (h1 : Sgn s m a) (h2 : Sgn t n b) (h : a = b) : (s && !t) = decide (kn s m a < kn t n b) := by
  obtain ⟨z1, p1, q1⟩ := h1
  obtain ⟨z2, p2, q2⟩ := h2
  subst h
  unfold kn
  by_cases m0 : m = 0
  · have e1 := z1 m0
    have n0 : n = 0 := by
      by_cases n0 : n = 0
      · exact n0
      · cases t
        · have := p2 n0 rfl; omega
        · have := q2 n0 rfl; omega
    subst m0 n0
    cases s <;> cases t <;> simp <;> omega
  · have n0 : n ≠ 0 := fun n0 => by
      have := z2 n0
      cases s
      · have := p1 m0 rfl; omega
      · have := q1 m0 rfl; omega
    have e : s = t := by
      cases s <;> cases t
      · rfl
      · have := p1 m0 rfl; have := q2 n0 rfl; omega
      · have := q1 m0 rfl; have := p2 n0 rfl; omega
      · rfl
    subst e
    cases s <;> simp [m0, n0]
theorem cmp_any {x y : Nat} (hx : x < 18446744073709551616) (hy : y < 18446744073709551616) (nx : isN x = false) (ny : isN y = false) : ∃ o, Cmp x y o := by
  have gx := neg_read hx
  have gy := neg_read hy
  have tp := top_pos
  cases h1 : double.read x with
  | nan s t => unfold isN at nx; rw [h1] at nx; cases nx
  | infinity s =>
    cases h2 : double.read y with
    | nan s t => unfold isN at ny; rw [h2] at ny; cases ny
    | infinity t =>
      have ho : FloatKind.f64.format.order x y = some (compare t.toNat s.toNat) := by show double.order x y = _; unfold Format.order; rw [h1, h2]; rfl
      refine ⟨_, ho, fun e => ?_, fun e => ?_, fun e => ?_⟩ <;> (unfold key; rw [h1, h2]; rw [h1] at gx; rw [h2] at gy; unfold keyD; cases s <;> cases t <;> first | (exact absurd e (by decide)) | (rw [← gx, ← gy]; simp [Datum.neg]; done) | (simp only [if_true, if_false, Bool.false_eq_true]; omega) | (rw [← gx, ← gy]; simp only [Datum.neg, if_true, if_false, Bool.false_eq_true]; symm; first | (rw [decide_eq_false_iff_not]; omega) | (rw [decide_eq_true_iff]; omega)))
    | number t n j =>
      have ho : FloatKind.f64.format.order x y = some (if s then .lt else .gt) := by show double.order x y = _; unfold Format.order; rw [h1, h2]; cases s <;> rfl
      have hb := val_bd h2
      refine ⟨_, ho, fun e => ?_, fun e => ?_, fun e => ?_⟩
      all_goals unfold key; rw [h1, h2]; unfold keyD
      · cases s
        · cases e
        · simp only [if_true]; split <;> omega
      · cases s
        · simp only [if_false, Bool.false_eq_true]; split <;> omega
        · cases e
      · cases s <;> cases e
  | number s m i =>
    cases h2 : double.read y with
    | nan s t => unfold isN at ny; rw [h2] at ny; cases ny
    | infinity t =>
      have ho : FloatKind.f64.format.order x y = some (if t then .gt else .lt) := by show double.order x y = _; unfold Format.order; rw [h1, h2]; cases t <;> rfl
      have hb := val_bd h1
      refine ⟨_, ho, fun e => ?_, fun e => ?_, fun e => ?_⟩
      all_goals unfold key; rw [h1, h2]; unfold keyD
      · cases t
        · simp only [if_false, Bool.false_eq_true]; split <;> omega
        · cases e
      · cases t
        · cases e
        · simp only [if_true]; split <;> omega
      · cases t <;> cases e
    | number t n j =>
      have ho : FloatKind.f64.format.order x y = some (compare (val s m i) (val t n j)) := order_val h1 h2
      rw [h1] at gx; rw [h2] at gy
      have g1 := sgn_val s m i
      have g2 := sgn_val t n j
      have k1 : key x = kn s m (val s m i) := by unfold key; rw [h1]; rfl
      have k2 : key y = kn t n (val t n j) := by unfold key; rw [h2]; rfl
      refine ⟨compare (val s m i) (val t n j), ⟨ho, fun e => ?_, fun e => ?_, fun e => ?_⟩⟩
      · rw [k1, k2]
        refine kn_lt g1 g2 ?_
        rcases Int.lt_trichotomy (val s m i) (val t n j) with h | h | h
        · exact h
        · rw [compare_eq h] at e; cases e
        · rw [compare_gt h] at e; cases e
      · rw [k1, k2]
        refine kn_lt g2 g1 ?_
        rcases Int.lt_trichotomy (val s m i) (val t n j) with h | h | h
        · rw [compare_lt h] at e; cases e
        · rw [compare_eq h] at e; cases e
        · exact h
      · rw [k1, k2, ← gx, ← gy]
        refine kn_eq g1 g2 ?_
        rcases Int.lt_trichotomy (val s m i) (val t n j) with h | h | h
        · rw [compare_lt h] at e; cases e
        · exact h
        · rw [compare_gt h] at e; cases e
theorem key_nan {x : Nat} (h : isN x = true) : key x = -top - 1 := by
  unfold isN at h
  unfold key
  cases h1 : double.read x with
  | nan s t => rfl
  | infinity s => rw [h1] at h; cases h
  | number s m i => rw [h1] at h; cases h
theorem key_num {x : Nat} (h : isN x = false) : -top - 1 < key x := by
  have tp := top_pos
  unfold isN at h
  unfold key
  cases h1 : double.read x with
  | nan s t => rw [h1] at h; cases h
  | infinity s => unfold keyD; cases s <;> simp only [if_true, if_false, Bool.false_eq_true] <;> omega
  | number s m i => have := val_bd h1; unfold keyD; dsimp only; split <;> omega
/-- Is y ahead of x? -/
def ahead (x y : Nat) : Bool := decide (key y < key x)
theorem ahead_ord : Hm.Ord ahead := ⟨fun a b h => by unfold ahead at *; rw [decide_eq_true_iff] at h; rw [decide_eq_false_iff_not]; omega, fun a b c h k => by unfold ahead at *; rw [decide_eq_false_iff_not] at *; omega⟩
end Fk
end Go.Proofs.YtinlbenifmcgaaaDoor
