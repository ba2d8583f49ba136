/- What the package conf's calls, and the document's own answers for them, are for every float and every whole number of 64 bits: how much the heap may grow, the collector's part, whether a machine may be of a configuration. -/
import Derived.Test.YtinlbenifmcgaaaDoorReals
namespace Go.Proofs.YtinlbenifmcgaaaDoor
open Go.RowKit Go.Lib Fx Fl
set_option linter.unusedVariables false

namespace Fl
open Ieee
theorem val_kept {c m : Nat} {i : Int} (a : Nat) (hm : m = c * 2 ^ a) (e : a + (i + 1200).toNat = NN) : val false m i = (c : Int) * (TT : Int) := by
  unfold val sg
  rw [if_neg (by decide), Int.one_mul, hm, Nat.mul_assoc, ← Nat.pow_add, e, Int.natCast_mul]
  rfl
theorem read_zero : double.read 0 = .number false 0 (-1074) := by decide
theorem val_zero : val false 0 (-1074) = 0 := by
  unfold val
  rw [Nat.zero_mul, Int.natCast_zero, Int.mul_zero]
def c10k : Nat := 4666723172467343360
theorem read_10k : double.read 4666723172467343360 = .number false 5497558138880000 (-39) := by decide
theorem val_10k : val false 5497558138880000 (-39) = 10000 * (TT : Int) := val_kept (c := 10000) 39 (by decide) rfl
theorem read_one : double.read 4607182418800017408 = .number false 4503599627370496 (-52) := by decide
theorem val_one : val false 4503599627370496 (-52) = (TT : Int) := by
  have := val_kept (c := 1) (m := 4503599627370496) (i := -52) 52 (by decide) rfl
  rw [this, Int.natCast_one, Int.one_mul]
theorem read_64th : double.read 4580160821035794432 = .number false 4503599627370496 (-58) := by decide
theorem val_64th : val false 4503599627370496 (-58) * 64 = (TT : Int) := by
  unfold val sg
  rw [if_neg (by decide), Int.one_mul, show (4503599627370496 : Nat) = 2 ^ 52 from by decide, ← Nat.pow_add, show (64 : Int) = ((2 ^ 6 : Nat) : Int) from by decide, ← Int.natCast_mul, ← Nat.pow_add, show 52 + ((-58 : Int) + 1200).toNat + 6 = NN from rfl]
  rfl
theorem read_max : double.read 9218868437227405311 = .number false 9007199254740991 971 := by decide
theorem val_le_max {x : Nat} {s : Bool} {m : Nat} {i : Int} (hx : double.read x = .number s m i) : val s m i ≤ val false 9007199254740991 971 := by
  obtain ⟨b1, b2, b3⟩ := read_bounds hx
  have h1 : m * 2 ^ (i + 1200).toNat ≤ 9007199254740991 * 2 ^ ((971 : Int) + 1200).toNat := Nat.mul_le_mul (by omega) (Nat.pow_le_pow_right (by decide) (by omega))
  unfold val
  rw [show sg false = 1 from rfl, Int.one_mul]
  obtain ⟨A, hA⟩ : ∃ A, A = m * 2 ^ (i + 1200).toNat := ⟨_, rfl⟩
  obtain ⟨B, hB⟩ : ∃ B, B = 9007199254740991 * 2 ^ ((971 : Int) + 1200).toNat := ⟨_, rfl⟩
  rw [← hA, ← hB] at h1
  rw [← hA, ← hB]
  cases s
  · rw [show sg false = 1 from rfl]; omega
  · rw [show sg true = -1 from rfl]; omega
theorem nearest_zero (place : Int) : double.nearest false 0 place = 0 := by
  unfold Format.nearest; rw [if_pos rfl]; rfl
theorem sub_self {x : Nat} {s : Bool} {m : Nat} {i : Int} (hx : double.read x = .number s m i) : double.sub x x = some 0 := by
  unfold Format.sub
  rw [hx]
  unfold Datum.opposite Datum.sum
  have h0 : signed s m (i - min i i).toNat + signed (!s) m (i - min i i).toNat = 0 := by
    unfold signed; cases s <;> simp <;> omega
  simp only [h0, Option.map_some]
  unfold Format.write
  cases s <;> exact congrArg some (nearest_zero _)
theorem sub_inf {x : Nat} {s : Bool} (hx : double.read x = .infinity s) : double.sub x x = none := by
  unfold Format.sub
  rw [hx]
  cases s <;> rfl
def nanOf (w : World) (x : Nat) : Nat := (Question.nanBits .f64 x x).cut (w.tape w.drawn (.nanBits .f64 x x))
theorem nan_read (t : Nat) : ∃ s f, double.read ((t % 2) * 2 ^ 63 + 0x7ff0000000000000 + 1 + (t / 2) % (2 ^ 52 - 1)) = .nan s f := by
  unfold Format.read
  simp only [leastPlace_eq, binade_eq, infRung_eq, signWeight_eq]
  have e63 : (2 : Nat) ^ 63 = 9223372036854775808 := by decide
  have e52 : (2 : Nat) ^ 52 - 1 = 4503599627370495 := by decide
  rw [e63, e52]
  obtain ⟨a, ha⟩ : ∃ a, a = t % 2 := ⟨_, rfl⟩
  obtain ⟨b, hb⟩ : ∃ b, b = t / 2 % 4503599627370495 := ⟨_, rfl⟩
  have h1 : a < 2 := by omega
  have h2 : b < 4503599627370495 := by omega
  rw [← ha, ← hb]
  clear ha hb
  rw [if_neg (by omega), if_neg (by omega), if_neg (by omega)]
  exact ⟨_, _, rfl⟩
theorem nan_order (w : World) (x : Nat) : FloatKind.f64.format.order (nanOf w x) 0 = none := by
  show double.order _ _ = _
  obtain ⟨s, f, h⟩ := nan_read (w.tape w.drawn (.nanBits .f64 x x))
  unfold Format.order
  rw [show double.read (nanOf w x) = .nan s f from h]
  rfl

/-- How much the heap may grow, told by the float's value: in hundredths, and whether the collector is on. -/
def pctI (x : Nat) : Int :=
  match double.read x with
  | .nan _ _ => 100
  | .infinity _ => 0
  | .number s m i => if val s m i < 0 then 0 else if 10000 * (TT : Int) ≤ val s m i then 10000 else (val s m i).tdiv (TT : Int)
def pctB (x : Nat) : Bool :=
  match double.read x with
  | .nan _ _ => true
  | .infinity _ => false
  | .number s m i => !decide (val s m i < 0)
/-- The collector's part, told by the float's value. -/
def partI (x : Nat) : Int :=
  match double.read x with
  | .nan _ _ => 262144
  | .infinity s => if s then 16384 else 1048576
  | .number s m i => if val s m i * 64 < (TT : Int) then 16384 else if (TT : Int) ≤ val s m i then 1048576 else floatI x

theorem ord_num {x c : Nat} {s t : Bool} {m n : Nat} {i j : Int} (hx : double.read x = .number s m i) (hc : double.read c = .number t n j) : FloatKind.f64.format.order x c = some (compare (val s m i) (val t n j)) := order_val hx hc
theorem ord_self {x : Nat} {s : Bool} {m : Nat} {i : Int} (hx : double.read x = .number s m i) : FloatKind.f64.format.order x x = some .eq := by rw [ord_num hx hx, compare_eq rfl]
theorem ord_nan {x c : Nat} {s : Bool} {t : Nat} (hx : double.read x = .nan s t) : FloatKind.f64.format.order x c = none := by show double.order x c = none; unfold Format.order; rw [hx]; rfl
theorem ord_nan2 {x c : Nat} {s : Bool} {t : Nat} (hx : double.read x = .nan s t) : FloatKind.f64.format.order c x = none := by show double.order c x = none; unfold Format.order; rw [hx]; generalize double.read c = d; cases d <;> rfl
theorem ord_inf {x c : Nat} {s t : Bool} {n : Nat} {j : Int} (hx : double.read x = .infinity s) (hc : double.read c = .number t n j) : FloatKind.f64.format.order x c = some (if s then .lt else .gt) := by show double.order x c = _; unfold Format.order; rw [hx, hc]; cases s <;> rfl
theorem ord_inf_self {x : Nat} {s : Bool} (hx : double.read x = .infinity s) : FloatKind.f64.format.order x x = some .eq := by show double.order x x = _; unfold Format.order; rw [hx]; cases s <;> rfl

theorem compare_ge {a b : Int} (h : b ≤ a) : compare a b = .gt ∨ compare a b = .eq := by
  by_cases e : a = b
  · exact Or.inr (compare_eq e)
  · exact Or.inl (compare_gt (by omega))
theorem compare_le {a b : Int} (h : a ≤ b) : compare a b = .lt ∨ compare a b = .eq := by
  by_cases e : a = b
  · exact Or.inr (compare_eq e)
  · exact Or.inl (compare_lt (by omega))

/-- The ways through both Percents. -/
inductive PctWay (x : Nat) : Int → Bool → Prop where
  | nan (o : FloatKind.f64.format.order x x = none) : PctWay x 100 true
  | neg (o : FloatKind.f64.format.order x x = some .eq) (o0 : FloatKind.f64.format.order x 0 = some .lt) : PctWay x 0 false
  | inf (o : FloatKind.f64.format.order x x = some .eq) (o0 : FloatKind.f64.format.order x 0 = some .gt) (om : FloatKind.f64.format.order x 9218868437227405311 = some .gt) (hs : double.sub x x = none) : PctWay x 0 false
  | big (o : FloatKind.f64.format.order x x = some .eq) (o0 : FloatKind.f64.format.order x 0 = some .gt) (om : FloatKind.f64.format.order x 9218868437227405311 = some .lt ∨ FloatKind.f64.format.order x 9218868437227405311 = some .eq) (ok : FloatKind.f64.format.order x 4666723172467343360 = some .gt ∨ FloatKind.f64.format.order x 4666723172467343360 = some .eq) (hs : double.sub x x = some 0) : PctWay x 10000 true
  | mid (n : Int) (o : FloatKind.f64.format.order x x = some .eq) (o0 : FloatKind.f64.format.order x 0 = some .gt ∨ FloatKind.f64.format.order x 0 = some .eq) (om : FloatKind.f64.format.order x 9218868437227405311 = some .lt) (ok : FloatKind.f64.format.order x 4666723172467343360 = some .lt) (hs : double.sub x x = some 0) (hc : floatToIntVal .f64 x .i64 = some n) (n0 : 0 ≤ n) (n1 : n ≤ 9999) : PctWay x n true
theorem pct_way (x : Nat) : PctWay x (pctI x) (pctB x) := by
  obtain ⟨d, hd⟩ : ∃ d, double.read x = d := ⟨_, rfl⟩
  cases d with
  | nan s t =>
    rw [show pctI x = 100 by unfold pctI; rw [hd], show pctB x = true by unfold pctB; rw [hd]]
    exact .nan (ord_nan hd)
  | infinity s =>
    rw [show pctI x = 0 by unfold pctI; rw [hd], show pctB x = false by unfold pctB; rw [hd]]
    cases s with
    | true => exact .neg (ord_inf_self hd) (ord_inf hd read_zero)
    | false => exact .inf (ord_inf_self hd) (ord_inf hd read_zero) (ord_inf hd read_max) (sub_inf hd)
  | number s m i =>
    have q0 := ord_num hd read_zero
    have qm := ord_num hd read_max
    have qk := ord_num hd read_10k
    rw [val_zero] at q0
    rw [val_10k] at qk
    have hm := val_le_max hd
    have hT : (0 : Int) < (TT : Int) := by have := TT_pos; omega
    have e1 : pctI x = if val s m i < 0 then 0 else if 10000 * (TT : Int) ≤ val s m i then 10000 else (val s m i).tdiv (TT : Int) := by unfold pctI; rw [hd]
    have e2 : pctB x = !decide (val s m i < 0) := by unfold pctB; rw [hd]
    by_cases h1 : val s m i < 0
    · rw [e1, e2, if_pos h1, decide_eq_true h1]
      exact .neg (ord_self hd) (by rw [q0, compare_lt h1])
    · rw [e1, e2, if_neg h1, decide_eq_false h1]
      by_cases h2 : 10000 * (TT : Int) ≤ val s m i
      · rw [if_pos h2]
        refine .big (ord_self hd) (by rw [q0, compare_gt (by omega)]) ?_ ?_ (sub_self hd)
        · rw [qm]; rcases compare_le hm with h | h <;> rw [h] <;> simp
        · rw [qk]; rcases compare_ge h2 with h | h <;> rw [h] <;> simp
      · rw [if_neg h2]
        have hk : val s m i < val false 9007199254740991 971 := by
          have : val false 5497558138880000 (-39) < val false 9007199254740991 971 := by
            unfold val
            rw [show sg false = 1 from rfl, Int.one_mul, Int.one_mul]
            refine Int.ofNat_lt.2 (Nat.mul_lt_mul_of_lt_of_le (by decide) (Nat.pow_le_pow_right (by decide) (by decide)) (Nat.two_pow_pos _))
          rw [val_10k] at this
          omega
        have b0 : 0 ≤ (val s m i).tdiv (TT : Int) := Int.tdiv_nonneg (by omega) (by omega)
        have b1 : (val s m i).tdiv (TT : Int) < 10000 := by
          rw [Int.tdiv_eq_ediv_of_nonneg (by omega)]
          exact Int.ediv_lt_of_lt_mul hT (by omega)
        refine .mid _ (ord_self hd) ?_ (by rw [qm, compare_lt hk]) (by rw [qk, compare_lt (by omega)]) (sub_self hd) ?_ b0 (by omega)
        · rw [q0]; rcases compare_ge (show (0 : Int) ≤ val s m i by omega) with h | h <;> rw [h] <;> simp
        · unfold floatToIntVal
          rw [show FloatKind.f64.decode x = Ieee.double.read x from rfl, toInt_val hd]
          exact if_pos (show -9223372036854775808 ≤ (val s m i).tdiv (TT : Int) ∧ (val s m i).tdiv (TT : Int) ≤ 9223372036854775807 from by omega)

/-- The ways through both Parts. -/
inductive PartWay (x : Nat) : Int → Prop where
  | nan (o : FloatKind.f64.format.order x x = none) : PartWay x 262144
  | low (o : FloatKind.f64.format.order x x = some .eq) (o1 : FloatKind.f64.format.order x 4580160821035794432 = some .lt) : PartWay x 16384
  | high (o : FloatKind.f64.format.order x x = some .eq) (o1 : FloatKind.f64.format.order x 4580160821035794432 = some .gt) (o2 : FloatKind.f64.format.order x 4607182418800017408 = some .gt ∨ FloatKind.f64.format.order x 4607182418800017408 = some .eq) : PartWay x 1048576
  | mid (o : FloatKind.f64.format.order x x = some .eq) (o1 : FloatKind.f64.format.order x 4580160821035794432 = some .gt ∨ FloatKind.f64.format.order x 4580160821035794432 = some .eq) (o2 : FloatKind.f64.format.order x 4607182418800017408 = some .lt) : PartWay x (floatI x)
theorem part_way (x : Nat) : PartWay x (partI x) := by
  obtain ⟨d, hd⟩ : ∃ d, double.read x = d := ⟨_, rfl⟩
  cases d with
  | nan s t =>
    rw [show partI x = 262144 by unfold partI; rw [hd]]
    exact .nan (ord_nan hd)
  | infinity s =>
    cases s with
    | true =>
      rw [show partI x = 16384 by unfold partI; rw [hd]; rfl]
      exact .low (ord_inf_self hd) (ord_inf hd read_64th)
    | false =>
      rw [show partI x = 1048576 by unfold partI; rw [hd]; rfl]
      exact .high (ord_inf_self hd) (ord_inf hd read_64th) (Or.inl (ord_inf hd read_one))
  | number s m i =>
    have q1 := ord_num hd read_64th
    have q2 := ord_num hd read_one
    rw [val_one] at q2
    have h64 := val_64th
    obtain ⟨V, hV⟩ : ∃ V, V = val false 4503599627370496 (-58) := ⟨_, rfl⟩
    rw [← hV] at q1 h64
    have hT : (0 : Int) < (TT : Int) := by have := TT_pos; omega
    have e1 : partI x = if val s m i * 64 < (TT : Int) then 16384 else if (TT : Int) ≤ val s m i then 1048576 else floatI x := by unfold partI; rw [hd]
    by_cases h1 : val s m i * 64 < (TT : Int)
    · rw [e1, if_pos h1]
      exact .low (ord_self hd) (by rw [q1, compare_lt (by omega)])
    · rw [e1, if_neg h1]
      by_cases h2 : (TT : Int) ≤ val s m i
      · rw [if_pos h2]
        refine .high (ord_self hd) (by rw [q1, compare_gt (by omega)]) ?_
        rw [q2]; rcases compare_ge h2 with h | h <;> rw [h] <;> simp
      · rw [if_neg h2]
        refine .mid (ord_self hd) ?_ (by rw [q2, compare_lt (by omega)])
        rw [q1]; rcases compare_ge (show V ≤ val s m i by omega) with h | h <;> rw [h] <;> simp
end Fl

end Go.Proofs.YtinlbenifmcgaaaDoor
