/- Floats' operations as package rate and the document's own answer use them: results by their places in the order of all. -/
import Derived.Test.YtinlbenifmcgaaaDoorMostR
import Derived.Laws.FloatArith
namespace Go.Proofs.YtinlbenifmcgaaaDoor
open Go.RowKit Go.Lib Fx Ho Gr
set_option linter.unusedVariables false
namespace Pr
open Fk Fl Ieee
variable {w w' : World} {x y r : Nat}
/-- The place of an operation's result: of none, that of NaN. -/
def keyO : Option Nat → Int
  | some r => key r
  | none => -top - 1
def four (op : BinOp) : Prop := op = .add ∨ op = .sub ∨ op = .mul ∨ op = .quo
def nanB (w : World) (x y : Nat) : Nat := (Question.nanBits .f64 x y).cut (w.tape w.drawn (.nanBits .f64 x y))
theorem nan_read (t : Nat) : ∃ s f, double.read ((t % 2) * 2 ^ 63 + 0x7ff0000000000000 + 1 + (t / 2) % (2 ^ 52 - 1)) = .nan s f := by
  unfold Format.read
  simp only [leastPlace_eq, binade_eq, infRung_eq, signWeight_eq]
  have e63 : (2 : Nat) ^ 63 = 9223372036854775808 := by decide
  have e52 : (2 : Nat) ^ 52 - 1 = 4503599627370495 := by decide
  rw [e63, e52]
  obtain ⟨a, ha⟩ : ∃ a, a = t % 2 := ⟨_, rfl⟩
  obtain ⟨b, hb⟩ : ∃ b, b = t / 2 % 4503599627370495 := ⟨_, rfl⟩
  have h1 : a < 2 := by omega
  have h2 : b < 4503599627370495 := by omega
  rw [← ha, ← hb]
  clear ha hb
  rw [if_neg (by omega), if_neg (by omega), if_neg (by omega)]
  exact ⟨_, _, rfl⟩
theorem nanB_ok (w : World) (x y : Nat) : Wf (nanB w x y) ∧ isN (nanB w x y) = true := by
  refine ⟨?_, ?_⟩
  · show ((w.tape w.drawn (.nanBits .f64 x y)) % 2) * 2 ^ 63 + 0x7ff0000000000000 + 1 + ((w.tape w.drawn (.nanBits .f64 x y)) / 2) % (2 ^ 52 - 1) < 18446744073709551616
    generalize w.tape w.drawn (.nanBits .f64 x y) = t
    have e63 : (2 : Nat) ^ 63 = 9223372036854775808 := by decide
    have e52 : (2 : Nat) ^ 52 - 1 = 4503599627370495 := by decide
    rw [e63, e52]
    have h1 : t % 2 < 2 := Nat.mod_lt _ (by decide)
    have h2 : t / 2 % 4503599627370495 < 4503599627370495 := Nat.mod_lt _ (by decide)
    omega
  · obtain ⟨s, f, h⟩ := nan_read (w.tape w.drawn (.nanBits .f64 x y))
    unfold isN
    rw [show double.read (nanB w x y) = .nan s f from h]
    rfl
theorem run_none {P : Program} {op : BinOp} (hop : four op) (t : TypeId) (x y : Nat) (h : floatBits op .f64 x y = none) (w : World) : (binOp op t (.float .f64 x) (.float .f64 y)).run P w = .ok (.float .f64 (nanB w x y)) w.drew := by
  unfold floatBits at h
  rcases hop with rfl | rfl | rfl | rfl <;> (simp only at h; simp [binOp, Op.floatArith, h]; rfl)
/-- What an operation on floats gives. -/
theorem op_any {op : BinOp} (hop : four op) (x y : Nat) : ∃ (g : World → Nat) (d : Nat), (∀ (P : Program) (t : TypeId) (w : World), (binOp op t (.float .f64 x) (.float .f64 y)).run P w = .ok (.float .f64 (g w)) (w.drewN d)) ∧ ∀ w, Wf (g w) ∧ key (g w) = keyO (floatBits op .f64 x y) ∧ ∀ r, floatBits op .f64 x y = some r → g w = r := by
  cases h : floatBits op .f64 x y with
  | none => exact ⟨fun w => nanB w x y, 1, fun P t w => run_none hop t x y h w, fun w => ⟨(nanB_ok w x y).1, key_nan (nanB_ok w x y).2, fun r hr => by cases hr⟩⟩
  | some r => exact ⟨fun _ => r, 0, fun P t w => run_float_arith w op t .f64 x y r h, fun w => ⟨by have := floatBits_wf h; simpa [Lit.wf, Wf] using this, rfl, fun r' hr => by cases hr; rfl⟩⟩
/-- A float is told, the operation's result. -/
def Fa (o : Option Nat) (w : World) (e : Ending) (w' : World) : Prop := ∃ y k, e = .returned (.float .f64 y) ∧ w' = w.drewN k ∧ Wf y ∧ key y = keyO o ∧ ∀ r, o = some r → y = r
set_option maxRecDepth 100000 in
theorem share_any (a b : Int) (w : World) : Calls Tryd.prog 13 #[.int .i64 a, .int .i64 b] w (Fa (floatBits .quo .f64 (floatOfInt .f64 a) (floatOfInt .f64 b)) w) := by
  obtain ⟨g, d, hr, hg⟩ := op_any (op := .quo) (by simp [four]) (floatOfInt .f64 a) (floatOfInt .f64 b)
  have hq := fun w => hr Tryd.prog 23 w
  replace hg := Lib.hid hg
  clear hr
  generalize floatBits .quo .f64 (floatOfInt .f64 a) (floatOfInt .f64 b) = o at *
  go_enter Tryd.func13, Tryd.ntmps13
  go_wp2_with fail
  go_ret
  exact ⟨_, _, rfl, rfl, hg.out _⟩
set_option maxRecDepth 100000 in
theorem rshare_any (a b : Int) (w : World) : Calls Tryd.prog 14 #[.int .i64 a, .int .i64 b] w (Fa (floatBits .quo .f64 (floatOfInt .f64 a) (floatOfInt .f64 b)) w) := by
  obtain ⟨g, d, hr, hg⟩ := op_any (op := .quo) (by simp [four]) (floatOfInt .f64 a) (floatOfInt .f64 b)
  have hq := fun w => hr Tryd.prog 23 w
  replace hg := Lib.hid hg
  clear hr
  generalize floatBits .quo .f64 (floatOfInt .f64 a) (floatOfInt .f64 b) = o at *
  go_enter Tryd.func14, Tryd.ntmps14
  go_wp2_with fail
  go_ret
  exact ⟨_, _, rfl, rfl, hg.out _⟩
/-- The means of some: their sum, how many. -/
def addO (o : Option Nat) (x : Nat) : Option Nat := o.bind fun r => floatBits .add .f64 r x
def sumO : List Nat → Option Nat × Nat
  | [] => (some 0, 0)
  | zs => zs.foldl (fun p x => if isN x then p else (addO p.1 x, p.2 + 1)) (some 0, 0)
def stepM (p : Option Nat × Nat) (x : Nat) : Option Nat × Nat := if isN x then p else (addO p.1 x, p.2 + 1)
def sumM (zs : List Nat) : Option Nat × Nat := zs.foldl stepM (some 0, 0)
def meanO (zs : List Nat) : Option Nat := (sumM zs).1.bind fun r => floatBits .quo .f64 r (floatOfInt .f64 (sumM zs).2)
theorem sumM_take {zs : List Nat} {i : Nat} (h : i < zs.length) : sumM (zs.take (i + 1)) = stepM (sumM (zs.take i)) (zs.getD i 0) := by
  unfold sumM
  rw [List.take_succ_eq_append_getElem h, List.foldl_append, List.getD_eq_getElem?_getD, List.getElem?_eq_getElem h]
  rfl
theorem sumM_le (zs : List Nat) (i : Nat) : (sumM (zs.take i)).2 ≤ i := by
  induction i with
  | zero => simp [sumM]
  | succ i ih =>
    rcases Nat.lt_or_ge i zs.length with h | h
    · rw [sumM_take h]
      unfold stepM
      split
      · omega
      · dsimp only; omega
    · rw [List.take_of_length_le (by omega)]
      rw [List.take_of_length_le h] at ih
      omega
/-- A float that stands for a result. -/
def St (o : Option Nat) (y : Nat) : Prop := Wf y ∧ key y = keyO o ∧ ∀ r, o = some r → y = r
theorem nan_of_key {y : Nat} (h : key y = -top - 1) : isN y = true := by
  cases e : isN y with
  | true => rfl
  | false => have := key_num e; omega
theorem bits_nan {op : BinOp} {x y : Nat} (h : isN x = true) : floatBits op .f64 x y = none := by
  unfold isN at h
  have hx : ∃ s t, double.read x = .nan s t := by
    cases e : double.read x with
    | nan s t => exact ⟨s, t, rfl⟩
    | infinity s => rw [e] at h; cases h
    | number s m i => rw [e] at h; cases h
  obtain ⟨s, t, hx⟩ := hx
  unfold floatBits
  cases op <;> first | rfl | skip
  all_goals
    show Option.map _ _ = none
  · show Option.map _ ((double.read x).sum _) = none
    rw [hx]; rfl
  · show Option.map _ ((double.read x).sum _) = none
    rw [hx]; rfl
  · show Option.map _ ((double.read x).product _) = none
    rw [hx]; rfl
  · show Option.map _ ((double.read x).quotient _ _) = none
    rw [hx]; rfl
theorem St.op {o : Option Nat} {y : Nat} (h : St o y) (op : BinOp) (x : Nat) : floatBits op .f64 y x = o.bind fun r => floatBits op .f64 r x := by
  cases o with
  | none => exact bits_nan (nan_of_key h.2.1)
  | some r => rw [h.2.2 r rfl]; rfl
end Pr
end Go.Proofs.YtinlbenifmcgaaaDoor
