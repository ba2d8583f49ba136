/- rate.Text and the document's Text tell the same string of every float. -/
import Derived.Test.YtinlbenifmcgaaaDoorText2
namespace Go.Proofs.YtinlbenifmcgaaaDoor
open Go.RowKit Go.Lib Fx Ho Gr
set_option linter.unusedVariables false
namespace Pr
open Fk Fl Ieee Tm
variable {w w' : World} {x y r : Nat} {v : Value} {zs : List Nat}
def hund (x : Nat) : Nat := (double.mul c100 (ab x)).getD 0
def signT (x : Nat) : ByteArray := if neg x then ⟨#[45]⟩ else ⟨#[43]⟩
def signN (x : Nat) : ByteArray := if neg x then ⟨#[45]⟩ else ⟨#[]⟩
/-- The text of a float. -/
def TextS (x : Nat) : ByteArray :=
  if isN x then ⟨#[78, 97, 78]⟩
  else if (double.read x).isInfinity then signT x ++ ⟨#[73, 110, 102]⟩
  else if FloatKind.f64.format.order (hund x) c50 = some .lt then signN x ++ ⟨(Lib.itoa (numT (hund x))).toArray⟩ ++ ⟨#[37]⟩
  else signT x ++ ⟨#[66, 105, 103]⟩
/-- What is known of a float that is no NaN. -/
theorem kind_of {x : Nat} (nx : isN x = false) : (∃ s m i, double.read x = .number s m i) ∨ (∃ s, double.read x = .infinity s) := by
  unfold isN at nx
  cases h : double.read x with
  | nan s t => rw [h] at nx; cases nx
  | infinity s => exact Or.inr ⟨s, rfl⟩
  | number s m i => exact Or.inl ⟨s, m, i, rfl⟩
theorem hund_ok {x : Nat} (nx : isN x = false) : double.mul c100 (ab x) = some (hund x) ∧ double.mul (ab x) c100 = some (hund x) ∧ hund x < 9223372036854775808 ∧ ((∃ M I, double.read (hund x) = .number false M I) ∨ double.read (hund x) = .infinity false) := by
  have ha : (∃ m i, double.read (ab x) = .number false m i) ∨ double.read (ab x) = .infinity false := by
    rcases kind_of nx with ⟨s, m, i, h⟩ | ⟨s, h⟩
    · exact Or.inl ⟨m, i, ab_read h⟩
    · exact Or.inr (ab_inf h)
  obtain ⟨h, h1, h2, h3, h4⟩ := hund_any ha
  have : hund x = h := by unfold hund; rw [h1]; rfl
  rw [this]
  exact ⟨h1, h2, h3, h4⟩
theorem ord_max_num {s : Bool} {m : Nat} {i : Int} (h : double.read x = .number s m i) : ∃ o, FloatKind.f64.format.order (ab x) 9218868437227405311 = some o ∧ false = (o == .gt) := by
  refine ⟨_, order_val (ab_read h) read_max, ?_⟩
  have := val_le_max (ab_read h)
  rcases compare_le this with e | e <;> rw [e] <;> rfl
theorem ord_max_inf {s : Bool} (h : double.read x = .infinity s) : ∃ o, FloatKind.f64.format.order (ab x) 9218868437227405311 = some o ∧ true = (o == .gt) := by
  refine ⟨.gt, ?_, rfl⟩
  show double.order _ _ = _
  unfold Format.order
  rw [ab_inf h, read_max]; rfl
set_option maxRecDepth 100000 in
set_option maxHeartbeats 4000000 in
theorem text_any (x : Nat) (hx : Wf x) (hT : Tab w) : Calls Tryd.prog 19 #[.float .f64 x] w fun e w' => e = .returned (.string (TextS x)) ∧ Below w.heap.size w w' := by
  cases nx : isN x with
  | true =>
    have o1 := ord_no nx
    rw [show TextS x = ⟨#[78, 97, 78]⟩ by unfold TextS; rw [if_pos nx]]
    clear hT
    go_enter Tryd.func19, Tryd.ntmps19
    go_wp2_with fail
    go_ret
    exact ⟨rfl, Below.refl _ _⟩
  | false =>
    have o1 := ord_self hx nx
    obtain ⟨m1, m2, hl, hk⟩ := hund_ok nx
    have cs := fun w => sign_any x hx w
    have ca := fun w => abs_any x hx w
    have hq := fun w => run_float_arith (P := Tryd.prog) w .mul 23 .f64 c100 (ab x) _ m1
    simp only [c100] at hq
    have tn : TextS x = if (double.read x).isInfinity then signT x ++ ⟨#[73, 110, 102]⟩ else if FloatKind.f64.format.order (hund x) c50 = some .lt then signN x ++ ⟨(Lib.itoa (numT (hund x))).toArray⟩ ++ ⟨#[37]⟩ else signT x ++ ⟨#[66, 105, 103]⟩ := by
      unfold TextS; rw [if_neg (by rw [nx]; decide)]
    rw [tn]
    clear tn
    rcases kind_of nx with ⟨s, m, i, hr⟩ | ⟨s, hr⟩
    · have ci := fun w => isinf_any x hx false (ord_max_num hr) w
      rw [if_neg (by rw [hr]; exact Bool.false_ne_true)]
      obtain ⟨o, ho, hlt⟩ := hund_ord hl hk
      have ho2 := ho
      simp only [c50] at ho2
      rw [ho]
      cases o with
      | lt =>
        obtain ⟨M, I, g1, g2⟩ := hlt rfl
        obtain ⟨p1, p2, p3⟩ := prog_num hl g1 g2
        have cr := fun w => round_any (hund x) hl (exp_lt g1 hl g2) w
        have hcc : ∀ w, (convert 23 3 (.float .f64 (rnd (hund x)))).run Tryd.prog w = .ok (.int .i64 (numT (hund x))) w := fun w => run_convert_float_int w 23 3 .f64 .i64 _ _ (by rw [Tryd.underlying23]; rfl) Tryd.underlying3 p1
        have ct := Tryd.strconv_Itoa (numT (hund x)) (by omega) (by omega) w (hT.here)
        have hlen := Lib.itoa_length_le (numT (hund x)) (by omega) (by omega)
        rw [if_pos rfl]
        generalize numT (hund x) = n at *
        generalize hund x = h at *
        generalize rnd h = rh at *
        generalize Lib.itoa n = T at *
        unfold signN
        clear hT m1 m2 hl hk ho hlt g1 g2 p1 p2 p3 hr nx
        cases hs : neg x
        all_goals
          rw [hs] at cs
          simp only [if_true, if_false, Bool.false_eq_true]
          clear hs
          go_enter Tryd.func19, Tryd.ntmps19
          go_wp2_with (first | (go_at_call 29; (with_reducible refine Calls.mono (cs _) ?_); rintro e w2 ⟨rfl, rfl⟩) | (go_at_call 30; (with_reducible refine Calls.mono (ca _) ?_); rintro e w2 ⟨rfl, rfl⟩) | (go_at_call 31; (with_reducible refine Calls.mono (ci _) ?_); rintro e w2 ⟨rfl, rfl⟩) | (go_at_call 33; (with_reducible refine Calls.mono (cr _) ?_); rintro e w2 ⟨rfl, rfl⟩) | (go_at_call 32; (with_reducible refine Calls.mono ct ?_); rintro e w2 ⟨rfl, k, os, rfl⟩))
          go_ret
          exact ⟨rfl, Lib.below_grow _ _ (Nat.le_refl _) _ _⟩
      | eq =>
        rw [if_neg (by decide)]
        clear ho hlt
        generalize hund x = h at *
        unfold signT
        clear hT m1 m2 hl hk hr nx
        cases hs : neg x
        all_goals
          rw [hs] at cs
          simp only [if_true, if_false, Bool.false_eq_true]
          clear hs
          go_enter Tryd.func19, Tryd.ntmps19
          go_wp2_with (first | (go_at_call 29; (with_reducible refine Calls.mono (cs _) ?_); rintro e w2 ⟨rfl, rfl⟩) | (go_at_call 30; (with_reducible refine Calls.mono (ca _) ?_); rintro e w2 ⟨rfl, rfl⟩) | (go_at_call 31; (with_reducible refine Calls.mono (ci _) ?_); rintro e w2 ⟨rfl, rfl⟩))
          go_ret
          exact ⟨rfl, Below.refl _ _⟩
      | gt =>
        rw [if_neg (by decide)]
        clear ho hlt
        generalize hund x = h at *
        unfold signT
        clear hT m1 m2 hl hk hr nx
        cases hs : neg x
        all_goals
          rw [hs] at cs
          simp only [if_true, if_false, Bool.false_eq_true]
          clear hs
          go_enter Tryd.func19, Tryd.ntmps19
          go_wp2_with (first | (go_at_call 29; (with_reducible refine Calls.mono (cs _) ?_); rintro e w2 ⟨rfl, rfl⟩) | (go_at_call 30; (with_reducible refine Calls.mono (ca _) ?_); rintro e w2 ⟨rfl, rfl⟩) | (go_at_call 31; (with_reducible refine Calls.mono (ci _) ?_); rintro e w2 ⟨rfl, rfl⟩))
          go_ret
          exact ⟨rfl, Below.refl _ _⟩
    · have ci := fun w => isinf_any x hx true (ord_max_inf hr) w
      rw [if_pos (by rw [hr]; rfl)]
      generalize hund x = h at *
      unfold signT
      clear hT m1 m2 hl hk hr nx
      cases hs : neg x
      all_goals
        rw [hs] at cs
        simp only [if_true, if_false, Bool.false_eq_true]
        clear hs
        go_enter Tryd.func19, Tryd.ntmps19
        go_wp2_with (first | (go_at_call 29; (with_reducible refine Calls.mono (cs _) ?_); rintro e w2 ⟨rfl, rfl⟩) | (go_at_call 30; (with_reducible refine Calls.mono (ca _) ?_); rintro e w2 ⟨rfl, rfl⟩) | (go_at_call 31; (with_reducible refine Calls.mono (ci _) ?_); rintro e w2 ⟨rfl, rfl⟩))
        go_ret
        exact ⟨rfl, Below.refl _ _⟩
end Pr
end Go.Proofs.YtinlbenifmcgaaaDoor
