/- The document's Text: the same string. -/
import Derived.Test.YtinlbenifmcgaaaDoorText3
namespace Go.Proofs.YtinlbenifmcgaaaDoor
open Go.RowKit Go.Lib Fx Ho Gr
set_option linter.unusedVariables false
namespace Pr
open Fk Fl Ieee Tm
variable {w w' : World} {x y r : Nat} {v : Value} {zs : List Nat}
theorem sgn_way {x : Nat} (hx : Wf x) (nx : isN x = false) : (∃ s, Zero x s ∧ neg x = s) ∨ (FloatKind.f64.format.order x 0 = some .lt ∧ neg x = true) ∨ (FloatKind.f64.format.order x 0 = some .gt ∧ neg x = false) := by
  have gx := neg_read hx
  rcases kind_of nx with ⟨s, m, i, h⟩ | ⟨s, h⟩
  · rw [h] at gx
    have gs : s = neg x := gx
    have ho := order_val h read_c0
    obtain ⟨z1, p1, q1⟩ := sgn_val s m i
    by_cases m0 : m = 0
    · subst m0
      exact Or.inl ⟨s, ⟨i, h⟩, gs.symm⟩
    · right
      rw [show FloatKind.f64.format.order x 0 = double.order x 0 from rfl, ho, Fk.val_zero]
      cases s
      · have := p1 m0 rfl
        exact Or.inr ⟨by rw [compare_gt (by omega)], gs.symm⟩
      · have := q1 m0 rfl
        exact Or.inl ⟨by rw [compare_lt (by omega)], gs.symm⟩
  · rw [h] at gx
    have gs : s = neg x := gx
    right
    rw [show FloatKind.f64.format.order x 0 = double.order x 0 from rfl]
    unfold Format.order
    rw [h, read_c0]
    cases s
    · exact Or.inr ⟨rfl, gs.symm⟩
    · exact Or.inl ⟨rfl, gs.symm⟩
theorem xor_top {a : Nat} (ha : a < 9223372036854775808) : (a + 9223372036854775808) ^^^ 9223372036854775808 = a := by
  rw [show (9223372036854775808 : Nat) = 2 ^ 63 by decide, Nat.add_comm]
  refine Nat.eq_of_testBit_eq fun i => ?_
  rw [Nat.testBit_xor, Nat.testBit_two_pow]
  have h63 : a.testBit 63 = false := Nat.testBit_lt_two_pow (show a < 2 ^ 63 by omega)
  rcases Nat.lt_trichotomy i 63 with h | h | h
  · rw [Nat.testBit_two_pow_add_gt h]
    simp [show ¬ 63 = i by omega]
  · subst h
    rw [Nat.testBit_two_pow_add_eq, h63]; rfl
  · rw [Nat.testBit_lt_two_pow (show a < 2 ^ i from Nat.lt_of_lt_of_le (show a < 2 ^ 63 by omega) (Nat.pow_le_pow_right (by decide) (by omega))), Nat.testBit_lt_two_pow (show 2 ^ 63 + a < 2 ^ i from Nat.lt_of_lt_of_le (show 2 ^ 63 + a < 2 ^ 64 by omega) (Nat.pow_le_pow_right (by decide) (by omega)))]
    simp [show ¬ 63 = i by omega]
theorem neg_run {x : Nat} (hx : Wf x) (hn : neg x = true) : Op.negFloat .f64 x = ab x := by
  show x ^^^ 2 ^ 63 = ab x
  have h1 := ab_neg hx hn
  have h2 := xor_top (ab_wf x)
  rw [← h1] at h2
  rw [show (2 : Nat) ^ 63 = 9223372036854775808 by decide]
  exact h2
theorem ord_inf0 (s : Bool) : FloatKind.f64.format.order (inf s) 0 = some (if s then .lt else .gt) := by cases s <;> decide
theorem ord_00 : FloatKind.f64.format.order 0 0 = some .eq := by decide
theorem nan_ord0 (w : World) (a b : Nat) : FloatKind.f64.format.order (nanB w a b) 0 = none := ord_nan (Or.inl (nanB_ok w a b).2)
set_option maxRecDepth 100000 in
set_option maxHeartbeats 8000000 in
theorem rtext_any (x : Nat) (hx : Wf x) (hT : Tab w) : Calls Tryd.prog 20 #[.float .f64 x] w fun e w' => e = .returned (.string (TextS x)) ∧ Below w.heap.size w w' := by
  cases nx : isN x with
  | true =>
    have o1 := ord_no nx
    rw [show TextS x = ⟨#[78, 97, 78]⟩ by unfold TextS; rw [if_pos nx]]
    clear hT
    go_enter Tryd.func20, Tryd.ntmps20
    go_wp2_with fail
    go_ret
    exact ⟨rfl, Below.refl _ _⟩
  | false =>
    have o1 := ord_self hx nx
    have oz := ord_00
    obtain ⟨m1, m2, hl, hk⟩ := hund_ok nx
    have hq := fun w => run_float_arith (P := Tryd.prog) w .mul 23 .f64 (ab x) c100 _ m2
    simp only [c100] at hq
    have tn : TextS x = if (double.read x).isInfinity then signT x ++ ⟨#[73, 110, 102]⟩ else if FloatKind.f64.format.order (hund x) c50 = some .lt then signN x ++ ⟨(Lib.itoa (numT (hund x))).toArray⟩ ++ ⟨#[37]⟩ else signT x ++ ⟨#[66, 105, 103]⟩ := by
      unfold TextS; rw [if_neg (by rw [nx]; decide)]
    rw [tn]
    clear tn
    have sw : (∃ o, FloatKind.f64.format.order x 0 = some o ∧ ((o = .eq ∧ (∀ w, (binOp .quo 23 (.float .f64 4607182418800017408) (.float .f64 x)).run Tryd.prog w = .ok (.float .f64 (inf (neg x))) w)) ∨ (o = .lt ∧ neg x = true) ∨ (o = .gt ∧ neg x = false))) := by
      rcases sgn_way hx nx with ⟨s, hz, hs⟩ | ⟨ho, hs⟩ | ⟨ho, hs⟩
      · refine ⟨.eq, ord_zero hz zero_c0, Or.inl ⟨rfl, fun w => ?_⟩⟩
        rw [hs]
        exact run_float_arith (P := Tryd.prog) w .quo 23 .f64 c1 x _ (div_zero hz)
      · exact ⟨_, ho, Or.inr (Or.inl ⟨rfl, hs⟩)⟩
      · exact ⟨_, ho, Or.inr (Or.inr ⟨rfl, hs⟩)⟩
    have hng := fun (hn : neg x = true) (w : World) => (show (Op.unary .neg (.float .f64 x)).run Tryd.prog w = .ok (.float .f64 (ab x)) w by rw [← neg_run hx hn]; rfl)
    have hps := fun (hn : neg x = false) => ab_pos hx hn
    have oi := ord_inf0
    rcases kind_of nx with ⟨s, m, i, hr⟩ | ⟨s, hr⟩
    · have hsub := fun w => run_float_arith (P := Tryd.prog) w .sub 23 .f64 (ab x) (ab x) _ (sub_self (ab_read hr))
      rw [if_neg (by rw [hr]; exact Bool.false_ne_true)]
      obtain ⟨o, ho, hlt⟩ := hund_ord hl hk
      have ho2 := ho
      simp only [c50] at ho2
      rw [ho]
      cases o with
      | lt =>
        obtain ⟨M, I, g1, g2⟩ := hlt rfl
        obtain ⟨n, z, o2, r1, r2, r3, r4, r5, r6⟩ := ref_num hl g1 g2
        have hcc : ∀ w, (convert 23 2 (.float .f64 (hund x))).run Tryd.prog w = .ok (.int .i64 n) w := fun w => run_convert_float_int w 23 2 .f64 .i64 _ _ (by rw [Tryd.underlying23]; rfl) Tryd.underlying2 r1
        have hsb := fun w => run_float_arith (P := Tryd.prog) w .sub 23 .f64 (hund x) (floatOfInt .f64 n) _ r4
        have r7 := r5
        simp only [chalf] at r7
        rw [if_pos rfl, r6]
        have ct0 := fun (k : Int) (h1 : 0 ≤ k) (h2 : k ≤ 1125899906842624) => Tryd.strconv_FormatInt_10 k (by omega) (by omega) w (hT.here)
        have hlen0 := fun (k : Int) (h1 : 0 ≤ k) (h2 : k ≤ 1125899906842624) => Lib.itoa_length_le k (by omega) (by omega)
        unfold signN
        clear hT m1 m2 hk ho hlt g1 g2 r1 r4 r5 r6 hr nx hl
        generalize hund x = h at *
        cases o2 with
        | lt =>
          have ct := ct0 n r2 (by omega)
          have hlen := hlen0 n r2 (by omega)
          rw [if_pos rfl]
          clear ct0 hlen0
          generalize Lib.itoa n = T at *
          obtain ⟨oo, ox, hsw⟩ := sw
          cases hs : neg x with
          | true =>
            rw [hs] at hsw
            have hng := hng hs
            have oi := oi true
            simp only [if_true] at oi ⊢
            clear hs hps
            generalize inf true = iv at *
            generalize ab x = ax at *
            rcases hsw with ⟨rfl, hdv⟩ | ⟨rfl, -⟩ | ⟨rfl, hf⟩
            · go_enter Tryd.func20, Tryd.ntmps20
              go_wp2_with (first | (go_at_call 34; (with_reducible refine Calls.mono ct ?_); rintro e w2 ⟨rfl, k, os, rfl⟩))
              go_ret
              exact ⟨rfl, Lib.below_grow _ _ (Nat.le_refl _) _ _⟩
            · clear oi
              go_enter Tryd.func20, Tryd.ntmps20
              go_wp2_with (first | (go_at_call 34; (with_reducible refine Calls.mono ct ?_); rintro e w2 ⟨rfl, k, os, rfl⟩))
              go_ret
              exact ⟨rfl, Lib.below_grow _ _ (Nat.le_refl _) _ _⟩
            · cases hf
          | false =>
            rw [hs] at hsw
            have hps := hps hs
            have oi := oi false
            simp only [if_false, Bool.false_eq_true] at oi ⊢
            clear hs hng
            generalize inf false = iv at *
            generalize ab x = ax at *
            subst hps
            rcases hsw with ⟨rfl, hdv⟩ | ⟨rfl, hf⟩ | ⟨rfl, -⟩
            · go_enter Tryd.func20, Tryd.ntmps20
              go_wp2_with (first | (go_at_call 34; (with_reducible refine Calls.mono ct ?_); rintro e w2 ⟨rfl, k, os, rfl⟩))
              go_ret
              exact ⟨rfl, Lib.below_grow _ _ (Nat.le_refl _) _ _⟩
            · cases hf
            · clear oi
              go_enter Tryd.func20, Tryd.ntmps20
              go_wp2_with (first | (go_at_call 34; (with_reducible refine Calls.mono ct ?_); rintro e w2 ⟨rfl, k, os, rfl⟩))
              go_ret
              exact ⟨rfl, Lib.below_grow _ _ (Nat.le_refl _) _ _⟩
        | eq =>
          have ct := ct0 (n + 1) (by omega) (by omega)
          have hlen := hlen0 (n + 1) (by omega) (by omega)
          rw [if_neg (show ¬ (Ordering.eq = Ordering.lt) by decide)]
          clear ct0 hlen0
          generalize Lib.itoa (n + 1) = T at *
          obtain ⟨oo, ox, hsw⟩ := sw
          cases hs : neg x with
          | true =>
            rw [hs] at hsw
            have hng := hng hs
            have oi := oi true
            simp only [if_true] at oi ⊢
            clear hs hps
            generalize inf true = iv at *
            generalize ab x = ax at *
            rcases hsw with ⟨rfl, hdv⟩ | ⟨rfl, -⟩ | ⟨rfl, hf⟩
            · go_enter Tryd.func20, Tryd.ntmps20
              go_wp2_with (first | (go_at_call 34; (with_reducible refine Calls.mono ct ?_); rintro e w2 ⟨rfl, k, os, rfl⟩))
              go_ret
              exact ⟨rfl, Lib.below_grow _ _ (Nat.le_refl _) _ _⟩
            · clear oi
              go_enter Tryd.func20, Tryd.ntmps20
              go_wp2_with (first | (go_at_call 34; (with_reducible refine Calls.mono ct ?_); rintro e w2 ⟨rfl, k, os, rfl⟩))
              go_ret
              exact ⟨rfl, Lib.below_grow _ _ (Nat.le_refl _) _ _⟩
            · cases hf
          | false =>
            rw [hs] at hsw
            have hps := hps hs
            have oi := oi false
            simp only [if_false, Bool.false_eq_true] at oi ⊢
            clear hs hng
            generalize inf false = iv at *
            generalize ab x = ax at *
            subst hps
            rcases hsw with ⟨rfl, hdv⟩ | ⟨rfl, hf⟩ | ⟨rfl, -⟩
            · go_enter Tryd.func20, Tryd.ntmps20
              go_wp2_with (first | (go_at_call 34; (with_reducible refine Calls.mono ct ?_); rintro e w2 ⟨rfl, k, os, rfl⟩))
              go_ret
              exact ⟨rfl, Lib.below_grow _ _ (Nat.le_refl _) _ _⟩
            · cases hf
            · clear oi
              go_enter Tryd.func20, Tryd.ntmps20
              go_wp2_with (first | (go_at_call 34; (with_reducible refine Calls.mono ct ?_); rintro e w2 ⟨rfl, k, os, rfl⟩))
              go_ret
              exact ⟨rfl, Lib.below_grow _ _ (Nat.le_refl _) _ _⟩
        | gt =>
          have ct := ct0 (n + 1) (by omega) (by omega)
          have hlen := hlen0 (n + 1) (by omega) (by omega)
          rw [if_neg (show ¬ (Ordering.gt = Ordering.lt) by decide)]
          clear ct0 hlen0
          generalize Lib.itoa (n + 1) = T at *
          obtain ⟨oo, ox, hsw⟩ := sw
          cases hs : neg x with
          | true =>
            rw [hs] at hsw
            have hng := hng hs
            have oi := oi true
            simp only [if_true] at oi ⊢
            clear hs hps
            generalize inf true = iv at *
            generalize ab x = ax at *
            rcases hsw with ⟨rfl, hdv⟩ | ⟨rfl, -⟩ | ⟨rfl, hf⟩
            · go_enter Tryd.func20, Tryd.ntmps20
              go_wp2_with (first | (go_at_call 34; (with_reducible refine Calls.mono ct ?_); rintro e w2 ⟨rfl, k, os, rfl⟩))
              go_ret
              exact ⟨rfl, Lib.below_grow _ _ (Nat.le_refl _) _ _⟩
            · clear oi
              go_enter Tryd.func20, Tryd.ntmps20
              go_wp2_with (first | (go_at_call 34; (with_reducible refine Calls.mono ct ?_); rintro e w2 ⟨rfl, k, os, rfl⟩))
              go_ret
              exact ⟨rfl, Lib.below_grow _ _ (Nat.le_refl _) _ _⟩
            · cases hf
          | false =>
            rw [hs] at hsw
            have hps := hps hs
            have oi := oi false
            simp only [if_false, Bool.false_eq_true] at oi ⊢
            clear hs hng
            generalize inf false = iv at *
            generalize ab x = ax at *
            subst hps
            rcases hsw with ⟨rfl, hdv⟩ | ⟨rfl, hf⟩ | ⟨rfl, -⟩
            · go_enter Tryd.func20, Tryd.ntmps20
              go_wp2_with (first | (go_at_call 34; (with_reducible refine Calls.mono ct ?_); rintro e w2 ⟨rfl, k, os, rfl⟩))
              go_ret
              exact ⟨rfl, Lib.below_grow _ _ (Nat.le_refl _) _ _⟩
            · cases hf
            · clear oi
              go_enter Tryd.func20, Tryd.ntmps20
              go_wp2_with (first | (go_at_call 34; (with_reducible refine Calls.mono ct ?_); rintro e w2 ⟨rfl, k, os, rfl⟩))
              go_ret
              exact ⟨rfl, Lib.below_grow _ _ (Nat.le_refl _) _ _⟩
      | eq =>
        rw [if_neg (by decide)]
        unfold signT
        clear hT m1 m2 hk ho hlt hr nx hl
        generalize hund x = h at *
        obtain ⟨oo, ox, hsw⟩ := sw
        cases hs : neg x with
        | true =>
          rw [hs] at hsw
          have hng := hng hs
          have oi := oi true
          simp only [if_true] at oi ⊢
          clear hs hps
          generalize inf true = iv at *
          generalize ab x = ax at *
          rcases hsw with ⟨rfl, hdv⟩ | ⟨rfl, -⟩ | ⟨rfl, hf⟩
          · go_enter Tryd.func20, Tryd.ntmps20
            go_wp2_with fail
            go_ret
            exact ⟨rfl, Below.refl _ _⟩
          · clear oi
            go_enter Tryd.func20, Tryd.ntmps20
            go_wp2_with fail
            go_ret
            exact ⟨rfl, Below.refl _ _⟩
          · cases hf
        | false =>
          rw [hs] at hsw
          have hps := hps hs
          have oi := oi false
          simp only [if_false, Bool.false_eq_true] at oi ⊢
          clear hs hng
          generalize inf false = iv at *
          generalize ab x = ax at *
          subst hps
          rcases hsw with ⟨rfl, hdv⟩ | ⟨rfl, hf⟩ | ⟨rfl, -⟩
          · go_enter Tryd.func20, Tryd.ntmps20
            go_wp2_with fail
            go_ret
            exact ⟨rfl, Below.refl _ _⟩
          · cases hf
          · clear oi
            go_enter Tryd.func20, Tryd.ntmps20
            go_wp2_with fail
            go_ret
            exact ⟨rfl, Below.refl _ _⟩
      | gt =>
        rw [if_neg (by decide)]
        unfold signT
        clear hT m1 m2 hk ho hlt hr nx hl
        generalize hund x = h at *
        obtain ⟨oo, ox, hsw⟩ := sw
        cases hs : neg x with
        | true =>
          rw [hs] at hsw
          have hng := hng hs
          have oi := oi true
          simp only [if_true] at oi ⊢
          clear hs hps
          generalize inf true = iv at *
          generalize ab x = ax at *
          rcases hsw with ⟨rfl, hdv⟩ | ⟨rfl, -⟩ | ⟨rfl, hf⟩
          · go_enter Tryd.func20, Tryd.ntmps20
            go_wp2_with fail
            go_ret
            exact ⟨rfl, Below.refl _ _⟩
          · clear oi
            go_enter Tryd.func20, Tryd.ntmps20
            go_wp2_with fail
            go_ret
            exact ⟨rfl, Below.refl _ _⟩
          · cases hf
        | false =>
          rw [hs] at hsw
          have hps := hps hs
          have oi := oi false
          simp only [if_false, Bool.false_eq_true] at oi ⊢
          clear hs hng
          generalize inf false = iv at *
          generalize ab x = ax at *
          subst hps
          rcases hsw with ⟨rfl, hdv⟩ | ⟨rfl, hf⟩ | ⟨rfl, -⟩
          · go_enter Tryd.func20, Tryd.ntmps20
            go_wp2_with fail
            go_ret
            exact ⟨rfl, Below.refl _ _⟩
          · cases hf
          · clear oi
            go_enter Tryd.func20, Tryd.ntmps20
            go_wp2_with fail
            go_ret
            exact ⟨rfl, Below.refl _ _⟩
    · have hsub := fun w => run_none (P := Tryd.prog) (op := .sub) (by simp [four]) 23 (ab x) (ab x) (sub_inf (ab_inf hr)) w
      have on := fun w => nan_ord0 w (ab x) (ab x)
      rw [if_pos (by rw [hr]; rfl)]
      unfold signT
      clear hT m1 m2 hl hk hr nx hq oz
      obtain ⟨oo, ox, hsw⟩ := sw
      cases hs : neg x with
      | true =>
        rw [hs] at hsw
        have hng := hng hs
        have oi := oi true
        simp only [if_true] at oi ⊢
        clear hs hps
        generalize inf true = iv at *
        generalize ab x = ax at *
        rcases hsw with ⟨rfl, hdv⟩ | ⟨rfl, -⟩ | ⟨rfl, hf⟩
        · go_enter Tryd.func20, Tryd.ntmps20
          go_wp2_with fail
          go_ret
          exact ⟨rfl, below_drewN (Below.refl _ _) 1⟩
        · clear oi
          go_enter Tryd.func20, Tryd.ntmps20
          go_wp2_with fail
          go_ret
          exact ⟨rfl, below_drewN (Below.refl _ _) 1⟩
        · cases hf
      | false =>
        rw [hs] at hsw
        have hps := hps hs
        have oi := oi false
        simp only [if_false, Bool.false_eq_true] at oi ⊢
        clear hs hng
        generalize inf false = iv at *
        generalize ab x = ax at *
        subst hps
        rcases hsw with ⟨rfl, hdv⟩ | ⟨rfl, hf⟩ | ⟨rfl, -⟩
        · go_enter Tryd.func20, Tryd.ntmps20
          go_wp2_with fail
          go_ret
          exact ⟨rfl, below_drewN (Below.refl _ _) 1⟩
        · cases hf
        · clear oi
          go_enter Tryd.func20, Tryd.ntmps20
          go_wp2_with fail
          go_ret
          exact ⟨rfl, below_drewN (Below.refl _ _) 1⟩
end Pr
end Go.Proofs.YtinlbenifmcgaaaDoor
