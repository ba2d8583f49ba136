/- For any two floats rate's Least tells one of the two, whichever comes first; NaN only if both are; RateLeast answers true. No further condition but the listed tables. -/
import Derived.Test.YtinlbenifmcgaaaDoorFlArg
import Derived.WalkKit
import Derived.ProofKit
import Derived.OpenShut
import Derived.Test.YtinlbenifmcgaaaDoorTie
import Derived.Test.YtinlbenifmcgaaaDoorCards
import Derived.LaidMore
import Derived.Stop.Joined
import Derived.SevenTiedAt
import Derived.Deep.RegionHeld3
namespace Go.Proofs.YtinlbenifmcgaaaDoor.rateLeast
open Go.ChangeShapes Go.WideShapes Go.ChangeAt Go.WideElems Go.RowKit Go.Lib Fx Ho Gr Pr Fk Fl Ieee Hm
set_option linter.unusedVariables false

theorem own : ownKnob Tryd.prog.godebug = none := by kernel_rfl

set_option maxRecDepth 100000 in
set_option maxHeartbeats 4000000 in
theorem walk (a0 : Nat) (a1 : Nat) (w : World) (hT : Tab w) (w0 : Wf a0) (w1 : Wf a1) :
    Calls Tryd.prog 7 #[.float .f64 a0, .float .f64 a1] w fun e w' => e = .returned (.bool true) ∧ Below w.heap.size w w' := by
  have ct := told_any hT
  have s11 := fun W => same_any a0 a0 w0 w0 W
  have s22 := fun W => same_any a1 a1 w1 w1 W
  have s21 := fun W => same_any a1 a0 w1 w0 W
  rw [decide_eq_true rfl] at s11 s22
  have l1 := fun W => least_any a0 a1 w0 w1 W
  have l2 := fun W => least_any a1 a0 w1 w0 W
  clear hT
  cases na : isN a0 with
  | true =>
    have oaa := ord_no na
    have oab : FloatKind.f64.format.order a0 a1 = none := ord_nan (Or.inl na)
    have oa0 : FloatKind.f64.format.order a0 0 = none := ord_nan (Or.inl na)
    rw [show lstP a0 a1 = a1 by unfold lstP; rw [if_pos na]] at l1
    cases nb : isN a1 with
    | true =>
      have obb := ord_no nb
      rw [show lstP a1 a0 = a0 by unfold lstP; rw [if_pos nb]] at l2
      rw [decide_eq_true ((key_nan nb).trans (key_nan na).symm)] at s21
      have c1 := l1
      have c2 := l2
      have s1 := s21
      have s2 := s21
      have s3 := s21
      clear l1 l2 s11 s22 s21 w0 w1 na nb
      go_enter Tryd.func7, Tryd.ntmps7
      go_wp2_with (first | (go_at_call 17; (first | (with_reducible refine Calls.mono (c1 _) ?_) | (with_reducible refine Calls.mono (c2 _) ?_)); rintro e w2 ⟨rfl, rfl⟩) | (go_at_call 12; (first | (with_reducible refine Calls.mono (s1 _) ?_) | (with_reducible refine Calls.mono (s2 _) ?_) | (with_reducible refine Calls.mono (s3 _) ?_)); rintro e w2 ⟨rfl, rfl⟩) | (go_at_call 11; (with_reducible refine Calls.mono ct ?_); rintro e w2 ⟨rfl, hB⟩))
      go_ret
      exact ⟨rfl, hB⟩
    | false =>
      have obb := ord_self w1 nb
      rw [show lstP a1 a0 = a1 by unfold lstP; rw [if_neg (by rw [nb]; decide), if_pos (Or.inl na)]] at l2
      rw [decide_eq_false (show ¬ key a1 = key a0 by have := key_nan na; have := key_num nb; omega)] at s21
      have c1 := l1
      have c2 := l2
      have s1 := s22
      have s2 := s21
      have s3 := s22
      clear l1 l2 s11 s22 s21 w0 w1 na nb
      go_enter Tryd.func7, Tryd.ntmps7
      go_wp2_with (first | (go_at_call 17; (first | (with_reducible refine Calls.mono (c1 _) ?_) | (with_reducible refine Calls.mono (c2 _) ?_)); rintro e w2 ⟨rfl, rfl⟩) | (go_at_call 12; (first | (with_reducible refine Calls.mono (s1 _) ?_) | (with_reducible refine Calls.mono (s2 _) ?_) | (with_reducible refine Calls.mono (s3 _) ?_)); rintro e w2 ⟨rfl, rfl⟩) | (go_at_call 11; (with_reducible refine Calls.mono ct ?_); rintro e w2 ⟨rfl, hB⟩))
      go_ret
      exact ⟨rfl, hB⟩
  | false =>
    have oaa := ord_self w0 na
    cases nb : isN a1 with
    | true =>
      have obb := ord_no nb
      have oba : FloatKind.f64.format.order a1 a0 = none := ord_nan (Or.inl nb)
      have ob0 : FloatKind.f64.format.order a1 0 = none := ord_nan (Or.inl nb)
      rw [show lstP a0 a1 = a0 by unfold lstP; rw [if_neg (by rw [na]; decide), if_pos (Or.inl nb)]] at l1
      rw [show lstP a1 a0 = a0 by unfold lstP; rw [if_pos nb]] at l2
      obtain ⟨o3, oa0, -⟩ := ord_lt w0 (show Wf 0 by unfold Wf; omega) na (by decide +kernel)
      have c1 := l1
      have c2 := l2
      have s1 := s11
      have s2 := s11
      have s3 := s11
      clear l1 l2 s11 s22 s21 w0 w1 na nb
      cases o3
      all_goals
        go_enter Tryd.func7, Tryd.ntmps7
        go_wp2_with (first | (go_at_call 17; (first | (with_reducible refine Calls.mono (c1 _) ?_) | (with_reducible refine Calls.mono (c2 _) ?_)); rintro e w2 ⟨rfl, rfl⟩) | (go_at_call 12; (first | (with_reducible refine Calls.mono (s1 _) ?_) | (with_reducible refine Calls.mono (s2 _) ?_) | (with_reducible refine Calls.mono (s3 _) ?_)); rintro e w2 ⟨rfl, rfl⟩) | (go_at_call 11; (with_reducible refine Calls.mono ct ?_); rintro e w2 ⟨rfl, hB⟩))
        go_ret
        exact ⟨rfl, hB⟩
    | false =>
      have obb := ord_self w1 nb
      obtain ⟨o, oab, hw⟩ := ord_lt w0 w1 na nb
      obtain ⟨o', oba, hw'⟩ := ord_lt w1 w0 nb na
      by_cases hk : key a0 < key a1
      · have hno : o' = .gt ∨ o' = .eq := by
          rcases hw' with ⟨_, h⟩ | ⟨h, _⟩ | ⟨h, _⟩
          · omega
          · exact Or.inl h
          · exact Or.inr h
        rw [show lstP a0 a1 = a0 by unfold lstP; rw [if_neg (by rw [na]; decide), if_pos (Or.inr hk)]] at l1
        rw [show lstP a1 a0 = a0 by unfold lstP; rw [if_neg (by rw [nb]; decide), if_neg (by rw [na]; intro h; rcases h with h | h; cases h; omega)]] at l2
        have hsg : ∀ s t, Zero a0 s → Zero a1 t → (s = true ∧ t = false) := fun s t za zb => by
          rw [key_zero za, key_zero zb] at hk
          cases s <;> cases t <;> simp at hk <;> simp
        have zw := zeros_way w0 w1 na nb
        have c1 := l1
        have c2 := l2
        have s1 := s11
        have s2 := s11
        have s3 := s11
        clear l1 l2 s11 s22 s21 w0 w1 na nb hw hw' oab hk
        rcases zw with ⟨o3, oa0, h3⟩ | ⟨oa0, o4, ob0, h4⟩ | ⟨s, t, za, zb, oa0, ob0⟩
        · clear hsg
          cases o3
          all_goals first | (exact absurd rfl h3) | skip
          all_goals rcases hno with rfl | rfl
          all_goals
            go_enter Tryd.func7, Tryd.ntmps7
            go_wp2_with (first | (go_at_call 17; (first | (with_reducible refine Calls.mono (c1 _) ?_) | (with_reducible refine Calls.mono (c2 _) ?_)); rintro e w2 ⟨rfl, rfl⟩) | (go_at_call 12; (first | (with_reducible refine Calls.mono (s1 _) ?_) | (with_reducible refine Calls.mono (s2 _) ?_) | (with_reducible refine Calls.mono (s3 _) ?_)); rintro e w2 ⟨rfl, rfl⟩) | (go_at_call 11; (with_reducible refine Calls.mono ct ?_); rintro e w2 ⟨rfl, hB⟩))
            go_ret
            exact ⟨rfl, hB⟩
        · clear hsg
          cases o4
          all_goals first | (exact absurd rfl h4) | skip
          all_goals rcases hno with rfl | rfl
          all_goals
            go_enter Tryd.func7, Tryd.ntmps7
            go_wp2_with (first | (go_at_call 17; (first | (with_reducible refine Calls.mono (c1 _) ?_) | (with_reducible refine Calls.mono (c2 _) ?_)); rintro e w2 ⟨rfl, rfl⟩) | (go_at_call 12; (first | (with_reducible refine Calls.mono (s1 _) ?_) | (with_reducible refine Calls.mono (s2 _) ?_) | (with_reducible refine Calls.mono (s3 _) ?_)); rintro e w2 ⟨rfl, rfl⟩) | (go_at_call 11; (with_reducible refine Calls.mono ct ?_); rintro e w2 ⟨rfl, hB⟩))
            go_ret
            exact ⟨rfl, hB⟩
        · have q1 := fun w => run_float_arith (P := Tryd.prog) w .quo 23 .f64 Pr.c1 a0 _ (div_zero za)
          have q2 := fun w => run_float_arith (P := Tryd.prog) w .quo 23 .f64 Pr.c1 a1 _ (div_zero zb)
          simp only [show Pr.c1 = 4607182418800017408 from rfl] at q1 q2
          obtain ⟨rfl, rfl⟩ := hsg s t za zb
          have oi := ord_inf0 true
          have oj := ord_inf0 false
          simp only [if_true, if_false, Bool.false_eq_true] at oi oj
          clear hsg za zb
          generalize inf true = i1 at *
          generalize inf false = i2 at *
          rcases hno with rfl | rfl
          all_goals
            go_enter Tryd.func7, Tryd.ntmps7
            go_wp2_with (first | (go_at_call 17; (first | (with_reducible refine Calls.mono (c1 _) ?_) | (with_reducible refine Calls.mono (c2 _) ?_)); rintro e w2 ⟨rfl, rfl⟩) | (go_at_call 12; (first | (with_reducible refine Calls.mono (s1 _) ?_) | (with_reducible refine Calls.mono (s2 _) ?_) | (with_reducible refine Calls.mono (s3 _) ?_)); rintro e w2 ⟨rfl, rfl⟩) | (go_at_call 11; (with_reducible refine Calls.mono ct ?_); rintro e w2 ⟨rfl, hB⟩))
            go_ret
            exact ⟨rfl, hB⟩
      · have hno : o = .gt ∨ o = .eq := by
          rcases hw with ⟨_, h⟩ | ⟨h, _⟩ | ⟨h, _⟩
          · omega
          · exact Or.inl h
          · exact Or.inr h
        rw [show lstP a0 a1 = a1 by unfold lstP; rw [if_neg (by rw [na]; decide), if_neg (by rw [nb]; intro h; rcases h with h | h; cases h; omega)]] at l1
        have hsg : ∀ s t, Zero a0 s → Zero a1 t → (s = false ∨ t = true) := fun s t za zb => by
          rw [key_zero za, key_zero zb] at hk
          cases s <;> cases t <;> simp at hk <;> simp
        have zw := zeros_way w0 w1 na nb
        have hy : ∃ y b, (∀ W, Calls Tryd.prog 17 #[.float .f64 a1, .float .f64 a0] W (Still (.float .f64 y) W)) ∧ (∀ W, Calls Tryd.prog 12 #[.float .f64 a1, .float .f64 y] W (Still (.bool true) W)) ∧ (∀ W, Calls Tryd.prog 12 #[.float .f64 a1, .float .f64 a0] W (Still (.bool b) W)) := by
          by_cases hk2 : key a1 < key a0
          · rw [show lstP a1 a0 = a1 by unfold lstP; rw [if_neg (by rw [nb]; decide), if_pos (Or.inr hk2)]] at l2
            exact ⟨a1, _, l2, s22, s21⟩
          · rw [show lstP a1 a0 = a0 by unfold lstP; rw [if_neg (by rw [nb]; decide), if_neg (by rw [na]; intro h; rcases h with h | h; cases h; omega)]] at l2
            rw [decide_eq_true (show key a1 = key a0 by omega)] at s21
            exact ⟨a0, true, l2, s21, s21⟩
        obtain ⟨y, bb, c2, s1, s2⟩ := hy
        have c1 := l1
        have s3 := s22
        clear l1 l2 s11 s22 s21 w0 w1 na nb hw hw' oba hk
        rcases zw with ⟨o3, oa0, h3⟩ | ⟨oa0, o4, ob0, h4⟩ | ⟨s, t, za, zb, oa0, ob0⟩
        · clear hsg
          cases o3
          all_goals first | (exact absurd rfl h3) | skip
          all_goals rcases hno with rfl | rfl
          all_goals cases bb
          all_goals
            go_enter Tryd.func7, Tryd.ntmps7
            go_wp2_with (first | (go_at_call 17; (first | (with_reducible refine Calls.mono (c1 _) ?_) | (with_reducible refine Calls.mono (c2 _) ?_)); rintro e w2 ⟨rfl, rfl⟩) | (go_at_call 12; (first | (with_reducible refine Calls.mono (s1 _) ?_) | (with_reducible refine Calls.mono (s2 _) ?_) | (with_reducible refine Calls.mono (s3 _) ?_)); rintro e w2 ⟨rfl, rfl⟩) | (go_at_call 11; (with_reducible refine Calls.mono ct ?_); rintro e w2 ⟨rfl, hB⟩))
            go_ret
            exact ⟨rfl, hB⟩
        · clear hsg
          cases o4
          all_goals first | (exact absurd rfl h4) | skip
          all_goals rcases hno with rfl | rfl
          all_goals cases bb
          all_goals
            go_enter Tryd.func7, Tryd.ntmps7
            go_wp2_with (first | (go_at_call 17; (first | (with_reducible refine Calls.mono (c1 _) ?_) | (with_reducible refine Calls.mono (c2 _) ?_)); rintro e w2 ⟨rfl, rfl⟩) | (go_at_call 12; (first | (with_reducible refine Calls.mono (s1 _) ?_) | (with_reducible refine Calls.mono (s2 _) ?_) | (with_reducible refine Calls.mono (s3 _) ?_)); rintro e w2 ⟨rfl, rfl⟩) | (go_at_call 11; (with_reducible refine Calls.mono ct ?_); rintro e w2 ⟨rfl, hB⟩))
            go_ret
            exact ⟨rfl, hB⟩
        · have q1 := fun w => run_float_arith (P := Tryd.prog) w .quo 23 .f64 Pr.c1 a0 _ (div_zero za)
          have q2 := fun w => run_float_arith (P := Tryd.prog) w .quo 23 .f64 Pr.c1 a1 _ (div_zero zb)
          simp only [show Pr.c1 = 4607182418800017408 from rfl] at q1 q2
          have hs := hsg s t za zb
          have oi := ord_inf0 true
          have oj := ord_inf0 false
          simp only [if_true, if_false, Bool.false_eq_true] at oi oj
          clear hsg za zb
          rcases hno with rfl | rfl
          all_goals cases s <;> cases t
          all_goals first | (simp at hs; done) | skip
          all_goals clear hs
          all_goals cases bb
          all_goals
            generalize inf true = i1 at *
            generalize inf false = i2 at *
            go_enter Tryd.func7, Tryd.ntmps7
            go_wp2_with (first | (go_at_call 17; (first | (with_reducible refine Calls.mono (c1 _) ?_) | (with_reducible refine Calls.mono (c2 _) ?_)); rintro e w2 ⟨rfl, rfl⟩) | (go_at_call 12; (first | (with_reducible refine Calls.mono (s1 _) ?_) | (with_reducible refine Calls.mono (s2 _) ?_) | (with_reducible refine Calls.mono (s3 _) ?_)); rintro e w2 ⟨rfl, rfl⟩) | (go_at_call 11; (with_reducible refine Calls.mono ct ?_); rintro e w2 ⟨rfl, hB⟩))
            go_ret
            exact ⟨rfl, hB⟩

set_option maxRecDepth 100000 in
theorem lifted (os : Os) (started : os.Started) (H : Type) (enc : TypeId × Value → H) :
    ReturnsInHanded {} Tryd.checked os 7 .any (fun w args => (Rows.rateLeastSpec.pre enc Tryd.prog Tryd.f7 [] false w args ∧ laidMetH Tryd.prog [("math/bits.deBruijn32tab", Rows.laid_math_bits_deBruijn32tab), ("math/bits.deBruijn64tab", Rows.laid_math_bits_deBruijn64tab), ("internal/strconv.uint64pow10", Rows.laid_internal_strconv_uint64pow10)] w) ∧ sizedMet enc Tryd.prog Tryd.f7 (OpenSpec.ofChange Rows.rateLeastSpec) false w args) (Rows.rateLeastSpec.post enc Tryd.prog Tryd.f7 false true false false) := by
  refine returnsInHanded_of_change_and (C := Tryd.checked) (X := fun w _ => laidMetH Tryd.prog [("math/bits.deBruijn32tab", Rows.laid_math_bits_deBruijn32tab), ("math/bits.deBruijn64tab", Rows.laid_math_bits_deBruijn64tab), ("internal/strconv.uint64pow10", Rows.laid_internal_strconv_uint64pow10)] w) (fun _ _ _ hh h => h.of_heap hh) own started (by kernel_rfl) Tryd.func7
    (ChangeSpec.witness_shaped (enc := enc) (C := Tryd.checked) (os := os) (X := fun w _ => laidMetH Tryd.prog [("math/bits.deBruijn32tab", Rows.laid_math_bits_deBruijn32tab), ("math/bits.deBruijn64tab", Rows.laid_math_bits_deBruijn64tab), ("internal/strconv.uint64pow10", Rows.laid_internal_strconv_uint64pow10)] w) false (World.doorLaid Tryd.prog 400 os) #[.float .f64 0, .float .f64 0] 8 rfl (World.shaped_of_RefB (by kernel_rfl) (by kernel_rfl)) (by kernel_rfl) (by kernel_rfl) (by kernel_rfl) (door_met os _)) ?_
  intro W base args ds gs before hval0 hW _ _ hL _
  have hval : ∀ (j : Nat) t v, Tryd.f7.params[j]? = some t → args[j]? = some v → Value.okWide Tryd.prog W .any base t v := hval0
  have hW' := hW
  obtain ⟨p, q, hA0, hV, rfl, hfz, hnd⟩ := hW
  have hA : DataW.TrodAll enc Tryd.prog W 0 (fun _ => true) true Tryd.f7.params.toList args.toList ds p := hA0
  rw [Tryd.params7] at hA hval
  obtain ⟨v0, vs0, d0, ds0, p0, q0, hargs, rfl, rfl, h0, r0⟩ := trodAll_cons hA
  obtain ⟨v1, vs1, d1, ds1, p1, q1, rfl, rfl, rfl, h1, r1⟩ := trodAll_cons r0
  obtain ⟨rfl, rfl, rfl⟩ := trodAll_nil r1
  obtain rfl : args = #[v0, v1] := by cases args; simp_all
  obtain ⟨rfl, rfl⟩ := trodVars_none hV
  obtain ⟨a0, rfl, rfl, rfl, w0⟩ := open_float Tryd.underlying23 (hval 0 23 v0 rfl rfl) h0
  obtain ⟨a1, rfl, rfl, rfl, w1⟩ := open_float Tryd.underlying23 (hval 1 23 v1 rfl rfl) h1
  clear hA0 hval0
  simp only [List.append_nil] at hW'
  refine (walk a0 a1 W (tab_of_laid hL) (wf_float w0) (wf_float w1)).mono fun e W' ⟨he, hg⟩ => ?_
  subst he
  exact ⟨_, rfl, post_of_kept (pa := _) (pv := []) hW' (fun _ _ _ => (trodAll_cons_mk (shut_bool Tryd.underlying4 _) trodAll_mk0)) (trodAll_cons_mk (shut_float Tryd.underlying23 w0) (trodAll_cons_mk (shut_float Tryd.underlying23 w1) trodAll_mk0)) (fun _ _ => rfl) (by simp) hg⟩

theorem over : Rows.rateLeastRow.holds Tryd.pinned (OpenSpec.ofChange Rows.rateLeastSpec) :=
  OpenClaim.holds_of_wide 7 Tryd.f7 rfl rfl rfl rfl rfl rfl rfl ⟨rfl, rfl, rfl, rfl, rfl⟩ rfl rfl rfl rfl rfl (by kernel_rfl) Tryd.func7 (by kernel_rfl)
    (of_decide_eq_true (by kernel_rfl)) (by unfold Func.isWrapper; first | (rw [if_pos (by decide +kernel)]; kernel_rfl) | (rw [if_neg (by decide +kernel)]; exact ⟨rfl, rfl⟩))
    (fun os started H enc _ => lifted os started H enc)

theorem proved : Rows.RateLeastCardSaid :=
  Claim7.holds_tied_plain_at .later [] [.data, .data, .data] true Rows.rateLeastCard.stood.harness true
    over (fun _ h => by cases h) (by kernel_rfl) (fun _ h => by cases h) rateLeast_row_tie rfl ⟨rfl, rfl⟩ (by kernel_rfl) rfl
    (fun f fn hf hfn => by
      obtain rfl : f = 7 := Option.some.inj ((show Tryd.prog.funcNamed "treadmill/treadmilllaw31.RateLeast" = some 7 by kernel_rfl).symm.trans hf) |>.symm
      obtain rfl : fn = Tryd.f7 := (Option.some.inj (Tryd.func7.symm.trans hfn)).symm
      exact ⟨by kernel_rfl, fun j t ht => by
        rw [Tryd.params7] at ht
        have hm : t ∈ [23] := by simpa using Array.mem_of_getElem? ht
        have hall : ([23].all fun u => !Tryd.prog.wantsStandIn u) = true := by kernel_rfl
        exact (show Tryd.prog.wantsStandIn t = false by simpa using List.all_eq_true.1 hall t hm)⟩)
    (by kernel_rfl)
#print axioms proved
end Go.Proofs.YtinlbenifmcgaaaDoor.rateLeast
