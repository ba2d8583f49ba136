/- For any floats (at most 60; of more nothing is asked), any two floats and any two numbers rate's Share, Mean, Least and Text tell what the document's own tell, at NaN, infinities and -0 too; RateNumbers answers true. No further condition but the listed tables. -/
import Derived.Test.YtinlbenifmcgaaaDoorFlArg
import Derived.WalkKit
import Derived.ProofKit
import Derived.OpenShut
import Derived.Test.YtinlbenifmcgaaaDoorTie
import Derived.Test.YtinlbenifmcgaaaDoorCards
import Derived.LaidMore
import Derived.Stop.Joined
import Derived.SevenTiedAt
import Derived.Deep.RegionHeld3
namespace Go.Proofs.YtinlbenifmcgaaaDoor.rateNumbers
open Go.ChangeShapes Go.WideShapes Go.ChangeAt Go.WideElems Go.RowKit Go.Lib Fx Ho Gr Pr
set_option linter.unusedVariables false

theorem own : ownKnob Tryd.prog.godebug = none := by kernel_rfl

set_option maxRecDepth 100000 in
set_option maxHeartbeats 4000000 in
theorem walk (v0 : Value) (z0 : List Nat) (a1 : Nat) (a2 : Nat) (a3 : Int) (a4 : Int) (w : World) (hT : Tab w) (h0 : Fls w v0 z0) (w1 : Wf a1) (w2 : Wf a2) (w3 : (Lit.int .i64 a3).wf = true) (w4 : (Lit.int .i64 a4).wf = true) :
    Calls Tryd.prog 3 #[v0, .float .f64 a1, .float .f64 a2, .int .i64 a3, .int .i64 a4] w fun e w' => e = .returned (.bool true) ∧ Below w.heap.size w w' := by
  have ct := told_any hT
  have cf := few_any h0
  by_cases hz : z0.length ≤ 60
  · rw [decide_eq_true hz] at cf
    have cm := fun W (hW : Below w.heap.size w W) => mean_any (h0.below hW) (by omega)
    have crm := fun W (hW : Below w.heap.size w W) => rmean_any (h0.below hW) (by omega)
    have ch := fun W => share_any a3 a4 W
    have crh := fun W => rshare_any a3 a4 W
    have cl := fun W => least_any a1 a2 w1 w2 W
    have crl := fun W => rleast_any a1 a2 w1 w2 W
    have cx := fun (W : World) (hW : Below w.heap.size w W) => text_any a1 w1 (hT.below hW)
    have crx := fun (W : World) (hW : Below w.heap.size w W) => rtext_any a1 w1 (hT.below hW)
    have wp : Wf (lstP a1 a2) := by unfold lstP; split <;> (try split) <;> assumption
    have wr : Wf (lstR a1 a2) := by unfold lstR; split <;> (try split) <;> (try split) <;> assumption
    have csl := fun W => same_any (lstP a1 a2) (lstR a1 a2) wp wr W
    rw [decide_eq_true (lst_key a1 a2)] at csl
    generalize lstP a1 a2 = lp at *
    generalize lstR a1 a2 = lr at *
    generalize TextS a1 = S at *
    generalize meanO z0 = mo at *
    generalize floatBits .quo .f64 (floatOfInt .f64 a3) (floatOfInt .f64 a4) = so at *
    clear hz h0 wp wr
    go_enter Tryd.func3, Tryd.ntmps3
    go_wp2_with fail
    with_reducible refine Calls.mono (cf) ?_
    rintro e q1 ⟨rfl, rfl⟩
    go_wp2_with fail
    with_reducible refine Calls.mono (ct) ?_
    rintro e q2 ⟨rfl, hB⟩
    replace hB := Lib.hid hB
    clear ct cf
    go_wp2_with fail
    with_reducible refine Calls.mono (ch _) ?_
    rintro e q3 ⟨y1, n3, rfl, rfl, u1, u2, -⟩
    go_wp2_with fail
    with_reducible refine Calls.mono (crh _) ?_
    rintro e q4 ⟨y2, n4, rfl, rfl, u3, u4, -⟩
    have cs1 := fun W => same_any y1 y2 u1 u3 W
    rw [decide_eq_true (u2.trans u4.symm)] at cs1
    clear ch crh u1 u2 u3 u4
    go_wp2_with fail
    with_reducible refine Calls.mono (cs1 _) ?_
    rintro e q5 ⟨rfl, rfl⟩
    clear cs1
    go_wp2_with fail
    with_reducible refine Calls.mono (cm _ (below_drewN hB.out _)) ?_
    rintro e q6 ⟨y3, n5, rfl, rfl, u1, u2, -⟩
    go_wp2_with fail
    with_reducible refine Calls.mono (crm _ (below_drewN hB.out _)) ?_
    rintro e q7 ⟨y4, n6, rfl, rfl, u3, u4, -⟩
    have cs2 := fun W => same_any y3 y4 u1 u3 W
    rw [decide_eq_true (u2.trans u4.symm)] at cs2
    clear cm crm u1 u2 u3 u4
    go_wp2_with fail
    with_reducible refine Calls.mono (cs2 _) ?_
    rintro e q8 ⟨rfl, rfl⟩
    clear cs2
    go_wp2_with fail
    with_reducible refine Calls.mono (cl _) ?_
    rintro e q9 ⟨rfl, rfl⟩
    go_wp2_with fail
    with_reducible refine Calls.mono (crl _) ?_
    rintro e q10 ⟨rfl, rfl⟩
    go_wp2_with fail
    with_reducible refine Calls.mono (csl _) ?_
    rintro e q11 ⟨rfl, rfl⟩
    clear cl crl csl
    go_wp2_with fail
    with_reducible refine Calls.mono (cx _ (below_drewN hB.out _)) ?_
    rintro e q12 ⟨rfl, hb⟩
    replace hB := Lib.hid ((below_drewN hB.out _).trans (hb.mono (below_drewN hB.out _).size))
    clear hb cx
    go_wp2_with fail
    with_reducible refine Calls.mono (crx _ hB.out) ?_
    rintro e q13 ⟨rfl, hb⟩
    replace hB := Lib.hid (hB.out.trans (hb.mono hB.out.size))
    clear hb crx
    go_wp2_with fail
    go_ret
    exact ⟨rfl, hB.out⟩
  · rw [decide_eq_false hz] at cf
    clear hz h0
    go_enter Tryd.func3, Tryd.ntmps3
    go_wp2_with fail
    with_reducible refine Calls.mono (cf) ?_
    rintro e q1 ⟨rfl, rfl⟩
    go_wp2_with fail
    with_reducible refine Calls.mono (ct) ?_
    rintro e q2 ⟨rfl, hB⟩
    go_wp2_with fail
    go_ret
    exact ⟨rfl, hB⟩

set_option maxRecDepth 100000 in
theorem lifted (os : Os) (started : os.Started) (H : Type) (enc : TypeId × Value → H) :
    ReturnsInHanded {} Tryd.checked os 3 .any (fun w args => (Rows.rateNumbersSpec.pre enc Tryd.prog Tryd.f3 [] false w args ∧ laidMetH Tryd.prog [("math/bits.deBruijn32tab", Rows.laid_math_bits_deBruijn32tab), ("math/bits.deBruijn64tab", Rows.laid_math_bits_deBruijn64tab), ("internal/strconv.uint64pow10", Rows.laid_internal_strconv_uint64pow10)] w) ∧ sizedMet enc Tryd.prog Tryd.f3 (OpenSpec.ofChange Rows.rateNumbersSpec) false w args) (Rows.rateNumbersSpec.post enc Tryd.prog Tryd.f3 false true false false) := by
  refine returnsInHanded_of_change_and (C := Tryd.checked) (X := fun w _ => laidMetH Tryd.prog [("math/bits.deBruijn32tab", Rows.laid_math_bits_deBruijn32tab), ("math/bits.deBruijn64tab", Rows.laid_math_bits_deBruijn64tab), ("internal/strconv.uint64pow10", Rows.laid_internal_strconv_uint64pow10)] w) (fun _ _ _ hh h => h.of_heap hh) own started (by kernel_rfl) Tryd.func3
    (ChangeSpec.witness_shaped (enc := enc) (C := Tryd.checked) (os := os) (X := fun w _ => laidMetH Tryd.prog [("math/bits.deBruijn32tab", Rows.laid_math_bits_deBruijn32tab), ("math/bits.deBruijn64tab", Rows.laid_math_bits_deBruijn64tab), ("internal/strconv.uint64pow10", Rows.laid_internal_strconv_uint64pow10)] w) false (World.doorLaid Tryd.prog 400 os) #[.slice none 0 0, .float .f64 0, .float .f64 0, .int .i64 0, .int .i64 0] 8 rfl (World.shaped_of_RefB (by kernel_rfl) (by kernel_rfl)) (by kernel_rfl) (by kernel_rfl) (by kernel_rfl) (door_met os _)) ?_
  intro W base args ds gs before hval0 hW _ _ hL _
  have hval : ∀ (j : Nat) t v, Tryd.f3.params[j]? = some t → args[j]? = some v → Value.okWide Tryd.prog W .any base t v := hval0
  have hW' := hW
  obtain ⟨p, q, hA0, hV, rfl, hfz, hnd⟩ := hW
  have hA : DataW.TrodAll enc Tryd.prog W 0 (fun _ => true) true Tryd.f3.params.toList args.toList ds p := hA0
  rw [Tryd.params3] at hA hval
  obtain ⟨v0, vs0, d0, ds0, p0, q0, hargs, rfl, rfl, h0, r0⟩ := trodAll_cons hA
  obtain ⟨v1, vs1, d1, ds1, p1, q1, rfl, rfl, rfl, h1, r1⟩ := trodAll_cons r0
  obtain ⟨v2, vs2, d2, ds2, p2, q2, rfl, rfl, rfl, h2, r2⟩ := trodAll_cons r1
  obtain ⟨v3, vs3, d3, ds3, p3, q3, rfl, rfl, rfl, h3, r3⟩ := trodAll_cons r2
  obtain ⟨v4, vs4, d4, ds4, p4, q4, rfl, rfl, rfl, h4, r4⟩ := trodAll_cons r3
  obtain ⟨rfl, rfl, rfl⟩ := trodAll_nil r4
  obtain rfl : args = #[v0, v1, v2, v3, v4] := by cases args; simp_all
  obtain ⟨rfl, rfl⟩ := trodVars_none hV
  obtain ⟨z0, i0⟩ := fls_arg (hval 0 22 v0 rfl rfl) h0
  obtain ⟨a1, rfl, rfl, rfl, w1⟩ := open_float Tryd.underlying23 (hval 1 23 v1 rfl rfl) h1
  obtain ⟨a2, rfl, rfl, rfl, w2⟩ := open_float Tryd.underlying23 (hval 2 23 v2 rfl rfl) h2
  obtain ⟨a3, rfl, rfl, rfl, w3⟩ := open_int Tryd.underlying3 (hval 3 3 v3 rfl rfl) h3
  obtain ⟨a4, rfl, rfl, rfl, w4⟩ := open_int Tryd.underlying3 (hval 4 3 v4 rfl rfl) h4
  clear hA0 hval0
  simp only [List.append_nil] at hW'
  have lt0 : ∀ x ∈ p0, x.block < W.heap.size := fun x hx => by have := hW'.lt x (by simp [hx]); simpa using this
  refine (walk v0 z0 a1 a2 a3 a4 W (tab_of_laid hL) i0 (wf_float w1) (wf_float w2) w3 w4).mono fun e W' ⟨he, hg⟩ => ?_
  subst he
  exact ⟨_, rfl, post_of_kept (pa := _) (pv := []) hW' (fun _ _ _ => (trodAll_cons_mk (shut_bool Tryd.underlying4 _) trodAll_mk0)) (trodAll_cons_mk (Below.trod laidOut (by kernel_rfl) (of_decide_eq_true (by kernel_rfl)) h0 hg lt0) (trodAll_cons_mk (shut_float Tryd.underlying23 w1) (trodAll_cons_mk (shut_float Tryd.underlying23 w2) (trodAll_cons_mk (shut_int Tryd.underlying3 w3) (trodAll_cons_mk (shut_int Tryd.underlying3 w4) trodAll_mk0))))) (fun _ _ => rfl) (by simp) hg⟩

theorem over : Rows.rateNumbersRow.holds Tryd.pinned (OpenSpec.ofChange Rows.rateNumbersSpec) :=
  OpenClaim.holds_of_wide 3 Tryd.f3 rfl rfl rfl rfl rfl rfl rfl ⟨rfl, rfl, rfl, rfl, rfl⟩ rfl rfl rfl rfl rfl (by kernel_rfl) Tryd.func3 (by kernel_rfl)
    (of_decide_eq_true (by kernel_rfl)) (by unfold Func.isWrapper; first | (rw [if_pos (by decide +kernel)]; kernel_rfl) | (rw [if_neg (by decide +kernel)]; exact ⟨rfl, rfl⟩))
    (fun os started H enc _ => lifted os started H enc)

theorem proved : Rows.RateNumbersCardSaid :=
  Claim7.holds_tied_plain_at .later [] [.data, .data, .data] true Rows.rateNumbersCard.stood.harness true
    over (fun _ h => by cases h) (by kernel_rfl) (fun _ h => by cases h) rateNumbers_row_tie rfl ⟨rfl, rfl⟩ (by kernel_rfl) rfl
    (fun f fn hf hfn => by
      obtain rfl : f = 3 := Option.some.inj ((show Tryd.prog.funcNamed "treadmill/treadmilllaw31.RateNumbers" = some 3 by kernel_rfl).symm.trans hf) |>.symm
      obtain rfl : fn = Tryd.f3 := (Option.some.inj (Tryd.func3.symm.trans hfn)).symm
      exact ⟨by kernel_rfl, fun j t ht => by
        rw [Tryd.params3] at ht
        have hm : t ∈ [22, 23, 3] := by simpa using Array.mem_of_getElem? ht
        have hall : ([22, 23, 3].all fun u => !Tryd.prog.wantsStandIn u) = true := by kernel_rfl
        exact (show Tryd.prog.wantsStandIn t = false by simpa using List.all_eq_true.1 hall t hm)⟩)
    (by kernel_rfl)
#print axioms proved
end Go.Proofs.YtinlbenifmcgaaaDoor.rateNumbers
