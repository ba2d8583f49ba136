/- For any floats (at most 60; of more nothing is asked) and any number rate's Most tells what the document's own Most tells: the greatest ones, falling, NaN less than all, -0 less than 0; RateMost answers true. No further condition but the listed tables. -/
import Derived.Test.YtinlbenifmcgaaaDoorRateIns2
import Derived.WalkKit
import Derived.ProofKit
import Derived.OpenShut
import Derived.Test.YtinlbenifmcgaaaDoorTie
import Derived.Test.YtinlbenifmcgaaaDoorCards
import Derived.LaidMore
import Derived.Stop.Joined
import Derived.SevenTiedAt
import Derived.Deep.RegionHeld3
namespace Go.Proofs.YtinlbenifmcgaaaDoor.rateMost
open Go.ChangeShapes Go.WideShapes Go.ChangeAt Go.WideElems Go.RowKit Go.Lib Fx Ho Gr Pr Fk Fl Ieee Hm
set_option linter.unusedVariables false

theorem own : ownKnob Tryd.prog.godebug = none := by kernel_rfl

set_option maxRecDepth 100000 in
set_option maxHeartbeats 4000000 in
theorem walk (v0 : Value) (z0 : List Nat) (a1 : Int) (w : World) (hT : Tab w) (h0 : Fls w v0 z0) (w1 : (Lit.int .i64 a1).wf = true) :
    Calls Tryd.prog 4 #[v0, .int .i64 a1] w fun e w' => e = .returned (.bool true) ∧ Below w.heap.size w w' := by
  have ct := told_any hT
  have cf := few_any h0
  by_cases hz : z0.length ≤ 60
  · rw [decide_eq_true hz] at cf
    have cm := fun (W : World) (hW : Below w.heap.size w W) => most_any (h0.below hW) (by omega) a1
    have cr := fun (W : World) (hW : Below w.heap.size w W) => rmost_any (h0.below hW) (by omega) a1
    have hml : Hid (∀ M, MostOf z0 a1.toNat M → M.length ≤ 60) := Lib.hid fun M ⟨r, k1, _, _, k4⟩ => by omega
    clear hz h0
    go_enter Tryd.func4, Tryd.ntmps4
    go_wp2_with fail
    with_reducible refine Calls.mono (cf) ?_
    rintro e q1 ⟨rfl, rfl⟩
    go_wp2_with fail
    with_reducible refine Calls.mono (ct) ?_
    rintro e q2 ⟨rfl, hB⟩
    replace hB := Lib.hid hB
    clear ct cf
    go_wp2_with fail
    with_reducible refine Calls.mono (cm _ hB.out) ?_
    rintro e q3 ⟨u1, M1, rfl, f1, k1, hb⟩
    replace hB := Lib.hid (hB.out.trans (hb.mono hB.out.size))
    replace f1 := Lib.hid f1
    replace k1 := Lib.hid k1
    clear cm hb
    go_wp2_with fail
    with_reducible refine Calls.mono (cr _ hB.out) ?_
    rintro e q4 ⟨u2, M2, rfl, f2, k2, k3, hb⟩
    have cl := lists_any (f1.out.below hb) f2 (most_eq k1.out k2 k3) (by have := hml.out _ k1.out; omega)
    replace hB := Lib.hid (hB.out.trans (hb.mono hB.out.size))
    clear cr f1 f2 k1 k2 k3 hb hml
    go_wp2_with fail
    with_reducible refine Calls.mono (cl) ?_
    rintro e q5 ⟨rfl, n5, rfl⟩
    clear cl
    go_wp2_with fail
    go_ret
    exact ⟨rfl, below_drewN hB.out n5⟩
  · rw [decide_eq_false hz] at cf
    clear hz h0
    go_enter Tryd.func4, Tryd.ntmps4
    go_wp2_with fail
    with_reducible refine Calls.mono (cf) ?_
    rintro e q1 ⟨rfl, rfl⟩
    go_wp2_with fail
    with_reducible refine Calls.mono (ct) ?_
    rintro e q2 ⟨rfl, hB⟩
    go_wp2_with fail
    go_ret
    exact ⟨rfl, hB⟩

set_option maxRecDepth 100000 in
theorem lifted (os : Os) (started : os.Started) (H : Type) (enc : TypeId × Value → H) :
    ReturnsInHanded {} Tryd.checked os 4 .any (fun w args => (Rows.rateMostSpec.pre enc Tryd.prog Tryd.f4 [] false w args ∧ laidMetH Tryd.prog [("math/bits.deBruijn32tab", Rows.laid_math_bits_deBruijn32tab), ("math/bits.deBruijn64tab", Rows.laid_math_bits_deBruijn64tab), ("internal/strconv.uint64pow10", Rows.laid_internal_strconv_uint64pow10)] w) ∧ sizedMet enc Tryd.prog Tryd.f4 (OpenSpec.ofChange Rows.rateMostSpec) false w args) (Rows.rateMostSpec.post enc Tryd.prog Tryd.f4 false true false false) := by
  refine returnsInHanded_of_change_and (C := Tryd.checked) (X := fun w _ => laidMetH Tryd.prog [("math/bits.deBruijn32tab", Rows.laid_math_bits_deBruijn32tab), ("math/bits.deBruijn64tab", Rows.laid_math_bits_deBruijn64tab), ("internal/strconv.uint64pow10", Rows.laid_internal_strconv_uint64pow10)] w) (fun _ _ _ hh h => h.of_heap hh) own started (by kernel_rfl) Tryd.func4
    (ChangeSpec.witness_shaped (enc := enc) (C := Tryd.checked) (os := os) (X := fun w _ => laidMetH Tryd.prog [("math/bits.deBruijn32tab", Rows.laid_math_bits_deBruijn32tab), ("math/bits.deBruijn64tab", Rows.laid_math_bits_deBruijn64tab), ("internal/strconv.uint64pow10", Rows.laid_internal_strconv_uint64pow10)] w) false (World.doorLaid Tryd.prog 400 os) #[.slice none 0 0, .int .i64 0] 8 rfl (World.shaped_of_RefB (by kernel_rfl) (by kernel_rfl)) (by kernel_rfl) (by kernel_rfl) (by kernel_rfl) (door_met os _)) ?_
  intro W base args ds gs before hval0 hW _ _ hL _
  have hval : ∀ (j : Nat) t v, Tryd.f4.params[j]? = some t → args[j]? = some v → Value.okWide Tryd.prog W .any base t v := hval0
  have hW' := hW
  obtain ⟨p, q, hA0, hV, rfl, hfz, hnd⟩ := hW
  have hA : DataW.TrodAll enc Tryd.prog W 0 (fun _ => true) true Tryd.f4.params.toList args.toList ds p := hA0
  rw [Tryd.params4] at hA hval
  obtain ⟨v0, vs0, d0, ds0, p0, q0, hargs, rfl, rfl, h0, r0⟩ := trodAll_cons hA
  obtain ⟨v1, vs1, d1, ds1, p1, q1, rfl, rfl, rfl, h1, r1⟩ := trodAll_cons r0
  obtain ⟨rfl, rfl, rfl⟩ := trodAll_nil r1
  obtain rfl : args = #[v0, v1] := by cases args; simp_all
  obtain ⟨rfl, rfl⟩ := trodVars_none hV
  obtain ⟨z0, i0⟩ := fls_arg (hval 0 22 v0 rfl rfl) h0
  obtain ⟨a1, rfl, rfl, rfl, w1⟩ := open_int Tryd.underlying3 (hval 1 3 v1 rfl rfl) h1
  clear hA0 hval0
  simp only [List.append_nil] at hW'
  have lt0 : ∀ x ∈ p0, x.block < W.heap.size := fun x hx => by have := hW'.lt x (by simp [hx]); simpa using this
  refine (walk v0 z0 a1 W (tab_of_laid hL) i0 w1).mono fun e W' ⟨he, hg⟩ => ?_
  subst he
  exact ⟨_, rfl, post_of_kept (pa := _) (pv := []) hW' (fun _ _ _ => (trodAll_cons_mk (shut_bool Tryd.underlying4 _) trodAll_mk0)) (trodAll_cons_mk (Below.trod laidOut (by kernel_rfl) (of_decide_eq_true (by kernel_rfl)) h0 hg lt0) (trodAll_cons_mk (shut_int Tryd.underlying3 w1) trodAll_mk0)) (fun _ _ => rfl) (by simp) hg⟩

theorem over : Rows.rateMostRow.holds Tryd.pinned (OpenSpec.ofChange Rows.rateMostSpec) :=
  OpenClaim.holds_of_wide 4 Tryd.f4 rfl rfl rfl rfl rfl rfl rfl ⟨rfl, rfl, rfl, rfl, rfl⟩ rfl rfl rfl rfl rfl (by kernel_rfl) Tryd.func4 (by kernel_rfl)
    (of_decide_eq_true (by kernel_rfl)) (by unfold Func.isWrapper; first | (rw [if_pos (by decide +kernel)]; kernel_rfl) | (rw [if_neg (by decide +kernel)]; exact ⟨rfl, rfl⟩))
    (fun os started H enc _ => lifted os started H enc)

theorem proved : Rows.RateMostCardSaid :=
  Claim7.holds_tied_plain_at .later [] [.data, .data, .data] true Rows.rateMostCard.stood.harness true
    over (fun _ h => by cases h) (by kernel_rfl) (fun _ h => by cases h) rateMost_row_tie rfl ⟨rfl, rfl⟩ (by kernel_rfl) rfl
    (fun f fn hf hfn => by
      obtain rfl : f = 4 := Option.some.inj ((show Tryd.prog.funcNamed "treadmill/treadmilllaw31.RateMost" = some 4 by kernel_rfl).symm.trans hf) |>.symm
      obtain rfl : fn = Tryd.f4 := (Option.some.inj (Tryd.func4.symm.trans hfn)).symm
      exact ⟨by kernel_rfl, fun j t ht => by
        rw [Tryd.params4] at ht
        have hm : t ∈ [22, 3] := by simpa using Array.mem_of_getElem? ht
        have hall : ([22, 3].all fun u => !Tryd.prog.wantsStandIn u) = true := by kernel_rfl
        exact (show Tryd.prog.wantsStandIn t = false by simpa using List.all_eq_true.1 hall t hm)⟩)
    (by kernel_rfl)
#print axioms proved
end Go.Proofs.YtinlbenifmcgaaaDoor.rateMost
