import Derived.Test.YtdnajpnnjfncbaaDoorMB4
import Derived.WalkKit
import Derived.ProofKit
import Derived.OpenShut
import Derived.Test.YtdnajpnnjfncbaaDoorTie
import Derived.Test.YtdnajpnnjfncbaaDoorCards
import Derived.LaidMore
import Derived.Stop.Joined
import Derived.SevenTiedAt
import Derived.Deep.RegionHeld3
import Derived.Deep.RegionWith
import Derived.Deep.Cut
import Derived.Deep.CutBlock
import Derived.Deep.CutRange
import Derived.Deep.LoopGhost
import Derived.Deep.DeepCutAuto
import Derived.RegionTactic
import Derived.StillTailTactics
import Derived.Deep.RegionLaw
/- A model that is none does nothing; goroutines that there are not do nothing (16.1): any number. No further condition but the listed table. -/
namespace Go.Proofs.YtdnajpnnjfncbaaDoor.modelNobody
open Go.ChangeShapes Go.WideShapes Go.ChangeAt Go.WideElems Go.RowKit Go.Lib Fx Ho Gr Cd
set_option linter.unusedVariables false

theorem own : ownKnob Tryd.prog.godebug = none := by kernel_rfl

set_option maxRecDepth 100000 in
set_option maxHeartbeats 4000000 in
theorem walk (a0 : Int) (w : World) (hT : Tk w) (w0 : (Lit.int .i64 a0).wf = true) :
    Calls Tryd.prog 3 #[.int .i64 a0] w fun e w' => e = .returned (.bool true) ∧ Below w.heap.size w w' := by
  obtain ⟨Y0, h00⟩ : ∃ Y : Int, IntKind.u64.wrap a0 = Y := ⟨_, rfl⟩
  have p0 : 0 ≤ Y0 := by rw [← h00, IntKind.wrap_u64]; omega
  obtain ⟨k, hk⟩ : ∃ k : Nat, 1 + Y0 % 1000 = (k : Int) := ⟨(1 + Y0 % 1000).toNat, by omega⟩
  have k1 : 1 ≤ k ∧ k ≤ 1000 := by omega
  have cd := Md.do_nil a0 w
  unfold Md.comV at cd
  have hT := Lib.hid hT
  go_enter Tryd.func3, Tryd.ntmps3
  go_wp2_with fail
  with_reducible refine Calls.mono (cd) ?_
  rintro e w1 ⟨rfl, hb1⟩
  clear cd
  go_upto_region 3 with fail
  obtain ⟨W1, hW1⟩ : ∃ W, w1.alloc (.cells #[.int .i64 0, .int .i64 0, .int .i64 0, .int .i64 0, .int .i64 0, .bool false] 24) = W := ⟨_, rfl⟩
  have hb2 : Below w.heap.size w W1 := by rw [← hW1]; exact below_alloc hb1 _
  rw [hW1]
  clear hW1 hb1
  have kA := heap_alloc_new W1 (.cells #[.int .i64 0, .int .i64 0, .int .i64 0, .int .i64 0] 29)
  have bA := below_alloc (Below.refl W1.heap.size W1) (.cells #[.int .i64 0, .int .i64 0, .int .i64 0, .int .i64 0] 29)
  have kB := heap_alloc_new (W1.alloc (.cells #[.int .i64 0, .int .i64 0, .int .i64 0, .int .i64 0] 29)) (.cells #[.slice (some ⟨W1.heap.size, 0, none⟩) 1 1] 30)
  have bB := below_alloc bA (.cells #[.slice (some ⟨W1.heap.size, 0, none⟩) 1 1] 30)
  have kA2 := ((below_alloc (Below.refl _ (W1.alloc (.cells #[.int .i64 0, .int .i64 0, .int .i64 0, .int .i64 0] 29))) (.cells #[.slice (some ⟨W1.heap.size, 0, none⟩) 1 1] 30)).block _ (block_lt kA)).trans kA
  rw [Md.s_alloc] at kB
  obtain ⟨U, hU⟩ : ∃ U, (W1.alloc (.cells #[.int .i64 0, .int .i64 0, .int .i64 0, .int .i64 0] 29)).alloc (.cells #[.slice (some ⟨W1.heap.size, 0, none⟩) 1 1] 30) = U := ⟨_, rfl⟩
  rw [hU] at kB kA2 bB
  have hF : FRow U (.slice (some ⟨W1.heap.size + 1, 0, none⟩) 1 1) Md.fsX := Md.frow_lit (vs := [.slice (some ⟨W1.heap.size, 0, none⟩) 1 1]) (fs := Md.fsX) kB rfl (by decide) (fun i hi => by
    obtain rfl : i = 0 := by have hi : i < 1 := hi; omega
    exact Md.irow_lit (l := [zi]) kA2 (by decide))
  have hbU : Hid (Below w.heap.size w U) := Lib.hid (hb2.trans (bB.mono hb2.size))
  have cb := Md.ms_build (G := 0) (hT.out.below hbU.out) hF (Md.may_of Md.pgX)
  clear kA bA kB bB kA2 hF hb2
  go_wp2_with fail
  try rw [hU]
  clear hU
  with_reducible refine Calls.mono cb ?_
  rintro e w2 ⟨p, rfl, hm⟩
  clear cb
  have hno : ¬ (0 ≤ (k : Int) ∧ (k : Int) < ((Md.mo0 0).st.length : Int)) := by show ¬ (0 ≤ (k : Int) ∧ (k : Int) < ((1 : Nat) : Int)); omega
  have hno2 : ¬ (0 ≤ -(k : Int) ∧ -(k : Int) < ((Md.mo0 0).st.length : Int)) := by omega
  have hnk : IntKind.i64.wrap (-(k : Int)) = -(k : Int) := by rw [IntKind.wrap_i64]; omega
  have cd := Md.ms_do_no hm (k : Int) hno
  go_upto_region 7 with fail
  try rw [h00]
  try rw [hk]
  clear h00 hk
  go_wp2_with fail
  with_reducible refine Calls.mono cd ?_
  rintro e w3 ⟨rfl, hm3, -⟩
  clear cd hm
  go_upto_region 8 with fail
  have hm4 := (hm3.var #[.int .i64 0, .int .i64 0, .int .i64 0, .int .i64 0, .int .i64 0, .bool false] 24).1
  obtain ⟨W4, hW4⟩ : ∃ W, w3.alloc (.cells #[.int .i64 0, .int .i64 0, .int .i64 0, .int .i64 0, .int .i64 0, .bool false] 24) = W := ⟨_, rfl⟩
  rw [hW4] at hm4 ⊢
  clear hW4 hm3
  have cx := Md.ms_next_no hm4 (k : Int) hno
  go_wp2_with fail
  with_reducible refine Calls.mono cx ?_
  rintro e w5 ⟨rfl, hb5⟩
  clear cx
  unfold Md.insV zi
  go_upto_region 9 with fail
  have hm5 := hm4.below hb5
  have hm6 := (hm5.var #[.int .i64 0, .int .i64 0, .int .i64 0, .int .i64 0] 29).1
  obtain ⟨W6, hW6⟩ : ∃ W, w5.alloc (.cells #[.int .i64 0, .int .i64 0, .int .i64 0, .int .i64 0] 29) = W := ⟨_, rfl⟩
  rw [hW6] at hm6
  try rw [hW6]
  clear hW6 hm4 hm5 hb5
  have cd := Md.ms_do_no hm6 (-(k : Int)) hno2
  go_wp2_with fail
  with_reducible refine Calls.mono cd ?_
  rintro e w7 ⟨rfl, hm7, -⟩
  clear cd hm6
  go_upto_region 10 with fail
  have hm8 := (hm7.var #[.int .i64 0, .int .i64 0, .int .i64 0, .int .i64 0, .int .i64 0, .bool false] 24).1
  obtain ⟨W8, hW8⟩ : ∃ W, w7.alloc (.cells #[.int .i64 0, .int .i64 0, .int .i64 0, .int .i64 0, .int .i64 0, .bool false] 24) = W := ⟨_, rfl⟩
  rw [hW8] at hm8 ⊢
  clear hW8 hm7
  have hbw : Hid (Below w.heap.size w W8) := Lib.hid (hbU.out.trans (hm8.bel.mono hbU.out.size))
  have ct := Md.told_any (hT.out.below hbw.out)
  go_wp2_with fail
  with_reducible refine Calls.mono (ct) ?_
  rintro e w9 ⟨rfl, hb9⟩
  clear ct
  have hm9 := hm8.below hb9
  have hbw2 : Hid (Below w.heap.size w w9) := Lib.hid (hbw.out.trans (hb9.mono hbw.out.size))
  clear hm8 hbw hb9
  go_wp2_with fail
  with_reducible refine Calls.mono (Md.gs_nil _) ?_
  rintro e w10 ⟨rfl, rfl⟩
  go_wp2_with fail
  with_reducible refine Calls.mono (Md.ids_nil _) ?_
  rintro e w11 ⟨rfl, rfl⟩
  go_wp2_with fail
  with_reducible refine Calls.mono (Md.reach_nil _) ?_
  rintro e w12 ⟨rfl, rfl⟩
  go_wp2_with fail
  with_reducible refine Calls.mono (Md.stuck_nil _) ?_
  rintro e w13 ⟨rfl, rfl⟩
  have cs := Md.ms_state hm9 (k : Int)
  unfold Md.stX at cs
  rw [if_neg hno] at cs
  go_wp2_with fail
  with_reducible refine Calls.mono (cs) ?_
  rintro e w14 ⟨rfl, rfl⟩
  clear cs
  go_wp2_with fail
  with_reducible refine Calls.mono (Md.ms_stack_no hm9 (k : Int) hno) ?_
  rintro e w15 ⟨rfl, rfl⟩
  have hob : (Md.mo0 0).ob.length = 0 := rfl
  go_wp2_with fail
  with_reducible refine Calls.mono (Md.ms_slots_no hm9 (k : Int) (.inr (by rw [hob]; omega))) ?_
  rintro e w16 ⟨rfl, rfl⟩
  go_wp2_with fail
  go_ret
  exact ⟨rfl, hbw2.out⟩

set_option maxRecDepth 100000 in
theorem lifted (os : Os) (started : os.Started) (H : Type) (enc : TypeId × Value → H) :
    ReturnsInHanded {} Tryd.checked os 3 .any (fun w args => (Rows.modelNobodySpec.pre enc Tryd.prog Tryd.f3 [] false w args ∧ laidMetH Tryd.prog [("treadmill/code.takes", Rows.laid_treadmill_code_takes)] w) ∧ sizedMet enc Tryd.prog Tryd.f3 (OpenSpec.ofChange Rows.modelNobodySpec) false w args) (Rows.modelNobodySpec.post enc Tryd.prog Tryd.f3 false true false false) := by
  refine returnsInHanded_of_change_and (C := Tryd.checked) (X := fun w _ => laidMetH Tryd.prog [("treadmill/code.takes", Rows.laid_treadmill_code_takes)] w) (fun _ _ _ hh h => h.of_heap hh) own started (by kernel_rfl) Tryd.func3
    (ChangeSpec.witness_shaped (enc := enc) (C := Tryd.checked) (os := os) (X := fun w _ => laidMetH Tryd.prog [("treadmill/code.takes", Rows.laid_treadmill_code_takes)] w) false (World.doorLaid Tryd.prog 400 os) #[.int .i64 0] 8 rfl (World.shaped_of_RefB (by kernel_rfl) (by kernel_rfl)) (by kernel_rfl) (by kernel_rfl) (by kernel_rfl) (door_met os _)) ?_
  intro W base args ds gs before hval0 hW _ _ hL _
  have hval : ∀ (j : Nat) t v, Tryd.f3.params[j]? = some t → args[j]? = some v → Value.okWide Tryd.prog W .any base t v := hval0
  have hW' := hW
  obtain ⟨p, q, hA0, hV, rfl, hfz, hnd⟩ := hW
  have hA : DataW.TrodAll enc Tryd.prog W 0 (fun _ => true) true Tryd.f3.params.toList args.toList ds p := hA0
  rw [Tryd.params3] at hA hval
  obtain ⟨v0, vs0, d0, ds0, p0, q0, hargs, rfl, rfl, h0, r0⟩ := trodAll_cons hA
  obtain ⟨rfl, rfl, rfl⟩ := trodAll_nil r0
  obtain rfl : args = #[v0] := by cases args; simp_all
  obtain ⟨rfl, rfl⟩ := trodVars_none hV
  obtain ⟨a0, rfl, rfl, rfl, w0⟩ := open_int Tryd.underlying3 (hval 0 3 v0 rfl rfl) h0
  clear hA0 hval0
  simp only [List.append_nil] at hW'
  refine (walk a0 W (tk_of_laid hL) w0).mono fun e W' ⟨he, hg⟩ => ?_
  subst he
  exact ⟨_, rfl, post_of_kept (pa := _) (pv := []) hW' (fun _ _ _ => (trodAll_cons_mk (shut_bool Tryd.underlying4 _) trodAll_mk0)) (trodAll_cons_mk (shut_int Tryd.underlying3 w0) trodAll_mk0) (fun _ _ => rfl) (by simp) hg⟩

theorem over : Rows.modelNobodyRow.holds Tryd.pinned (OpenSpec.ofChange Rows.modelNobodySpec) :=
  OpenClaim.holds_of_wide 3 Tryd.f3 rfl rfl rfl rfl rfl rfl rfl ⟨rfl, rfl, rfl, rfl, rfl⟩ rfl rfl rfl rfl rfl (by kernel_rfl) Tryd.func3 (by kernel_rfl)
    (of_decide_eq_true (by kernel_rfl)) (by unfold Func.isWrapper; first | (rw [if_pos (by decide +kernel)]; kernel_rfl) | (rw [if_neg (by decide +kernel)]; exact ⟨rfl, rfl⟩))
    (fun os started H enc _ => lifted os started H enc)

theorem proved : Rows.ModelNobodyCardSaid :=
  Claim7.holds_tied_plain_at .later [] [.data] true Rows.modelNobodyCard.stood.harness true
    over (fun _ h => by cases h) (by kernel_rfl) (fun _ h => by cases h) modelNobody_row_tie rfl ⟨rfl, rfl⟩ (by kernel_rfl) rfl
    (fun f fn hf hfn => by
      obtain rfl : f = 3 := Option.some.inj ((show Tryd.prog.funcNamed "treadmill/treadmilllaw16.ModelNobody" = some 3 by kernel_rfl).symm.trans hf) |>.symm
      obtain rfl : fn = Tryd.f3 := (Option.some.inj (Tryd.func3.symm.trans hfn)).symm
      exact ⟨by kernel_rfl, fun j t ht => by
        rw [Tryd.params3] at ht
        have hm : t ∈ [3] := by simpa using Array.mem_of_getElem? ht
        have hall : ([3].all fun u => !Tryd.prog.wantsStandIn u) = true := by kernel_rfl
        exact (show Tryd.prog.wantsStandIn t = false by simpa using List.all_eq_true.1 hall t hm)⟩)
    (by kernel_rfl)
#print axioms proved
end Go.Proofs.YtdnajpnnjfncbaaDoor.modelNobody
