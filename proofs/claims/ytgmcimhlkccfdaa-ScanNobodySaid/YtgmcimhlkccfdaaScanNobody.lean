/- An object of no slots, or a scan that is none, is done: any address, any number of slots that is none. No condition. -/
import Derived.Test.YtgmcimhlkccfdaaScanMore
import Derived.WalkKit
import Derived.ProofKit
import Derived.OpenShut
import Derived.Deep.RegionHeld3
import Derived.Deep.RegionWith
import Derived.Deep.Cut
import Derived.Deep.CutBlock
import Derived.Deep.CutRange
import Derived.Deep.DeepCutAuto
import Derived.RegionTactic
namespace Go.Proofs.Ytgmcimhlkccfdaa.scanNobody
open Go.ChangeShapes Go.WideShapes Go.ChangeAt Go.WideElems Go.RowKit Go.Lib Fx Ho Sc Rw Qu
set_option linter.unusedVariables false

theorem own : ownKnob Try.prog.godebug = none := by kernel_rfl

theorem seven_any {ad : Int} (i : Nat) (W : World) (hi : i ≤ 100000) : Calls Try.prog 45 (#[.int .i64 ad, .int .i64 i] ++ #[]) W (Still (.int .i64 7) W) := by
  show Calls _ _ #[.int .i64 ad, .int .i64 i] _ _
  go_enter Try.func45, Try.ntmps45
  go_wp2_with fail
  go_ret
  exact ⟨rfl, rfl⟩
theorem enter_seven (args : Array Value) (W : World) : Sem.run Try.prog (callFunc 45 args) W = .ok (.enter 45 args) W := by rfl
set_option maxRecDepth 100000 in
set_option maxHeartbeats 4000000 in
theorem walk (a0 : Int) (a1 : Int) (w : World) (w0 : (Lit.int .i64 a0).wf = true) (w1 : (Lit.int .i64 a1).wf = true) :
    Calls Try.prog 10 #[.int .i64 a0, .int .i64 a1] w fun e w' => e = .returned (.bool true) ∧ Below w.heap.size w w' := by
  have ct := fun w => Sc.told_any w
  obtain ⟨Z, hZ⟩ : ∃ Z : Int, IntKind.u64.wrap a1 = Z := ⟨_, rfl⟩
  have z1 : 0 ≤ Z := by rw [← hZ, IntKind.wrap_u64]; omega
  obtain ⟨m, hm⟩ : ∃ m : Nat, Z % 100 = (m : Int) := ⟨(Z % 100).toNat, by omega⟩
  have m1 : m ≤ 99 := by omega
  have cn := ss_new (ad := a0) (m := -(m : Int)) 0 (by by_cases h : (0 : Int) > -(m : Int); exact if_pos h; rw [if_neg h]; omega) w
  obtain ⟨p, hp⟩ : ∃ p, w.heap.size = p := ⟨_, rfl⟩
  rw [hp] at cn
  clear hp
  go_enter Try.func10, Try.ntmps10
  go_wp2_with fail
  with_reducible refine Calls.mono (cn) ?_
  rintro e w1 ⟨rfl, hs1⟩
  clear cn hZ z1 hm m1
  go_wp2_with fail
  with_reducible refine Calls.mono (ct _) ?_
  rintro e w2 ⟨rfl, hb2⟩
  have hs2 := hs1.below hb2
  have cd : Calls Try.prog 40 #[.pointer (some ⟨p, 0, none⟩)] w2 (Ans (.bool true) w2) := done_any (by omega) hs2.s
  have hnx : Hid (∀ k, Ss w (w2.drewN k) p a0 0 0) := fun k => hs2.below (below_drewN (Below.refl _ _) k)
  clear hs1 hs2 hb2
  go_wp2_with fail
  with_reducible refine Calls.mono (cd) ?_
  rintro e w3 ⟨rfl, k, rfl⟩
  have hs3 := hnx.out k
  clear cd hnx
  generalize w2.drewN k = w3 at *
  have cl : Calls Try.prog 42 #[.pointer (some ⟨p, 0, none⟩)] w3 (Ans (.int .i64 0) w3) := left_any (by omega) hs3.s
  have hnx : Hid (∀ k, Ss w (w3.drewN k) p a0 0 0) := fun k => hs3.below (below_drewN (Below.refl _ _) k)
  clear hs3
  go_wp2_with fail
  with_reducible refine Calls.mono (cl) ?_
  rintro e w4 ⟨rfl, k2, rfl⟩
  have hs4 := hnx.out k2
  clear cl hnx
  generalize w3.drewN k2 = w4 at *
  have cs := ss_step seven_any enter_seven hs4 (c := 0) rfl (by omega)
  go_wp2_with fail
  with_reducible refine Calls.mono (cs) ?_
  rintro e w5 ⟨v5, rfl, ho5, _, hs5, _⟩
  obtain ⟨sp5, cap5, rfl⟩ := off_slice ho5 (n := 0) rfl
  have hb5 := Lib.hid hs5.bel
  clear cs ho5 hs5 hs4
  go_wp2_with fail
  with_reducible refine Calls.mono (done_nil _) ?_
  rintro e w6 ⟨rfl, rfl⟩
  go_wp2_with fail
  with_reducible refine Calls.mono (left_nil _) ?_
  rintro e w6 ⟨rfl, rfl⟩
  go_wp2_with fail
  with_reducible refine Calls.mono (step_nil _) ?_
  rintro e w6 ⟨rfl, hb6⟩
  have hb7 := Lib.hid (hb5.out.trans (hb6.mono hb5.out.size))
  clear hb5 hb6
  go_wp2_with fail
  with_reducible refine Calls.mono (all_none _) ?_
  rintro e w8 ⟨rfl, rfl⟩
  go_wp2_with fail
  go_ret
  exact ⟨rfl, hb7.out⟩

set_option maxRecDepth 100000 in
theorem lifted (os : Os) (started : os.Started) (H : Type) (enc : TypeId × Value → H) :
    ReturnsInHanded {} Try.checked os 10 .any (Rows.scanNobodySpec.pre6 enc Try.prog Try.f10 Rows.scanNobodyRow.domain false) (Rows.scanNobodySpec.post enc Try.prog Try.f10 false true false false) := by
  refine returnsInHanded_of_change (C := Try.checked) own started (by kernel_rfl) Try.func10
    (ChangeSpec.witness6 (enc := enc) (C := Try.checked) false ⟨#[], #[.int .i64 0, .int .i64 0], []⟩ 8 (by kernel_rfl) (by kernel_rfl) (by kernel_rfl) (by kernel_rfl)) ?_
  intro W base args ds gs before hval0 hW hcnd _
  have hval : ∀ (j : Nat) t v, Try.f10.params[j]? = some t → args[j]? = some v → Value.okWide Try.prog W .any base t v := hval0
  have hW' := hW
  obtain ⟨p, q, hA0, hV, rfl, hfz, hnd⟩ := hW
  have hA : DataW.TrodAll enc Try.prog W 0 (fun _ => true) true Try.f10.params.toList args.toList ds p := hA0
  rw [Try.params10] at hA hval
  obtain ⟨v0, vs0, d0, ds0, p0, q0, hargs, rfl, rfl, h0, r0⟩ := trodAll_cons hA
  obtain ⟨v1, vs1, d1, ds1, p1, q1, rfl, rfl, rfl, h1, r1⟩ := trodAll_cons r0
  obtain ⟨rfl, rfl, rfl⟩ := trodAll_nil r1
  obtain rfl : args = #[v0, v1] := by cases args; simp_all
  obtain ⟨rfl, rfl⟩ := trodVars_none hV
  obtain ⟨a0, rfl, rfl, rfl, w0⟩ := open_int Try.underlying3 (hval 0 3 v0 rfl rfl) h0
  obtain ⟨a1, rfl, rfl, rfl, w1⟩ := open_int Try.underlying3 (hval 1 3 v1 rfl rfl) h1
  clear hA0 hval0
  simp only [List.append_nil] at hW'
  refine (walk a0 a1 W w0 w1).mono fun e W' ⟨he, hg⟩ => ?_
  subst he
  exact ⟨_, rfl, post_of_kept (pa := _) (pv := []) hW' (fun _ _ _ => (trodAll_cons_mk (shut_bool Try.underlying4 _) trodAll_mk0)) (trodAll_cons_mk (shut_int Try.underlying3 w0) (trodAll_cons_mk (shut_int Try.underlying3 w1) trodAll_mk0)) (fun _ _ => rfl) (by simp) hg⟩

theorem over : Rows.scanNobodyRow.holds Try.pinned (OpenSpec.ofChange Rows.scanNobodySpec) :=
  OpenClaim.holds_of_wide 10 Try.f10 rfl rfl rfl rfl rfl rfl rfl ⟨rfl, rfl, rfl, rfl, rfl⟩ rfl rfl rfl rfl rfl (by kernel_rfl) Try.func10 (by kernel_rfl)
    (of_decide_eq_true (by kernel_rfl)) (by unfold Func.isWrapper; first | (rw [if_pos (by decide +kernel)]; kernel_rfl) | (rw [if_neg (by decide +kernel)]; exact ⟨rfl, rfl⟩))
    (fun os started H enc _ => lifted os started H enc)

theorem proved : Rows.ScanNobodySaid :=
  over
#print axioms proved
end Go.Proofs.Ytgmcimhlkccfdaa.scanNobody
