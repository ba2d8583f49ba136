/- For any whole number the statement PoolFlags answers true: a P has flushed, if something of it went to all; not, if it only put a few, or got. No condition. -/
import Derived.Test.YtclldajbibhcbaaHome
import Derived.Test.YtclldajbibhcbaaPoolLaw
import Derived.WalkKit
import Derived.ProofKit
import Derived.OpenShut
import Derived.Deep.RegionHeld3
import Derived.Deep.RegionWith
import Derived.Deep.Cut
import Derived.Deep.CutBlock
import Derived.Deep.CutRange
import Derived.Deep.LoopGhost
import Derived.Deep.DeepCutAuto
import Derived.RegionTactic
import Derived.StillTailTactics
namespace Go.Proofs.Ytclldajbibhcbaa.poolFlags
open Go.ChangeShapes Go.WideShapes Go.ChangeAt Go.WideElems Go.RowKit Go.Lib Fx Ho Po Bu
set_option linter.unusedVariables false

theorem own : ownKnob Try.prog.godebug = none := by kernel_rfl

set_option maxRecDepth 100000 in
set_option maxHeartbeats 4000000 in
theorem walk (a0 : Int) (w : World) (w0 : (Lit.int .i64 a0).wf = true) :
    Calls Try.prog 6 #[.int .i64 a0] w fun e w' => e = .returned (.bool true) ∧ Below w.heap.size w w' := by
  obtain ⟨U, hU⟩ : ∃ U : Int, IntKind.u64.wrap a0 = U := ⟨_, rfl⟩
  have U0 : 0 ≤ U := by rw [← hU, IntKind.wrap_u64]; omega
  obtain ⟨k, hk⟩ : ∃ k : Nat, U % 101 = (k : Int) := ⟨(U % 101).toNat, by omega⟩
  have k1 : k < 101 := by omega
  have cn := ps_new (x := 2) (ps := 2) rfl (by decide) (by decide) w
  go_enter Try.func6, Try.ntmps6
  go_wp2_with fail
  with_reducible refine Calls.mono (cn) ?_
  rintro e w1 ⟨p, B, rfl, h1⟩
  clear cn
  replace h1 := Lib.hid h1
  go_wp2_with fail
  clear hk hU
  go_loopw [6] (fun v wr => ∃ (i : Nat) (s : St), v = .int .i64 ((i : Int) + 1) ∧ i ≤ k ∧ Hid (Ps w wr p B 2 s) ∧ Hid (Shape i s)) (fun v _ => (k + 1 - (RowKit.intOf v).toNat))
  case atStart => exact ⟨0, st0, rfl, by omega, h1, Lib.hid shape0⟩
  case round =>
    clear h1
    obtain ⟨i, s, rfl, i1, hP, hS⟩ := hrel
    have hF : s.F.length ≤ 90000 := by have := hS.out.sum; omega
    have hE : s.e ≤ 90000 := by have := hS.out.e0; omega
    by_cases hi : i < k
    · have j0 : (0 : Int) ≤ (i : Int) + 1 := by omega
      have j1 : (i : Int) + 1 ≤ (k : Int) := by omega
      have cp := ps_put (x := 0) (i := 0) (g := (i : Int) + 1) hP.out rfl (by decide) (by decide) hF hE (by omega)
      have hS2 := Lib.hid (shape_put hS.out ((i : Int) + 1))
      clear hP hF hE hS
      go_wp2_with fail
      with_reducible refine Calls.mono cp ?_
      rintro e w2 ⟨rfl, h2⟩
      replace h2 := Lib.hid h2
      clear cp
      go_wp2_with fail
      go_roundw
      case rel => exact ⟨i + 1, _, by push_cast; rfl, by omega, h2, hS2⟩
      case measure => simp [RowKit.intOf]; omega
    · obtain rfl : k = i := by omega
      have j1 : ¬ ((k : Int) + 1 ≤ (k : Int)) := by omega
      have hb0 : s.fl 0 = decide ((64 : Int) < (k : Int)) := by
        rw [hS.out.fl0]
        have := hS.out.sum
        have := hS.out.o32
        have := hS.out.o0
        have := hS.out.t0
        rcases hS.out.t32 with h | h
        · rw [decide_eq_false (show ¬ 0 < s.F.length by omega), decide_eq_false (show ¬ (64 : Int) < (k : Int) by omega)]
        · by_cases hF : 0 < s.F.length
          · rw [decide_eq_true hF, decide_eq_true (show (64 : Int) < (k : Int) by omega)]
          · rw [decide_eq_false hF, decide_eq_false (show ¬ (64 : Int) < (k : Int) by omega)]
      have c1 := ps_flushed (x := 0) (i := 0) hP.out rfl (by decide) (by decide) hb0
      have c2 := ps_flushed (x := 1) (i := 1) hP.out rfl (by decide) (by decide) hS.out.fl1
      have c3 := ps_reset (x := 0) (i := 0) hP.out rfl (by decide) (by decide)
      have hbb : (decide ((64 : Int) < (k : Int)) != decide ((64 : Int) < (k : Int))) = false := by cases decide ((64 : Int) < (k : Int)) <;> rfl
      have hF1 : (sFl s 0 false).F.length ≤ 90000 := hF
      have hF0 : (sFl s 0 false).F.length ≤ 4 := by show s.F.length ≤ 4; have := hS.out.sum; omega
      have hE0 : (sFl s 0 false).e = 0 := hS.out.e0
      have hE1 : (sFl s 0 false).e ≤ 90000 := hE
      have hfl : (sFl s 0 false).fl 0 = false := by simp [sFl, up_same]
      clear hP hS hF hE hb0
      generalize sFl s 0 false = s1 at *
      go_wp2_with fail
      with_reducible refine Calls.mono c1 ?_
      rintro e w' ⟨rfl, rfl⟩
      go_wp2_with fail
      with_reducible refine Calls.mono (c2) ?_
      rintro e w' ⟨rfl, rfl⟩
      go_wp2_with fail
      with_reducible refine Calls.mono (c3) ?_
      rintro e w2 ⟨rfl, h2⟩
      have c4 := ps_flushed (x := 0) (i := 0) h2 rfl (by decide) (by decide) hfl
      obtain ⟨⟨v5, b5⟩, hv5⟩ : ∃ q, sAns s1 0 = q := ⟨_, rfl⟩
      have c5 := ps_get (x := 0) (i := 0) h2 rfl (by decide) (by decide) hF1 hE1 hv5
      have hfl2 : (sGet s1 0).fl 0 = false := by rw [get_fl]; exact hfl
      have hFe := get_Fe s1 0
      clear h2 c1 c2 c3 hv5
      go_wp2_with fail
      with_reducible refine Calls.mono (c4) ?_
      rintro e w' ⟨rfl, rfl⟩
      go_wp2_with fail
      with_reducible refine Calls.mono (c5) ?_
      rintro e w3 ⟨rfl, h3⟩
      have hF2 : (sGet s1 0).F.length ≤ 180000 := by omega
      have hF3 : (sGet s1 0).F.length ≤ 90000 := by omega
      have hE3 : (sGet s1 0).e ≤ 90000 := by omega
      clear hFe hF2
      generalize sGet s1 0 = s2 at *
      obtain ⟨y, hy⟩ : ∃ y : Nat, (s2.o 0).length + (s2.t 0).length = y := ⟨_, rfl⟩
      have c6 := ps_flushed (x := 0) (i := 0) h3 rfl (by decide) (by decide) hfl2
      have c7 := ps_local (x := 0) (i := 0) (y := (y : Int)) h3 rfl (by decide) (by decide) (by rw [hy])
      clear h3 c4 c5
      go_wp2_with fail
      with_reducible refine Calls.mono (c6) ?_
      rintro e w' ⟨rfl, rfl⟩
      go_wp2_with fail
      with_reducible refine Calls.mono (c7) ?_
      rintro e w4 ⟨rfl, h4⟩
      have c8 := ps_flush (x := 0) (i := 0) h4 rfl (by decide) (by decide) hF3 hE3
      have hfl3 := flush_fl s2 0
      rw [hfl2, hy, Bool.false_or] at hfl3
      have hemp := flush_empty s2 0
      clear h4 c6 c7 hy
      go_wp2_with fail
      with_reducible refine Calls.mono (c8) ?_
      rintro e w5 ⟨rfl, h5⟩
      generalize sFlush s2 0 = s3 at *
      have ct := Po.told_any w5
      clear c8
      go_wp2_with fail
      with_reducible refine Calls.mono (ct) ?_
      rintro e w6 ⟨rfl, hb6⟩
      have h6 := h5.below hb6
      have hyd : decide (0 < y) = decide ((0 : Int) < (y : Int)) := by
        by_cases h : 0 < y
        · rw [decide_eq_true h, decide_eq_true (by omega)]
        · rw [decide_eq_false h, decide_eq_false (by omega)]
      have c9 := ps_flushed (x := 0) (i := 0) h6 rfl (by decide) (by decide) (hfl3.trans hyd)
      have cA := ps_local (x := 0) (i := 0) (y := 0) h6 rfl (by decide) (by decide) (by rw [hemp.1, hemp.2]; rfl)
      clear h5 h6 hb6 ct hfl3 hemp hyd
      have hbd : (decide ((0 : Int) < (y : Int)) == decide ((0 : Int) < (y : Int))) = true := by cases decide ((0 : Int) < (y : Int)) <;> rfl
      go_wp2_with fail
      with_reducible refine Calls.mono (c9) ?_
      rintro e w' ⟨rfl, rfl⟩
      go_wp2_with fail
      with_reducible refine Calls.mono (cA) ?_
      rintro e w7 ⟨rfl, h7⟩
      have hb := Lib.hid h7.b
      clear h7 cA c9
      go_wp2_with fail
      go_ret
      exact ⟨rfl, hb.out⟩

set_option maxRecDepth 100000 in
theorem lifted (os : Os) (started : os.Started) (H : Type) (enc : TypeId × Value → H) :
    ReturnsInHanded {} Try.checked os 6 .any (Rows.poolFlagsSpec.pre6 enc Try.prog Try.f6 Rows.poolFlagsRow.domain false) (Rows.poolFlagsSpec.post enc Try.prog Try.f6 false true false false) := by
  refine returnsInHanded_of_change (C := Try.checked) own started (by kernel_rfl) Try.func6
    (ChangeSpec.witness6 (enc := enc) (C := Try.checked) false ⟨#[], #[.int .i64 0], []⟩ 8 (by kernel_rfl) (by kernel_rfl) (by kernel_rfl) (by kernel_rfl)) ?_
  intro W base args ds gs before hval0 hW hcnd _
  have hval : ∀ (j : Nat) t v, Try.f6.params[j]? = some t → args[j]? = some v → Value.okWide Try.prog W .any base t v := hval0
  have hW' := hW
  obtain ⟨p, q, hA0, hV, rfl, hfz, hnd⟩ := hW
  have hA : DataW.TrodAll enc Try.prog W 0 (fun _ => true) true Try.f6.params.toList args.toList ds p := hA0
  rw [Try.params6] at hA hval
  obtain ⟨v0, vs0, d0, ds0, p0, q0, hargs, rfl, rfl, h0, r0⟩ := trodAll_cons hA
  obtain ⟨rfl, rfl, rfl⟩ := trodAll_nil r0
  obtain rfl : args = #[v0] := by cases args; simp_all
  obtain ⟨rfl, rfl⟩ := trodVars_none hV
  obtain ⟨a0, rfl, rfl, rfl, w0⟩ := open_int Try.underlying3 (hval 0 3 v0 rfl rfl) h0
  clear hA0 hval0
  simp only [List.append_nil] at hW'
  refine (walk a0 W w0).mono fun e W' ⟨he, hg⟩ => ?_
  subst he
  exact ⟨_, rfl, post_of_kept (pa := _) (pv := []) hW' (fun _ _ _ => (trodAll_cons_mk (shut_bool Try.underlying4 _) trodAll_mk0)) (trodAll_cons_mk (shut_int Try.underlying3 w0) trodAll_mk0) (fun _ _ => rfl) (by simp) hg⟩

theorem over : Rows.poolFlagsRow.holds Try.pinned (OpenSpec.ofChange Rows.poolFlagsSpec) :=
  OpenClaim.holds_of_wide 6 Try.f6 rfl rfl rfl rfl rfl rfl rfl ⟨rfl, rfl, rfl, rfl, rfl⟩ rfl rfl rfl rfl rfl (by kernel_rfl) Try.func6 (by kernel_rfl)
    (of_decide_eq_true (by kernel_rfl)) (by unfold Func.isWrapper; first | (rw [if_pos (by decide +kernel)]; kernel_rfl) | (rw [if_neg (by decide +kernel)]; exact ⟨rfl, rfl⟩))
    (fun os started H enc _ => lifted os started H enc)

theorem proved : Rows.PoolFlagsSaid :=
  over
#print axioms proved
end Go.Proofs.Ytclldajbibhcbaa.poolFlags
