/- For any whole number the statement PoolLists answers true: full ones and empty ones are as many as were given and taken. No condition. -/
import Derived.Test.YtclldajbibhcbaaHome
import Derived.Test.YtclldajbibhcbaaPoolLaw
import Derived.WalkKit
import Derived.ProofKit
import Derived.OpenShut
import Derived.Deep.RegionHeld3
import Derived.Deep.RegionWith
import Derived.Deep.Cut
import Derived.Deep.CutBlock
import Derived.Deep.CutRange
import Derived.Deep.LoopGhost
import Derived.Deep.DeepCutAuto
import Derived.RegionTactic
import Derived.StillTailTactics
namespace Go.Proofs.Ytclldajbibhcbaa.poolLists
open Go.ChangeShapes Go.WideShapes Go.ChangeAt Go.WideElems Go.RowKit Go.Lib Fx Ho Po Bu
set_option linter.unusedVariables false

theorem own : ownKnob Try.prog.godebug = none := by kernel_rfl

set_option maxRecDepth 100000 in
set_option maxHeartbeats 4000000 in
theorem walk (a0 : Int) (w : World) (w0 : (Lit.int .i64 a0).wf = true) :
    Calls Try.prog 7 #[.int .i64 a0] w fun e w' => e = .returned (.bool true) ∧ Below w.heap.size w w' := by
  obtain ⟨U, hU⟩ : ∃ U : Int, IntKind.u64.wrap a0 = U := ⟨_, rfl⟩
  have U0 : 0 ≤ U := by rw [← hU, IntKind.wrap_u64]; omega
  obtain ⟨k, hk⟩ : ∃ k : Nat, U % 301 = (k : Int) := ⟨(U % 301).toNat, by omega⟩
  have k1 : k < 301 := by omega
  have cn := ps_new (x := 2) (ps := 2) rfl (by decide) (by decide) w
  go_enter Try.func7, Try.ntmps7
  go_wp2_with fail
  with_reducible refine Calls.mono (cn) ?_
  rintro e w1 ⟨p, B, rfl, h1⟩
  clear cn
  replace h1 := Lib.hid h1
  go_wp2_with fail
  clear hk hU
  go_loopw [6] (fun v wr => ∃ (i : Nat) (s : St), v = .int .i64 ((i : Int) + 1) ∧ i ≤ k ∧ Hid (Ps w wr p B 2 s) ∧ Hid (Shape i s) ∧ Hid (tot List.length 2 s = i)) (fun v _ => (k + 1 - (RowKit.intOf v).toNat))
  case atStart => exact ⟨0, st0, rfl, by omega, h1, Lib.hid shape0, Lib.hid (tot0 meas_len)⟩
  case round =>
    clear h1
    obtain ⟨i, s, rfl, i1, hP, hS, hT⟩ := hrel
    have hF : s.F.length ≤ 90000 := by have := hS.out.sum; omega
    have hE : s.e ≤ 90000 := by have := hS.out.e0; omega
    by_cases hi : i < k
    · have j0 : (0 : Int) ≤ (i : Int) + 1 := by omega
      have j1 : (i : Int) + 1 ≤ (k : Int) := by omega
      have cp := ps_put (x := 0) (i := 0) (g := (i : Int) + 1) hP.out rfl (by decide) (by decide) hF hE (by omega)
      have hS2 := Lib.hid (shape_put hS.out ((i : Int) + 1))
      have hT2 : Hid (tot List.length 2 (sPut s 0 ((i : Int) + 1)) = i + 1) := Lib.hid (by rw [tot_put meas_len (by decide), hT.out]; rfl)
      clear hP hF hE hS hT
      go_wp2_with fail
      with_reducible refine Calls.mono cp ?_
      rintro e w2 ⟨rfl, h2⟩
      replace h2 := Lib.hid h2
      clear cp
      go_wp2_with fail
      go_roundw
      case rel => exact ⟨i + 1, _, by push_cast; rfl, by omega, h2, hS2, hT2⟩
      case measure => simp [RowKit.intOf]; omega
    · obtain rfl : k = i := by omega
      have j1 : ¬ ((k : Int) + 1 ≤ (k : Int)) := by omega
      have c1 := ps_flush (x := 0) (i := 0) hP.out rfl (by decide) (by decide) hF hE
      have hfl := flush_fl s 0
      have hFF := flush_F s 0
      have hem := flush_empty s 0
      have hot := flush_other s (i := 0) (j := 1) (by decide)
      have hgo := good_flush (i := 0) hS.out.good
      have hto : tot List.length 2 (sFlush s 0) = k := (tot_flush meas_len (by decide)).trans hT.out
      obtain ⟨f, hf⟩ : ∃ f : Nat, (sFlush s 0).F.length = f := ⟨_, rfl⟩
      have hf1 : (f : Int) = ((k : Int) + 31) / 32 := by
        have := hS.out.sum
        have := hS.out.o32
        have := hS.out.o0
        have := hS.out.t0
        have h2 := hFF.1
        rw [hf] at h2
        rcases hS.out.t32 with h | h
        · rw [if_neg (show ¬ 0 < (s.t 0).length by omega)] at h2
          split at h2 <;> omega
        · rw [if_pos (show 0 < (s.t 0).length by omega)] at h2
          split at h2 <;> omega
      have he0 : (sFlush s 0).e = 0 := by have := hFF.2; have := hS.out.e0; omega
      have hflk : (sFlush s 0).fl 0 = decide ((0 : Int) < (k : Int)) := by
        rw [hfl, hS.out.fl0]
        have := hS.out.sum
        have := hS.out.o0
        by_cases h : 0 < k
        · rw [decide_eq_true (show 0 < (s.o 0).length + (s.t 0).length by omega), decide_eq_true (show (0 : Int) < (k : Int) by omega), Bool.or_true]
        · rw [decide_eq_false (show ¬ 0 < (s.o 0).length + (s.t 0).length by omega), decide_eq_false (show ¬ 0 < s.F.length by omega), decide_eq_false (show ¬ (0 : Int) < (k : Int) by omega)]; rfl
      have ho1 : (sFlush s 0).o 1 = [] ∧ (sFlush s 0).t 1 = [] := ⟨hot.1.trans hS.out.o1, hot.2.trans hS.out.t1⟩
      clear hP hS hF hE hT hfl hFF hot
      generalize sFlush s 0 = s1 at *
      go_wp2_with fail
      with_reducible refine Calls.mono c1 ?_
      rintro e w2 ⟨rfl, h2⟩
      have c2 := ps_lists (y := (f : Int)) (z := 0) h2 (by rw [hf]) (by rw [he0]; rfl)
      clear c1 h2
      go_wp2_with fail
      with_reducible refine Calls.mono (c2) ?_
      rintro e w3 ⟨rfl, h3⟩
      have c3 := ps_len (y := (k : Int)) h3 (by decide) (by omega) (by rw [hto])
      clear c2 h3
      have k0 : (0 : Int) ≤ (k : Int) := by omega
      have k3 : (k : Int) ≤ 301 := by omega
      have hf2 : ((f : Int) != ((k : Int) + 31) / 32) = false := by rw [← hf1]; simp
      have hf3 : Hid (f ≤ 20) := Lib.hid (by omega)
      replace hf1 := Lib.hid hf1
      go_wp2_with fail
      with_reducible refine Calls.mono (c3) ?_
      rintro e w4 ⟨rfl, h4⟩
      have c4 := ps_flushed (x := 0) (i := 0) h4 rfl (by decide) (by decide) hflk
      have hbd : (decide ((0 : Int) < (k : Int)) != decide ((0 : Int) < (k : Int))) = false := by cases decide ((0 : Int) < (k : Int)) <;> rfl
      clear c3
      go_wp2_with fail
      with_reducible refine Calls.mono (c4) ?_
      rintro e w' ⟨rfl, rfl⟩
      have hI : Hid (Ps w w4 p B 2 s1 ∧ tot List.length 2 s1 = k - 0 ∧ s1.F.length + s1.e = f ∧ s1.o 0 = [] ∧ s1.t 0 = [] ∧ Po.Good 2 s1) := Lib.hid ⟨h4, by omega, by omega, hem.1, hem.2, hgo⟩
      clear c4 h4 hem hgo hto hf he0 hflk ho1
      go_wp2_with fail
      go_loopw [9, 10, 11] (fun v v10 v11 wr => ∃ (j : Nat) (s : St), v = .int .i64 j ∧ j ≤ k ∧ Hid (Ps w wr p B 2 s ∧ tot List.length 2 s = k - j ∧ s.F.length + s.e = f ∧ s.o 0 = [] ∧ s.t 0 = [] ∧ Po.Good 2 s)) (fun v _ _ _ => (k - (RowKit.intOf v).toNat))
      case atStart => exact ⟨0, s1, rfl, by omega, hI⟩
      case round =>
        clear hI
        obtain ⟨j, s, rfl, j1, hI⟩ := hrel
        by_cases hj : j < k
        · have j2 : (j : Int) < (k : Int) := by omega
          have j0 : (0 : Int) ≤ (j : Int) := by omega
          obtain ⟨hP, hT, hFe, ho, ht, hg⟩ := hI.out
          have hok : (sAns s 1).2 = true := Po.get_some hg (by decide) (fun j hj hne => by (have e : j = 0 := (by omega)); subst e; exact ⟨ho, ht⟩) (by omega)
          obtain ⟨⟨v5, b5⟩, hv5⟩ : ∃ q, sAns s 1 = q := ⟨_, rfl⟩
          rw [hv5] at hok
          obtain rfl : b5 = true := hok
          have hf4 := hf3.out
          have cg := ps_get (x := 1) (i := 1) hP rfl (by decide) (by decide) (by omega) (by omega) hv5
          have hT2 := tot_get (s := s) meas_len (show 1 < 2 by decide)
          rw [hv5] at hT2
          have hoth := get_other s (i := 1) (j := 0) (by decide)
          have hFe2 := get_Fe s 1
          have hg2 := good_get (i := 1) hg
          have hI2 : Hid (∀ w2, Ps w w2 p B 2 (sGet s 1) → Hid (Ps w w2 p B 2 (sGet s 1) ∧ tot List.length 2 (sGet s 1) = k - (j + 1) ∧ (sGet s 1).F.length + (sGet s 1).e = f ∧ (sGet s 1).o 0 = [] ∧ (sGet s 1).t 0 = [] ∧ Po.Good 2 (sGet s 1))) := Lib.hid fun w2 h2 => Lib.hid ⟨h2, by simp at hT2; omega, by omega, hoth.1.trans ho, hoth.2.trans ht, hg2⟩
          clear hI hP hT hFe ho ht hg hv5 hT2 hoth hFe2 hg2 hf4
          go_wp2_with fail
          with_reducible refine Calls.mono cg ?_
          rintro e w2 ⟨rfl, h2⟩
          have hI3 := hI2.out w2 h2
          clear cg h2 hI2
          go_wp2_with fail
          go_roundw
          case rel => exact ⟨j + 1, _, by go_num, by omega, hI3⟩
          case measure => simp [RowKit.intOf]; omega
        · obtain rfl : j = k := by omega
          obtain ⟨hP, hT, hFe, ho, ht, hg⟩ := hI.out
          have hz : s.F.length = 0 := none_full hg (by omega)
          have c5 := ps_lists (y := 0) (z := (f : Int)) hP (by rw [hz]; rfl) (by rw [← hFe, hz]; push_cast; omega)
          have hto : tot List.length 2 s = 0 := by omega
          clear hI hP hT hFe ho ht hg
          go_wp2_with fail
          with_reducible refine Calls.mono c5 ?_
          rintro e w5 ⟨rfl, h5⟩
          clear c5
          go_wp2_with fail
          with_reducible refine Calls.mono (Po.get_nil 0 w5) ?_
          rintro e w' ⟨rfl, rfl⟩
          go_wp2_with fail
          with_reducible refine Calls.mono (Po.told_any w5) ?_
          rintro e w6 ⟨rfl, hb6⟩
          have c6 := ps_len (y := 0) (h5.below hb6) (by decide) (by omega) (by rw [hto]; rfl)
          clear h5 hb6
          go_wp2_with fail
          with_reducible refine Calls.mono (c6) ?_
          rintro e w7 ⟨rfl, h7⟩
          have hb := Lib.hid h7.b
          clear c6 h7
          go_wp2_with fail
          with_reducible refine Calls.mono (Po.len_nil w7) ?_
          rintro e w' ⟨rfl, rfl⟩
          go_wp2_with fail
          with_reducible refine Calls.mono (give_nil 0 w7) ?_
          rintro e w' ⟨rfl, rfl⟩
          go_wp2_with fail
          with_reducible refine Calls.mono (flushed_nil 0 w7) ?_
          rintro e w' ⟨rfl, rfl⟩
          go_wp2_with fail
          go_ret
          exact ⟨rfl, hb.out⟩

set_option maxRecDepth 100000 in
theorem lifted (os : Os) (started : os.Started) (H : Type) (enc : TypeId × Value → H) :
    ReturnsInHanded {} Try.checked os 7 .any (Rows.poolListsSpec.pre6 enc Try.prog Try.f7 Rows.poolListsRow.domain false) (Rows.poolListsSpec.post enc Try.prog Try.f7 false true false false) := by
  refine returnsInHanded_of_change (C := Try.checked) own started (by kernel_rfl) Try.func7
    (ChangeSpec.witness6 (enc := enc) (C := Try.checked) false ⟨#[], #[.int .i64 0], []⟩ 8 (by kernel_rfl) (by kernel_rfl) (by kernel_rfl) (by kernel_rfl)) ?_
  intro W base args ds gs before hval0 hW hcnd _
  have hval : ∀ (j : Nat) t v, Try.f7.params[j]? = some t → args[j]? = some v → Value.okWide Try.prog W .any base t v := hval0
  have hW' := hW
  obtain ⟨p, q, hA0, hV, rfl, hfz, hnd⟩ := hW
  have hA : DataW.TrodAll enc Try.prog W 0 (fun _ => true) true Try.f7.params.toList args.toList ds p := hA0
  rw [Try.params7] at hA hval
  obtain ⟨v0, vs0, d0, ds0, p0, q0, hargs, rfl, rfl, h0, r0⟩ := trodAll_cons hA
  obtain ⟨rfl, rfl, rfl⟩ := trodAll_nil r0
  obtain rfl : args = #[v0] := by cases args; simp_all
  obtain ⟨rfl, rfl⟩ := trodVars_none hV
  obtain ⟨a0, rfl, rfl, rfl, w0⟩ := open_int Try.underlying3 (hval 0 3 v0 rfl rfl) h0
  clear hA0 hval0
  simp only [List.append_nil] at hW'
  refine (walk a0 W w0).mono fun e W' ⟨he, hg⟩ => ?_
  subst he
  exact ⟨_, rfl, post_of_kept (pa := _) (pv := []) hW' (fun _ _ _ => (trodAll_cons_mk (shut_bool Try.underlying4 _) trodAll_mk0)) (trodAll_cons_mk (shut_int Try.underlying3 w0) trodAll_mk0) (fun _ _ => rfl) (by simp) hg⟩

theorem over : Rows.poolListsRow.holds Try.pinned (OpenSpec.ofChange Rows.poolListsSpec) :=
  OpenClaim.holds_of_wide 7 Try.f7 rfl rfl rfl rfl rfl rfl rfl ⟨rfl, rfl, rfl, rfl, rfl⟩ rfl rfl rfl rfl rfl (by kernel_rfl) Try.func7 (by kernel_rfl)
    (of_decide_eq_true (by kernel_rfl)) (by unfold Func.isWrapper; first | (rw [if_pos (by decide +kernel)]; kernel_rfl) | (rw [if_neg (by decide +kernel)]; exact ⟨rfl, rfl⟩))
    (fun os started H enc _ => lifted os started H enc)

theorem proved : Rows.PoolListsSaid :=
  over
#print axioms proved
end Go.Proofs.Ytclldajbibhcbaa.poolLists
