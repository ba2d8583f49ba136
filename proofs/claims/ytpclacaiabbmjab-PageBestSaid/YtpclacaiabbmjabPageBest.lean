/- PageBest: Alloc takes the least run that has the pages, of like ones the first. -/
import Derived.Test.YtpclacaiabbmjabHome
import Derived.Test.YtpclacaiabbmjabPageBestM
import Derived.WalkKit
import Derived.ProofKit
import Derived.OpenShut
import Derived.Deep.RegionHeld3
import Derived.Deep.RegionWith
import Derived.Deep.Cut
import Derived.Deep.CutBlock
import Derived.Deep.CutRange
import Derived.Deep.LoopGhost
import Derived.Deep.DeepCutAuto
import Derived.RegionTactic
import Derived.StillTailTactics
namespace Go.Proofs.Ytpclacaiabbmjab.pageBest
open Go.ChangeShapes Go.WideShapes Go.ChangeAt Go.WideElems Go.RowKit Go.Lib Fx Ho Pg
set_option linter.unusedVariables false

theorem own : ownKnob Try.prog.godebug = none := by kernel_rfl

set_option maxRecDepth 100000 in
set_option maxHeartbeats 4000000 in
theorem walk (v0 : Value) (z0 : List Int) (a1 : Int) (w : World) (h0 : Ints w (fun k => k < w.heap.size) v0 z0) (w1 : (Lit.int .i64 a1).wf = true) :
    Calls Try.prog 4 #[v0, .int .i64 a1] w fun e w' => e = .returned (.bool true) ∧ Below w.heap.size w w' := by
  have ct := fun w => told_any w
  have cn := new_any 120 w
  rw [show many 120 = 120 from rfl] at cn
  obtain ⟨sp, cap, rfl, hm, hc⟩ := h0
  obtain ⟨n, hn⟩ : ∃ n, z0.length = n := ⟨_, rfl⟩
  rw [hn] at hm hc ⊢
  clear hn
  have hcx : Hid (∀ wr, Below w.heap.size w wr → ∀ j, j < n → ∃ bb off, sp = some ⟨bb, off, none⟩ ∧ wr.cell? ⟨bb, off + j, none⟩ = some (.int .i64 (z0.getD j 0))) := Lib.hid fun wr hb j hj => by
    obtain ⟨bb, off, e, _, _, d0⟩ := hc j hj
    exact ⟨bb, off, e, cell_then hb d0⟩
  clear hc
  by_cases hg : n = 0 ∨ 10 < n
  · clear cn hcx
    rcases hg with hg | hg
    · have i1 : (n : Int) = 0 := by omega
      have e1 : ((n : Int) == 0) = true := by rw [i1]; rfl
      have ct := ct w
      go_enter Try.func4, Try.ntmps4
      go_wp2_with fail
      with_reducible refine Calls.mono ct ?_
      rintro e w' ⟨rfl, hb⟩
      go_wp2_with fail
      go_ret
      exact ⟨rfl, hb⟩
    · have i1 : (10 : Int) < (n : Int) := by omega
      have i0 : ¬ ((n : Int) = 0) := by omega
      have e0 : ((n : Int) == 0) = false := by simp; omega
      have ct := ct w
      go_enter Try.func4, Try.ntmps4
      go_wp2_with fail
      with_reducible refine Calls.mono ct ?_
      rintro e w' ⟨rfl, hb⟩
      go_wp2_with fail
      go_ret
      exact ⟨rfl, hb⟩
  · have i1 : ¬ (10 : Int) < (n : Int) := by omega
    have i0 : ¬ ((n : Int) = 0) := by omega
    have e0 : ((n : Int) == 0) = false := by simp; omega
    have n10 : n ≤ 10 := by omega
    clear hg
    obtain ⟨X, hX⟩ : ∃ X : Int, IntKind.u64.wrap a1 = X := ⟨_, rfl⟩
    have X0 : 0 ≤ X := by rw [← hX, IntKind.wrap_u64]; omega
    obtain ⟨k, hk⟩ : ∃ k : Nat, 1 + X % 9 = (k : Int) := ⟨(1 + X % 9).toNat, by omega⟩
    have k1 : 1 ≤ k := by omega
    have k9 : k ≤ 9 := by omega
    have hal : Hid (∀ W P H, Ps w W P 120 4 (newF 120) H → Calls Try.prog 12 #[.pointer (some ⟨P, 0, none⟩), .int .i64 119] W fun e W' => e = .returned (.tuple #[.int .i64 1, .int .i64 0]) ∧ Hid (∃ H, Ps w W' P 120 8 (setR (newF 120) 1 false 119) H)) := Lib.hid fun W P H h => (alloc_yes (q := 119) h (by omega) (by omega) (new_best (by omega) (by omega))).mono fun e W' hh => by
      obtain ⟨h1, h2⟩ := step_ps hh
      exact ⟨h1, Lib.hid h2⟩
    go_enter Try.func4, Try.ntmps4
    go_wp2_with fail
    with_reducible refine Calls.mono cn ?_
    rintro e w1 ⟨P, rfl, hps⟩
    obtain ⟨H1, hps⟩ := hps.out
    have ca := hal.out _ _ _ hps
    clear cn hps hal
    go_wp2_with fail
    with_reducible refine Calls.mono ca ?_
    rintro e w2 ⟨rfl, hps⟩
    clear ca
    obtain ⟨H2, hps⟩ := hps.out
    have hst : Hid (∀ U : World, U.heap = (w2.alloc (.cells #[.int .i64 0, .int .i64 0] 32)).heap → U.os = w2.os → U.tape = w2.tape → U.output = w2.output → Pb w U P w2.heap.size 8 (setR (newF 120) 1 false 119) k 2 0 0) := Lib.hid fun U u1 u2 u3 u4 => pb_start hps k1 u1 u2 u3 u4
    clear hps
    obtain ⟨B, hB⟩ : ∃ B, w2.heap.size = B := ⟨_, rfl⟩
    rw [hB] at hst
    go_wp2_with fail
    go_loopw [8, 11, 12] (fun u8 u11 u12 wr => ∃ (i t bf bm : Nat), u8 = .int .i64 t ∧ u11 = .int .i64 i ∧ i ≤ n ∧ t ≤ 2 + 10 * i ∧ Hid (∃ F, Pb w wr P B (8 + 4 * i) F k t bf bm)) (fun _ i _ _ => (n - (RowKit.intOf i).toNat))
    case atStart => exact ⟨0, 2, 0, 0, rfl, rfl, by omega, by omega, Lib.hid ⟨_, hst.out _ rfl rfl rfl rfl⟩⟩
    case round =>
      clear hst
      obtain ⟨i, t, bf, bm, rfl, rfl, j1, ht, hpb⟩ := hrel
      obtain ⟨F, hP⟩ := hpb.out
      obtain ⟨H, hps, hHB⟩ := hP.ps
      clear hpb
      by_cases hi : i < n
      · have i2 : (i : Int) < (n : Int) := by omega
        have ii0 : (0 : Int) ≤ (i : Int) := by omega
        obtain ⟨bb, off, rfl, d0⟩ := hcx.out wr hps.out i hi
        obtain ⟨Y, hY⟩ : ∃ Y : Int, IntKind.u64.wrap (z0.getD i 0) = Y := ⟨_, rfl⟩
        have Y0 : 0 ≤ Y := by rw [← hY, IntKind.wrap_u64]; omega
        obtain ⟨q, hq⟩ : ∃ q : Nat, 1 + Y % 9 = (q : Int) := ⟨(1 + Y % 9).toNat, by omega⟩
        have q1 : 1 ≤ q := by omega
        have q9 : q ≤ 9 := by omega
        have cf := hP.free (by omega) k1 q1 (by omega)
        have t2 := hP.at2
        have tb : (t : Int) ≤ 110 := by omega
        clear hcx hP hps hHB
        generalize z0.getD i 0 = x at *
        go_wp2_with fail
        with_reducible refine Calls.mono cf ?_
        rintro e w3 ⟨rfl, f0, f1, f2, f3, hyes, hno⟩
        clear cf
        by_cases hkq : k ≤ q
        · have kq : (k : Int) ≤ (q : Int) := by omega
          by_cases hb0 : bm = 0
          · have hgo := Lib.hid (hyes.out hkq (.inl hb0))
            have e1 : ((bm : Int) == 0) = true := by rw [hb0]; rfl
            clear hyes hno
            go_wp2_with fail
            go_roundw
            case rel => exact ⟨i + 1, t + q + 1, t, q, by go_num, by go_num, by omega, by omega, Lib.hid (hgo.out _ rfl rfl rfl rfl)⟩
            case measure => simp [RowKit.intOf]; omega
          · have e1 : ((bm : Int) == 0) = false := by simp; omega
            by_cases hb1 : q < bm
            · have hgo := Lib.hid (hyes.out hkq (.inr hb1))
              have e2 : (q : Int) < (bm : Int) := by omega
              clear hyes hno
              go_wp2_with fail
              go_roundw
              case rel => exact ⟨i + 1, t + q + 1, t, q, by go_num, by go_num, by omega, by omega, Lib.hid (hgo.out _ rfl rfl rfl rfl)⟩
              case measure => simp [RowKit.intOf]; omega
            · have hgo := Lib.hid (hno.out (.inr ⟨hb0, by omega⟩))
              have e2 : ¬ (q : Int) < (bm : Int) := by omega
              clear hyes hno
              go_wp2_with fail
              go_roundw
              case rel => exact ⟨i + 1, t + q + 1, bf, bm, by go_num, by go_num, by omega, by omega, hgo⟩
              case measure => simp [RowKit.intOf]; omega
        · have kq : ¬ (k : Int) ≤ (q : Int) := by omega
          have hgo := Lib.hid (hno.out (.inl (by omega)))
          clear hyes hno
          go_wp2_with fail
          go_roundw
          case rel => exact ⟨i + 1, t + q + 1, bf, bm, by go_num, by go_num, by omega, by omega, hgo⟩
          case measure => simp [RowKit.intOf]; omega
      · obtain rfl : i = n := by omega
        have i2 : ¬ ((i : Int) < (i : Int)) := by omega
        have cl := left_any hps
        have ca := hP.alloc (by omega) k1
        have hcl : cnt F ≤ 120 := by have := cnt_le F; rw [hps.len] at this; exact this
        clear hcx hP hps hHB
        go_wp2_with fail
        with_reducible refine Calls.mono cl ?_
        rintro e w3 ⟨rfl, rfl⟩
        clear cl
        go_wp2_with fail
        with_reducible refine Calls.mono ca ?_
        rintro e w4 hh
        clear ca
        rcases hh with ⟨rfl, rfl, rfl, c1, hps⟩ | ⟨hbm, rfl, c0, c1, hps⟩
        · obtain ⟨H, hps⟩ := hps.out
          have ct := ct w4
          have cl : Hid (∀ W, Below w4.heap.size w4 W → Calls Try.prog 15 #[.pointer (some ⟨P, 0, none⟩)] W (Still (.int .i64 (cnt F)) W)) := Lib.hid fun W hW => left_any (hps.below hW)
          have hbw := hps.out
          clear hps
          go_wp2_with fail
          with_reducible refine Calls.mono ct ?_
          rintro e w5 ⟨rfl, hb5⟩
          have cl := cl.out w5 hb5
          clear ct
          go_wp2_with fail
          with_reducible refine Calls.mono cl ?_
          rintro e w6 ⟨rfl, rfl⟩
          clear cl
          go_wp2_with fail
          go_ret
          exact ⟨rfl, hbw.trans (hb5.mono hbw.size)⟩
        · obtain ⟨H, F', hcn, hps⟩ := hps.out
          have ct := ct w4
          have cl : Hid (∀ W, Below w4.heap.size w4 W → Calls Try.prog 15 #[.pointer (some ⟨P, 0, none⟩)] W (Still (.int .i64 ((cnt F : Int) - k)) W)) := Lib.hid fun W hW => by
            have := left_any (hps.below hW)
            rwa [show (cnt F' : Int) = (cnt F : Int) - k by omega] at this
          have hbw := hps.out
          have e1 : ((bm : Int) == 0) = false := by simp; omega
          have hkc : k ≤ cnt F := by omega
          clear hps hcn
          generalize cnt F = cf at *
          go_wp2_with fail
          with_reducible refine Calls.mono ct ?_
          rintro e w5 ⟨rfl, hb5⟩
          have cl := cl.out w5 hb5
          have d0 := cell_then hb5 c0
          clear ct
          go_wp2_with fail
          with_reducible refine Calls.mono cl ?_
          rintro e w6 ⟨rfl, rfl⟩
          clear cl
          go_wp2_with fail
          go_ret
          exact ⟨rfl, hbw.trans (hb5.mono hbw.size)⟩

set_option maxRecDepth 100000 in
theorem lifted (os : Os) (started : os.Started) (H : Type) (enc : TypeId × Value → H) :
    ReturnsInHanded {} Try.checked os 4 .any (Rows.pageBestSpec.pre6 enc Try.prog Try.f4 Rows.pageBestRow.domain false) (Rows.pageBestSpec.post enc Try.prog Try.f4 false true false false) := by
  refine returnsInHanded_of_change (C := Try.checked) own started (by kernel_rfl) Try.func4
    (ChangeSpec.witness6 (enc := enc) (C := Try.checked) false ⟨#[], #[.slice none 0 0, .int .i64 0], []⟩ 8 (by kernel_rfl) (by kernel_rfl) (by kernel_rfl) (by kernel_rfl)) ?_
  intro W base args ds gs before hval0 hW hcnd _
  have hval : ∀ (j : Nat) t v, Try.f4.params[j]? = some t → args[j]? = some v → Value.okWide Try.prog W .any base t v := hval0
  have hW' := hW
  obtain ⟨p, q, hA0, hV, rfl, hfz, hnd⟩ := hW
  have hA : DataW.TrodAll enc Try.prog W 0 (fun _ => true) true Try.f4.params.toList args.toList ds p := hA0
  rw [Try.params4] at hA hval
  obtain ⟨v0, vs0, d0, ds0, p0, q0, hargs, rfl, rfl, h0, r0⟩ := trodAll_cons hA
  obtain ⟨v1, vs1, d1, ds1, p1, q1, rfl, rfl, rfl, h1, r1⟩ := trodAll_cons r0
  obtain ⟨rfl, rfl, rfl⟩ := trodAll_nil r1
  obtain rfl : args = #[v0, v1] := by cases args; simp_all
  obtain ⟨rfl, rfl⟩ := trodVars_none hV
  obtain ⟨z0, i0⟩ := arg_ints (hval 0 22 v0 rfl rfl) h0
  obtain ⟨a1, rfl, rfl, rfl, w1⟩ := open_int Try.underlying3 (hval 1 3 v1 rfl rfl) h1
  clear hA0 hval0
  simp only [List.append_nil] at hW'
  have lt0 : ∀ x ∈ p0, x.block < W.heap.size := fun x hx => by have := hW'.lt x (by simp [hx]); simpa using this
  refine (walk v0 z0 a1 W i0 w1).mono fun e W' ⟨he, hg⟩ => ?_
  subst he
  exact ⟨_, rfl, post_of_kept (pa := _) (pv := []) hW' (fun _ _ _ => (trodAll_cons_mk (shut_bool Try.underlying4 _) trodAll_mk0)) (trodAll_cons_mk (Below.trod laidOut (by kernel_rfl) (of_decide_eq_true (by kernel_rfl)) h0 hg lt0) (trodAll_cons_mk (shut_int Try.underlying3 w1) trodAll_mk0)) (fun _ _ => rfl) (by simp) hg⟩

theorem over : Rows.pageBestRow.holds Try.pinned (OpenSpec.ofChange Rows.pageBestSpec) :=
  OpenClaim.holds_of_wide 4 Try.f4 rfl rfl rfl rfl rfl rfl rfl ⟨rfl, rfl, rfl, rfl, rfl⟩ rfl rfl rfl rfl rfl (by kernel_rfl) Try.func4 (by kernel_rfl)
    (of_decide_eq_true (by kernel_rfl)) (by unfold Func.isWrapper; first | (rw [if_pos (by decide +kernel)]; kernel_rfl) | (rw [if_neg (by decide +kernel)]; exact ⟨rfl, rfl⟩))
    (fun os started H enc _ => lifted os started H enc)

theorem proved : Rows.PageBestSaid :=
  over
#print axioms proved
end Go.Proofs.Ytpclacaiabbmjab.pageBest
