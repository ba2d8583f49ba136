/- PageLefts: what is left and what is taken are all pages; the runs lie apart. -/
import Derived.Test.YtpclacaiabbmjabHome
import Derived.Test.YtpclacaiabbmjabPageLeftsM
import Derived.WalkKit
import Derived.ProofKit
import Derived.OpenShut
import Derived.Deep.RegionHeld3
import Derived.Deep.RegionWith
import Derived.Deep.Cut
import Derived.Deep.CutBlock
import Derived.Deep.CutRange
import Derived.Deep.LoopGhost
import Derived.Deep.DeepCutAuto
import Derived.RegionTactic
import Derived.StillTailTactics
namespace Go.Proofs.Ytpclacaiabbmjab.pageLefts
open Go.ChangeShapes Go.WideShapes Go.ChangeAt Go.WideElems Go.RowKit Go.Lib Fx Ho Pg
set_option linter.unusedVariables false

theorem own : ownKnob Try.prog.godebug = none := by kernel_rfl

set_option maxRecDepth 100000 in
set_option maxHeartbeats 4000000 in
theorem walk (a0 : Int) (v1 : Value) (z1 : List Int) (w : World) (w0 : (Lit.int .i64 a0).wf = true) (h1 : Ints w (fun k => k < w.heap.size) v1 z1) :
    Calls Try.prog 5 #[.int .i64 a0, v1] w fun e w' => e = .returned (.bool true) ∧ Below w.heap.size w w' := by
  have ct := fun w => told_any w
  obtain ⟨sp, cap, rfl, hm, hc⟩ := h1
  obtain ⟨l, hl⟩ : ∃ l, z1.length = l := ⟨_, rfl⟩
  rw [hl] at hm hc ⊢
  clear hl
  have hcx : Hid (∀ wr, Below w.heap.size w wr → ∀ j, j < l → ∃ bb off, sp = some ⟨bb, off, none⟩ ∧ wr.cell? ⟨bb, off + j, none⟩ = some (.int .i64 (z1.getD j 0))) := Lib.hid fun wr hb j hj => by
    obtain ⟨bb, off, e, _, _, d0⟩ := hc j hj
    exact ⟨bb, off, e, cell_then hb d0⟩
  clear hc
  by_cases hg : 50 < l
  · clear hcx
    have i1 : (50 : Int) < (l : Int) := by omega
    have ct := ct w
    go_enter Try.func5, Try.ntmps5
    go_wp2_with fail
    with_reducible refine Calls.mono ct ?_
    rintro e w' ⟨rfl, hb⟩
    go_wp2_with fail
    go_ret
    exact ⟨rfl, hb⟩
  · have i1 : ¬ (50 : Int) < (l : Int) := by omega
    have l50 : l ≤ 50 := by omega
    clear hg
    obtain ⟨X, hX⟩ : ∃ X : Int, IntKind.u64.wrap a0 = X := ⟨_, rfl⟩
    have X0 : 0 ≤ X := by rw [← hX, IntKind.wrap_u64]; omega
    obtain ⟨n, hn⟩ : ∃ n : Nat, 1 + X % 100 = (n : Int) := ⟨(1 + X % 100).toNat, by omega⟩
    have n1 : 1 ≤ n := by omega
    have n100 : n ≤ 100 := by omega
    have cn := new_any n w
    rw [show many n = n by unfold many; omega] at cn
    go_enter Try.func5, Try.ntmps5
    go_wp2_with fail
    with_reducible refine Calls.mono cn ?_
    rintro e w1 ⟨P, rfl, hps⟩
    have hst : Hid (Pl w w1 P n 4 0) := by
      obtain ⟨H1, hps⟩ := hps.out
      exact Lib.hid ⟨_, H1, hps, cnt_new n1⟩
    clear cn hps
    go_wp2_with fail
    go_loopw [7, 8, 9, 10, 11, 12, 13, 14] (fun u7 u8 u9 u10 u11 u12 u13 u14 wr => ∃ (i T : Nat), u7 = .int .i64 T ∧ u8 = .int .i64 i ∧ i ≤ l ∧ T ≤ n ∧ Hid (Pl w wr P n (4 + 16 * i) T)) (fun _ i _ _ _ _ _ _ _ => (l - (RowKit.intOf i).toNat))
    case atStart => exact ⟨0, 0, rfl, rfl, by omega, by omega, hst⟩
    case round =>
      clear hst
      obtain ⟨i, T, rfl, rfl, j1, hT, hpl⟩ := hrel
      by_cases hi : i < l
      · have i2 : (i : Int) < (l : Int) := by omega
        have ii0 : (0 : Int) ≤ (i : Int) := by omega
        have hbw : Below w.heap.size w wr := by obtain ⟨F, H, hp, _⟩ := hpl.out; exact hp.out
        obtain ⟨bb, off, rfl, d0⟩ := hcx.out wr hbw i hi
        obtain ⟨Y, hY⟩ : ∃ Y : Int, IntKind.u64.wrap (z1.getD i 0) = Y := ⟨_, rfl⟩
        have Y0 : 0 ≤ Y := by rw [← hY, IntKind.wrap_u64]; omega
        obtain ⟨k, hk⟩ : ∃ k : Nat, 1 + Y % 12 = (k : Int) := ⟨(1 + Y % 12).toNat, by omega⟩
        have k1 : 1 ≤ k := by omega
        have k12 : k ≤ 12 := by omega
        have ca := hpl.out.alloc (by omega) k1
        clear hcx hpl hbw
        generalize z1.getD i 0 = x at *
        go_wp2_with fail
        with_reducible refine Calls.mono ca ?_
        rintro e w3 hh
        clear ca
        rcases hh with ⟨rfl, hpm⟩ | ⟨a, rfl, hpm, hTk, hfree⟩
        · obtain ⟨F, H, hp, hcT, hful⟩ := hpm.out
          have hTn : T ≤ n := by omega
          have cr := runs_row hp
          clear hpm hp
          replace hcT := Lib.hid hcT
          replace hful := Lib.hid hful
          go_wp2_with fail
          with_reducible refine Calls.mono cr ?_
          rintro e w4 ⟨b, cp, r, S, rfl, hrc, hr, S0, hf, hS, hp⟩
          clear cr
          have cl : Hid (∀ V, Below w4.heap.size w4 V → Calls Try.prog 15 #[.pointer (some ⟨P, 0, none⟩)] V (Still (.int .i64 (cnt F)) V)) := Lib.hid fun V hV => left_any (hp.out.below hV)
          have hnx : Hid (∀ V, Below w4.heap.size w4 V → Pl w V P n (4 + 16 * (i + 1)) T) := Lib.hid fun V hV => ⟨F, H, (hp.out.below hV).mono (by omega), hcT.out⟩
          have hcn : (cnt F : Int) + (T : Nat) = (n : Int) - 1 := by have := hcT.out; omega
          clear hp hcT
          go_wp2_with fail
          go_loopw [13, 14] (fun u13 u14 wx => ∃ j : Nat, u13 = .int .i64 (S j) ∧ u14 = .int .i64 j ∧ j ≤ r ∧ Hid (Below w4.heap.size w4 wx)) (fun _ y _ => (r - (RowKit.intOf y).toNat))
          case atStart => exact ⟨0, by rw [S0], rfl, by omega, Lib.hid (Below.refl _ _)⟩
          case round =>
            obtain ⟨j, rfl, rfl, jr, hB⟩ := hrel
            by_cases hj : j < r
            · have i3 : (j : Int) < (r : Int) := by omega
              have jj0 : (0 : Int) ≤ (j : Int) := by omega
              obtain ⟨f, s, e0, e1, f1, s1, fs, hrun, hSs, b0, b1, hprev⟩ := hf.out wr hB.out j hj
              have hks : ¬ (k : Int) ≤ s := by have := hful.out (by first | rfl | trivial) _ _ hrun; omega
              have z2 : IntKind.i64.wrap (S j + s) = S j + s := by rw [IntKind.wrap_i64]; omega
              have z3 : IntKind.i64.wrap (f + s) = f + s := by rw [IntKind.wrap_i64]; omega
              have y1 : ¬ s < 1 := by omega
              have y2 : ¬ f < 1 := by omega
              have y3 : ¬ (n : Int) < f + s := by omega
              have x1 : decide (s < 1) = false := decide_eq_false y1
              have x2 : decide (f < 1) = false := decide_eq_false y2
              have x3 : decide ((n : Int) < f + s) = false := decide_eq_false y3
              have hrel2 : Hid (∀ V, Below wr.heap.size wr V → Below w4.heap.size w4 V) := Lib.hid fun V hV => hB.out.trans (hV.mono hB.out.size)
              replace hSs := Lib.hid hSs
              clear hrun hnx cl hf hS hcn hful hB S0
              rcases Nat.eq_zero_or_pos j with hj0 | hj0
              · have y4 : ¬ (0 : Int) < (j : Int) := by omega
                have y6 : ¬ 0 < j := by omega
                have y7 : decide ((0 : Int) < (j : Int)) = false := decide_eq_false y4
                have y8 : decide (0 < j) = false := decide_eq_false y6
                replace hj0 := Lib.hid hj0
                clear hprev
                go_wp2_with fail
                go_big_quiet (fail)
                go_wp2_with fail
                go_roundw
                case rel => exact ⟨j + 1, by rw [hSs.out], by go_num, by omega, Lib.hid (hrel2.out _ (by repeat (first | assumption | exact Below.refl _ _ | refine below_drewN ?_ _ | refine below_alloc ?_ _ | refine below_then ?_ (by assumption))))⟩
                case measure => simp [RowKit.intOf]; omega
              · obtain ⟨j', hj'⟩ : ∃ j', j = j' + 1 := ⟨j - 1, by omega⟩
                obtain ⟨f', s', g0, g1, hgap, f1', s1'⟩ := hprev j' hj'
                have y4 : (0 : Int) < (j : Int) := by omega
                have y6 : 0 < j := hj0
                have y9 : decide (f ≤ f' + s') = false := decide_eq_false (by omega)
                have z4 : IntKind.i64.wrap ((j : Int) - 1) = (j' : Int) := by rw [IntKind.wrap_i64]; omega
                have z6 : (j : Int) - 1 = (j' : Int) := by omega
                have z5 : IntKind.i64.wrap (f' + s') = f' + s' := by rw [IntKind.wrap_i64]; omega
                have y5 : ¬ f ≤ f' + s' := by omega
                have i4 : (j' : Int) < (r : Int) := by omega
                have i5 : (0 : Int) ≤ (j' : Int) := by omega
                replace hj' := Lib.hid hj'
                replace hj0 := Lib.hid hj0
                clear hprev
                go_wp2_with fail
                go_big_quiet (fail)
                go_wp2_with fail
                go_roundw
                case rel => exact ⟨j + 1, by rw [hSs.out], by go_num, by omega, Lib.hid (hrel2.out _ (by repeat (first | assumption | exact Below.refl _ _ | refine below_drewN ?_ _ | refine below_alloc ?_ _ | refine below_then ?_ (by assumption))))⟩
                case measure => simp [RowKit.intOf]; omega
            · obtain rfl : j = r := by omega
              have i3 : ¬ ((j : Int) < (j : Int)) := by omega
              have cl := cl.out wr hB.out
              have hnx := Lib.hid (hnx.out wr hB.out)
              rw [hS.out]
              have hcf : cnt F ≤ 270000 := by omega
              clear hf hS hful hB S0
              generalize cnt F = cf at *
              go_wp2_with fail
              with_reducible refine Calls.mono cl ?_
              rintro e w5 ⟨rfl, rfl⟩
              clear cl
              go_wp2_with fail
              go_roundw
              case rel => exact ⟨i + 1, T, by go_num, by go_num, by omega, by omega, hnx.out⟩
              case measure => simp [RowKit.intOf]; omega
        · have hrm : (i : Int).tmod 3 = ((i % 3 : Nat) : Int) := (Int.ofNat_tmod i 3).symm
          obtain ⟨T2, hT2⟩ : ∃ T2 : Nat, T + k = T2 := ⟨_, rfl⟩
          rw [hT2] at hpm hTk
          have hT3 : (T : Int) + (k : Int) = (T2 : Int) := by omega
          by_cases h3 : i % 3 = 2
          · rw [h3] at hrm
            have cf := hfree.out w3 (Below.refl _ _)
            clear hfree hpm
            go_wp2_with fail
            with_reducible refine Calls.mono cf ?_
            rintro e w6 ⟨rfl, hpm⟩
            clear cf
            have hT4 : (T2 : Int) - (k : Int) = (T : Int) := by omega
            obtain ⟨F, H, hp, hcT, hful⟩ := hpm.out
            have hTn : T ≤ n := by omega
            have cr := runs_row hp
            clear hpm hp
            replace hcT := Lib.hid hcT
            replace hful := Lib.hid hful
            go_wp2_with fail
            with_reducible refine Calls.mono cr ?_
            rintro e w4 ⟨b, cp, r, S, rfl, hrc, hr, S0, hf, hS, hp⟩
            clear cr
            have cl : Hid (∀ V, Below w4.heap.size w4 V → Calls Try.prog 15 #[.pointer (some ⟨P, 0, none⟩)] V (Still (.int .i64 (cnt F)) V)) := Lib.hid fun V hV => left_any (hp.out.below hV)
            have hnx : Hid (∀ V, Below w4.heap.size w4 V → Pl w V P n (4 + 16 * (i + 1)) T) := Lib.hid fun V hV => ⟨F, H, (hp.out.below hV).mono (by omega), hcT.out⟩
            have hcn : (cnt F : Int) + (T : Nat) = (n : Int) - 1 := by have := hcT.out; omega
            clear hp hcT
            go_wp2_with fail
            go_loopw [13, 14] (fun u13 u14 wx => ∃ j : Nat, u13 = .int .i64 (S j) ∧ u14 = .int .i64 j ∧ j ≤ r ∧ Hid (Below w4.heap.size w4 wx)) (fun _ y _ => (r - (RowKit.intOf y).toNat))
            case atStart => exact ⟨0, by rw [S0], rfl, by omega, Lib.hid (Below.refl _ _)⟩
            case round =>
              obtain ⟨j, rfl, rfl, jr, hB⟩ := hrel
              by_cases hj : j < r
              · have i3 : (j : Int) < (r : Int) := by omega
                have jj0 : (0 : Int) ≤ (j : Int) := by omega
                obtain ⟨f, s, e0, e1, f1, s1, fs, hrun, hSs, b0, b1, hprev⟩ := hf.out wr hB.out j hj
                skip
                have z2 : IntKind.i64.wrap (S j + s) = S j + s := by rw [IntKind.wrap_i64]; omega
                have z3 : IntKind.i64.wrap (f + s) = f + s := by rw [IntKind.wrap_i64]; omega
                have y1 : ¬ s < 1 := by omega
                have y2 : ¬ f < 1 := by omega
                have y3 : ¬ (n : Int) < f + s := by omega
                have x1 : decide (s < 1) = false := decide_eq_false y1
                have x2 : decide (f < 1) = false := decide_eq_false y2
                have x3 : decide ((n : Int) < f + s) = false := decide_eq_false y3
                have hrel2 : Hid (∀ V, Below wr.heap.size wr V → Below w4.heap.size w4 V) := Lib.hid fun V hV => hB.out.trans (hV.mono hB.out.size)
                replace hSs := Lib.hid hSs
                clear hrun hnx cl hf hS hcn hful hB S0
                rcases Nat.eq_zero_or_pos j with hj0 | hj0
                · have y4 : ¬ (0 : Int) < (j : Int) := by omega
                  have y6 : ¬ 0 < j := by omega
                  have y7 : decide ((0 : Int) < (j : Int)) = false := decide_eq_false y4
                  have y8 : decide (0 < j) = false := decide_eq_false y6
                  replace hj0 := Lib.hid hj0
                  clear hprev
                  go_wp2_with fail
                  go_big_quiet (fail)
                  go_wp2_with fail
                  go_roundw
                  case rel => exact ⟨j + 1, by rw [hSs.out], by go_num, by omega, Lib.hid (hrel2.out _ (by repeat (first | assumption | exact Below.refl _ _ | refine below_drewN ?_ _ | refine below_alloc ?_ _ | refine below_then ?_ (by assumption))))⟩
                  case measure => simp [RowKit.intOf]; omega
                · obtain ⟨j', hj'⟩ : ∃ j', j = j' + 1 := ⟨j - 1, by omega⟩
                  obtain ⟨f', s', g0, g1, hgap, f1', s1'⟩ := hprev j' hj'
                  have y4 : (0 : Int) < (j : Int) := by omega
                  have y6 : 0 < j := hj0
                  have y9 : decide (f ≤ f' + s') = false := decide_eq_false (by omega)
                  have z4 : IntKind.i64.wrap ((j : Int) - 1) = (j' : Int) := by rw [IntKind.wrap_i64]; omega
                  have z6 : (j : Int) - 1 = (j' : Int) := by omega
                  have z5 : IntKind.i64.wrap (f' + s') = f' + s' := by rw [IntKind.wrap_i64]; omega
                  have y5 : ¬ f ≤ f' + s' := by omega
                  have i4 : (j' : Int) < (r : Int) := by omega
                  have i5 : (0 : Int) ≤ (j' : Int) := by omega
                  replace hj' := Lib.hid hj'
                  replace hj0 := Lib.hid hj0
                  clear hprev
                  go_wp2_with fail
                  go_big_quiet (fail)
                  go_wp2_with fail
                  go_roundw
                  case rel => exact ⟨j + 1, by rw [hSs.out], by go_num, by omega, Lib.hid (hrel2.out _ (by repeat (first | assumption | exact Below.refl _ _ | refine below_drewN ?_ _ | refine below_alloc ?_ _ | refine below_then ?_ (by assumption))))⟩
                  case measure => simp [RowKit.intOf]; omega
              · obtain rfl : j = r := by omega
                have i3 : ¬ ((j : Int) < (j : Int)) := by omega
                have cl := cl.out wr hB.out
                have hnx := Lib.hid (hnx.out wr hB.out)
                rw [hS.out]
                have hcf : cnt F ≤ 270000 := by omega
                clear hf hS hful hB S0
                generalize cnt F = cf at *
                go_wp2_with fail
                with_reducible refine Calls.mono cl ?_
                rintro e w5 ⟨rfl, rfl⟩
                clear cl
                go_wp2_with fail
                go_roundw
                case rel => exact ⟨i + 1, T, by go_num, by go_num, by omega, by omega, hnx.out⟩
                case measure => simp [RowKit.intOf]; omega
          · have hr3 : ((i % 3 : Nat) : Int) ≠ 2 := by omega
            have hr4 : (((i % 3 : Nat) : Int) == 2) = false := by simp; omega
            generalize ((i % 3 : Nat) : Int) = rm at *
            clear hfree
            obtain ⟨F, H, hp, hcT, hful⟩ := hpm.out
            have hTn : T2 ≤ n := by omega
            have cr := runs_row hp
            clear hpm hp
            replace hcT := Lib.hid hcT
            replace hful := Lib.hid hful
            go_wp2_with fail
            with_reducible refine Calls.mono cr ?_
            rintro e w4 ⟨b, cp, r, S, rfl, hrc, hr, S0, hf, hS, hp⟩
            clear cr
            have cl : Hid (∀ V, Below w4.heap.size w4 V → Calls Try.prog 15 #[.pointer (some ⟨P, 0, none⟩)] V (Still (.int .i64 (cnt F)) V)) := Lib.hid fun V hV => left_any (hp.out.below hV)
            have hnx : Hid (∀ V, Below w4.heap.size w4 V → Pl w V P n (4 + 16 * (i + 1)) T2) := Lib.hid fun V hV => ⟨F, H, (hp.out.below hV).mono (by omega), hcT.out⟩
            have hcn : (cnt F : Int) + (T2 : Nat) = (n : Int) - 1 := by have := hcT.out; omega
            clear hp hcT
            go_wp2_with fail
            go_loopw [13, 14] (fun u13 u14 wx => ∃ j : Nat, u13 = .int .i64 (S j) ∧ u14 = .int .i64 j ∧ j ≤ r ∧ Hid (Below w4.heap.size w4 wx)) (fun _ y _ => (r - (RowKit.intOf y).toNat))
            case atStart => exact ⟨0, by rw [S0], rfl, by omega, Lib.hid (Below.refl _ _)⟩
            case round =>
              obtain ⟨j, rfl, rfl, jr, hB⟩ := hrel
              by_cases hj : j < r
              · have i3 : (j : Int) < (r : Int) := by omega
                have jj0 : (0 : Int) ≤ (j : Int) := by omega
                obtain ⟨f, s, e0, e1, f1, s1, fs, hrun, hSs, b0, b1, hprev⟩ := hf.out wr hB.out j hj
                skip
                have z2 : IntKind.i64.wrap (S j + s) = S j + s := by rw [IntKind.wrap_i64]; omega
                have z3 : IntKind.i64.wrap (f + s) = f + s := by rw [IntKind.wrap_i64]; omega
                have y1 : ¬ s < 1 := by omega
                have y2 : ¬ f < 1 := by omega
                have y3 : ¬ (n : Int) < f + s := by omega
                have x1 : decide (s < 1) = false := decide_eq_false y1
                have x2 : decide (f < 1) = false := decide_eq_false y2
                have x3 : decide ((n : Int) < f + s) = false := decide_eq_false y3
                have hrel2 : Hid (∀ V, Below wr.heap.size wr V → Below w4.heap.size w4 V) := Lib.hid fun V hV => hB.out.trans (hV.mono hB.out.size)
                replace hSs := Lib.hid hSs
                clear hrun hnx cl hf hS hcn hful hB S0
                rcases Nat.eq_zero_or_pos j with hj0 | hj0
                · have y4 : ¬ (0 : Int) < (j : Int) := by omega
                  have y6 : ¬ 0 < j := by omega
                  have y7 : decide ((0 : Int) < (j : Int)) = false := decide_eq_false y4
                  have y8 : decide (0 < j) = false := decide_eq_false y6
                  replace hj0 := Lib.hid hj0
                  clear hprev
                  go_wp2_with fail
                  go_big_quiet (fail)
                  go_wp2_with fail
                  go_roundw
                  case rel => exact ⟨j + 1, by rw [hSs.out], by go_num, by omega, Lib.hid (hrel2.out _ (by repeat (first | assumption | exact Below.refl _ _ | refine below_drewN ?_ _ | refine below_alloc ?_ _ | refine below_then ?_ (by assumption))))⟩
                  case measure => simp [RowKit.intOf]; omega
                · obtain ⟨j', hj'⟩ : ∃ j', j = j' + 1 := ⟨j - 1, by omega⟩
                  obtain ⟨f', s', g0, g1, hgap, f1', s1'⟩ := hprev j' hj'
                  have y4 : (0 : Int) < (j : Int) := by omega
                  have y6 : 0 < j := hj0
                  have y9 : decide (f ≤ f' + s') = false := decide_eq_false (by omega)
                  have z4 : IntKind.i64.wrap ((j : Int) - 1) = (j' : Int) := by rw [IntKind.wrap_i64]; omega
                  have z6 : (j : Int) - 1 = (j' : Int) := by omega
                  have z5 : IntKind.i64.wrap (f' + s') = f' + s' := by rw [IntKind.wrap_i64]; omega
                  have y5 : ¬ f ≤ f' + s' := by omega
                  have i4 : (j' : Int) < (r : Int) := by omega
                  have i5 : (0 : Int) ≤ (j' : Int) := by omega
                  replace hj' := Lib.hid hj'
                  replace hj0 := Lib.hid hj0
                  clear hprev
                  go_wp2_with fail
                  go_big_quiet (fail)
                  go_wp2_with fail
                  go_roundw
                  case rel => exact ⟨j + 1, by rw [hSs.out], by go_num, by omega, Lib.hid (hrel2.out _ (by repeat (first | assumption | exact Below.refl _ _ | refine below_drewN ?_ _ | refine below_alloc ?_ _ | refine below_then ?_ (by assumption))))⟩
                  case measure => simp [RowKit.intOf]; omega
              · obtain rfl : j = r := by omega
                have i3 : ¬ ((j : Int) < (j : Int)) := by omega
                have cl := cl.out wr hB.out
                have hnx := Lib.hid (hnx.out wr hB.out)
                rw [hS.out]
                have hcf : cnt F ≤ 270000 := by omega
                clear hf hS hful hB S0
                generalize cnt F = cf at *
                go_wp2_with fail
                with_reducible refine Calls.mono cl ?_
                rintro e w5 ⟨rfl, rfl⟩
                clear cl
                go_wp2_with fail
                go_roundw
                case rel => exact ⟨i + 1, T2, by go_num, by go_num, by omega, by omega, hnx.out⟩
                case measure => simp [RowKit.intOf]; omega
      · obtain rfl : i = l := by omega
        have i2 : ¬ ((i : Int) < (i : Int)) := by omega
        have hbw : Below w.heap.size w wr := by obtain ⟨F, H, hp, _⟩ := hpl.out; exact hp.out
        have c1 := alloc_nil 1 wr
        have cN : Hid (∀ V, Calls Try.prog 13 #[.pointer none, .int .i64 1, .int .i64 1] V (AnsB (.int .i64 1) V)) := Lib.hid fun V => free_nil 1 1 V
        have cL : Hid (∀ V, Calls Try.prog 15 #[.pointer none] V (AnsB (.int .i64 0) V)) := Lib.hid fun V => left_nil V
        have cR : Hid (∀ V, Calls Try.prog 14 #[.pointer none] V (AnsB (.slice none 0 0) V)) := Lib.hid fun V => runs_nil V
        clear hcx hpl
        go_wp2_with fail
        with_reducible refine Calls.mono c1 ?_
        rintro e w3 ⟨rfl, hb3⟩
        have ct := ct w3
        clear c1
        go_wp2_with fail
        with_reducible refine Calls.mono ct ?_
        rintro e w4 ⟨rfl, hb4⟩
        have c2 := cN.out w4
        clear ct cN
        go_wp2_with fail
        with_reducible refine Calls.mono c2 ?_
        rintro e w5 ⟨rfl, hb5⟩
        have c3 := cL.out w5
        clear c2 cL
        go_wp2_with fail
        with_reducible refine Calls.mono c3 ?_
        rintro e w6 ⟨rfl, hb6⟩
        have c4 := cR.out w6
        clear c3 cR
        go_wp2_with fail
        with_reducible refine Calls.mono c4 ?_
        rintro e w7 ⟨rfl, hb7⟩
        clear c4
        go_wp2_with fail
        go_ret
        have q4 := hb3.trans (hb4.mono hb3.size)
        have q5 := q4.trans (hb5.mono q4.size)
        have q6 := q5.trans (hb6.mono q5.size)
        have q7 := q6.trans (hb7.mono q6.size)
        exact ⟨rfl, hbw.trans (q7.mono hbw.size)⟩

set_option maxRecDepth 100000 in
theorem lifted (os : Os) (started : os.Started) (H : Type) (enc : TypeId × Value → H) :
    ReturnsInHanded {} Try.checked os 5 .any (Rows.pageLeftsSpec.pre6 enc Try.prog Try.f5 Rows.pageLeftsRow.domain false) (Rows.pageLeftsSpec.post enc Try.prog Try.f5 false true false false) := by
  refine returnsInHanded_of_change (C := Try.checked) own started (by kernel_rfl) Try.func5
    (ChangeSpec.witness6 (enc := enc) (C := Try.checked) false ⟨#[], #[.int .i64 0, .slice none 0 0], []⟩ 8 (by kernel_rfl) (by kernel_rfl) (by kernel_rfl) (by kernel_rfl)) ?_
  intro W base args ds gs before hval0 hW hcnd _
  have hval : ∀ (j : Nat) t v, Try.f5.params[j]? = some t → args[j]? = some v → Value.okWide Try.prog W .any base t v := hval0
  have hW' := hW
  obtain ⟨p, q, hA0, hV, rfl, hfz, hnd⟩ := hW
  have hA : DataW.TrodAll enc Try.prog W 0 (fun _ => true) true Try.f5.params.toList args.toList ds p := hA0
  rw [Try.params5] at hA hval
  obtain ⟨v0, vs0, d0, ds0, p0, q0, hargs, rfl, rfl, h0, r0⟩ := trodAll_cons hA
  obtain ⟨v1, vs1, d1, ds1, p1, q1, rfl, rfl, rfl, h1, r1⟩ := trodAll_cons r0
  obtain ⟨rfl, rfl, rfl⟩ := trodAll_nil r1
  obtain rfl : args = #[v0, v1] := by cases args; simp_all
  obtain ⟨rfl, rfl⟩ := trodVars_none hV
  obtain ⟨z1, i1⟩ := arg_ints (hval 1 22 v1 rfl rfl) h1
  obtain ⟨a0, rfl, rfl, rfl, w0⟩ := open_int Try.underlying3 (hval 0 3 v0 rfl rfl) h0
  clear hA0 hval0
  simp only [List.append_nil] at hW'
  have lt1 : ∀ x ∈ p1, x.block < W.heap.size := fun x hx => by have := hW'.lt x (by simp [hx]); simpa using this
  refine (walk a0 v1 z1 W w0 i1).mono fun e W' ⟨he, hg⟩ => ?_
  subst he
  exact ⟨_, rfl, post_of_kept (pa := _) (pv := []) hW' (fun _ _ _ => (trodAll_cons_mk (shut_bool Try.underlying4 _) trodAll_mk0)) (trodAll_cons_mk (shut_int Try.underlying3 w0) (trodAll_cons_mk (Below.trod laidOut (by kernel_rfl) (of_decide_eq_true (by kernel_rfl)) h1 hg lt1) trodAll_mk0)) (fun _ _ => rfl) (by simp) hg⟩

theorem over : Rows.pageLeftsRow.holds Try.pinned (OpenSpec.ofChange Rows.pageLeftsSpec) :=
  OpenClaim.holds_of_wide 5 Try.f5 rfl rfl rfl rfl rfl rfl rfl ⟨rfl, rfl, rfl, rfl, rfl⟩ rfl rfl rfl rfl rfl (by kernel_rfl) Try.func5 (by kernel_rfl)
    (of_decide_eq_true (by kernel_rfl)) (by unfold Func.isWrapper; first | (rw [if_pos (by decide +kernel)]; kernel_rfl) | (rw [if_neg (by decide +kernel)]; exact ⟨rfl, rfl⟩))
    (fun os started H enc _ => lifted os started H enc)

theorem proved : Rows.PageLeftsSaid :=
  over
#print axioms proved
end Go.Proofs.Ytpclacaiabbmjab.pageLefts
