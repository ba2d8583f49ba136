/- Spans with room come last first, the swept ones ahead of the unswept ones, full ones by their own call alone: any numbers; no conditions. -/
import Derived.Test.YtejijddhmckgiaaHome
import Derived.Test.YtejijddhmckgiaaCenTq
import Derived.WalkKit
import Derived.ProofKit
import Derived.OpenShut
import Derived.Deep.RegionHeld3
import Derived.Deep.RegionWith
import Derived.Deep.Cut
import Derived.Deep.CutBlock
import Derived.Deep.CutRange
import Derived.Deep.LoopGhost
import Derived.Deep.DeepCutAuto
import Derived.RegionTactic
import Derived.StillTailTactics
namespace Go.Proofs.Ytejijddhmckgiaa.centralTurns
open Go.ChangeShapes Go.WideShapes Go.ChangeAt Go.WideElems Go.RowKit Go.Lib Fx Ho Ce Rw
set_option linter.unusedVariables false

theorem own : ownKnob Try.prog.godebug = none := by kernel_rfl

set_option maxRecDepth 100000 in
set_option maxHeartbeats 4000000 in
theorem walk (a0 : Int) (a1 : Int) (a2 : Int) (w : World) (w0 : (Lit.int .i64 a0).wf = true) (w1 : (Lit.int .i64 a1).wf = true) (w2 : (Lit.int .i64 a2).wf = true) :
    Calls Try.prog 6 #[.int .i64 a0, .int .i64 a1, .int .i64 a2] w fun e w' => e = .returned (.bool true) ∧ Below w.heap.size w w' := by
  obtain ⟨X, hX⟩ : ∃ X : Int, IntKind.u64.wrap a0 = X := ⟨_, rfl⟩
  have X0 : 0 ≤ X := by rw [← hX, IntKind.wrap_u64]; omega
  obtain ⟨s, hs⟩ : ∃ s : Nat, X % 21 = (s : Int) := ⟨(X % 21).toNat, by omega⟩
  have s21 : s < 21 := by omega
  obtain ⟨Y, hY⟩ : ∃ Y : Int, IntKind.u64.wrap a1 = Y := ⟨_, rfl⟩
  have Y0 : 0 ≤ Y := by rw [← hY, IntKind.wrap_u64]; omega
  obtain ⟨u, hu⟩ : ∃ u : Nat, Y % 21 = (u : Int) := ⟨(Y % 21).toNat, by omega⟩
  have u21 : u < 21 := by omega
  obtain ⟨Z, hZ⟩ : ∃ Z : Int, IntKind.u64.wrap a2 = Z := ⟨_, rfl⟩
  have Z0 : 0 ≤ Z := by rw [← hZ, IntKind.wrap_u64]; omega
  obtain ⟨f, hf⟩ : ∃ f : Nat, Z % 21 = (f : Int) := ⟨(Z % 21).toNat, by omega⟩
  have f21 : f < 21 := by omega
  have cn := x_new w
  go_enter Try.func6, Try.ntmps6
  clear w0 w1 w2
  go_wp2_with fail
  with_reducible refine Calls.mono (cn) ?_
  rintro e wa ⟨p, rfl, h1⟩
  replace h1 : Hid (Cx w wa p 0 (tq (seqI 100 0) [] [] [])) := Lib.hid (by rw [show tq (seqI 100 0) [] [] [] = fun _ => [] from (tq_ext rfl rfl rfl rfl (fun _ _ _ _ _ => rfl)).symm]; exact h1)
  clear cn
  go_wp2_with fail
  clear hs hu hf hX hY hZ X0 Y0 Z0
  go_loopw [11] (fun v wr => ∃ i : Nat, v = .int .i64 i ∧ i ≤ u ∧ Hid (Cx w wr p i (tq (seqI 100 i) [] [] []))) (fun v _ => (u - (RowKit.intOf v).toNat))
  case atStart => exact ⟨0, rfl, by omega, h1⟩
  case round =>
    clear h1
    obtain ⟨i, rfl, i1, hC⟩ := hrel
    by_cases hi : i < u
    · have i2 : (i : Int) < (u : Int) := by omega
      have i0 : (0 : Int) ≤ (i : Int) := by omega
      have i3 : (i : Int) ≤ 20 := by omega
      have cp := x_put (k := 3) hC.out (by omega) (by omega) (wf_of (x := 100 + (i : Int)) (by omega)) false
      rw [show putQ (tq (seqI 100 i) [] [] []) (3 * 4 + cond false 1 0) (100 + (i : Int)) = tq (seqI 100 (i + 1)) [] [] [] from put12 (fun h => by have := mem_seq _ h; omega) (by simp) (by simp) (by simp)] at cp
      replace cp : Calls Try.prog 20 #[.pointer (some ⟨p, 0, none⟩), .int .i64 3, .int .i64 (100 + (i : Int)), .bool false] wr (Xs (.tuple #[]) w p (i + 1) (tq (seqI 100 (i + 1)) [] [] [])) := cp
      clear hC
      go_wp2_with fail
      with_reducible refine Calls.mono (cp) ?_
      rintro e wb ⟨rfl, hC⟩
      replace hC := Lib.hid hC
      clear cp
      go_wp2_with fail
      go_roundw
      case rel => exact ⟨i + 1, by go_num, by omega, hC⟩
      case measure => simp [RowKit.intOf]; omega
    · obtain rfl : u = i := by omega
      have i2 : ¬ (u : Int) < (u : Int) := by omega
      have h1 : Hid (Cx w wr p (u + 0) (tq (seqI 100 u) (seqI 200 0) [] [])) := hC
      clear hC
      go_wp2_with fail
      go_loopw [12] (fun v wr => ∃ i : Nat, v = .int .i64 i ∧ i ≤ f ∧ Hid (Cx w wr p (u + i) (tq (seqI 100 u) (seqI 200 i) [] []))) (fun v _ => (f - (RowKit.intOf v).toNat))
      case atStart => exact ⟨0, rfl, by omega, h1⟩
      case round =>
        clear h1
        obtain ⟨i, rfl, i1, hC⟩ := hrel
        by_cases hi : i < f
        · have i2 : (i : Int) < (f : Int) := by omega
          have i0 : (0 : Int) ≤ (i : Int) := by omega
          have i3 : (i : Int) ≤ 20 := by omega
          have cp := x_put (k := 3) hC.out (by omega) (by omega) (wf_of (x := 200 + (i : Int)) (by omega)) true
          rw [show putQ (tq (seqI 100 u) (seqI 200 i) [] []) (3 * 4 + cond true 1 0) (200 + (i : Int)) = tq (seqI 100 u) (seqI 200 (i + 1)) [] [] from put13 (fun h => by have := mem_seq _ h; omega) (fun h => by have := mem_seq _ h; omega) (by simp) (by simp)] at cp
          replace cp : Calls Try.prog 20 #[.pointer (some ⟨p, 0, none⟩), .int .i64 3, .int .i64 (200 + (i : Int)), .bool true] wr (Xs (.tuple #[]) w p (u + i + 1) (tq (seqI 100 u) (seqI 200 (i + 1)) [] [])) := cp
          clear hC
          go_wp2_with fail
          with_reducible refine Calls.mono (cp) ?_
          rintro e wb ⟨rfl, hC⟩
          replace hC := Lib.hid hC
          clear cp
          go_wp2_with fail
          go_roundw
          case rel => exact ⟨i + 1, by go_num, by omega, hC⟩
          case measure => simp [RowKit.intOf]; omega
        · obtain rfl : f = i := by omega
          have i2 : ¬ (f : Int) < (f : Int) := by omega
          have cb := x_begin hC.out (by rw [msum_tq, seq_len, seq_len]; simp; omega)
          rw [beg_tq, msum_tq, seq_len, seq_len] at cb
          have cb2 : Calls Try.prog 21 #[.pointer (some ⟨p, 0, none⟩)] wr (Xs (.tuple #[]) w p (u + f + (u + f) + 0) (tq (seqI 0 0) [] (seqI 100 u) (seqI 200 f))) := cb
          clear hC cb
          go_wp2_with fail
          with_reducible refine Calls.mono (cb2) ?_
          rintro e wc ⟨rfl, h1⟩
          replace h1 := Lib.hid h1
          clear cb2
          go_wp2_with fail
          go_loopw [13] (fun v wr => ∃ i : Nat, v = .int .i64 i ∧ i ≤ s ∧ Hid (Cx w wr p (u + f + (u + f) + i) (tq (seqI 0 i) [] (seqI 100 u) (seqI 200 f)))) (fun v _ => (s - (RowKit.intOf v).toNat))
          case atStart => exact ⟨0, rfl, by omega, h1⟩
          case round =>
            clear h1
            obtain ⟨i, rfl, i1, hC⟩ := hrel
            by_cases hi : i < s
            · have i2 : (i : Int) < (s : Int) := by omega
              have i0 : (0 : Int) ≤ (i : Int) := by omega
              have i3 : (i : Int) ≤ 20 := by omega
              have cp := x_put (k := 3) hC.out (by omega) (by omega) (wf_of (x := 0 + (i : Int)) (by omega)) false
              rw [show putQ (tq (seqI 0 i) [] (seqI 100 u) (seqI 200 f)) (3 * 4 + cond false 1 0) (0 + (i : Int)) = tq (seqI 0 (i + 1)) [] (seqI 100 u) (seqI 200 f) from put12 (fun h => by have := mem_seq _ h; omega) (by simp) (fun h => by have := mem_seq _ h; omega) (fun h => by have := mem_seq _ h; omega)] at cp
              rw [show (0 : Int) + (i : Int) = (i : Int) by omega] at cp
              replace cp : Calls Try.prog 20 #[.pointer (some ⟨p, 0, none⟩), .int .i64 3, .int .i64 ((i : Int)), .bool false] wr (Xs (.tuple #[]) w p (u + f + (u + f) + i + 1) (tq (seqI 0 (i + 1)) [] (seqI 100 u) (seqI 200 f))) := cp
              clear hC
              go_wp2_with fail
              with_reducible refine Calls.mono (cp) ?_
              rintro e wb ⟨rfl, hC⟩
              replace hC := Lib.hid hC
              clear cp
              go_wp2_with fail
              go_roundw
              case rel => exact ⟨i + 1, by go_num, by omega, hC⟩
              case measure => simp [RowKit.intOf]; omega
            · obtain rfl : s = i := by omega
              have i2 : ¬ (s : Int) < (s : Int) := by omega
              have cu := x_uns hC.out (by omega)
              rw [uns_tq, seq_len, seq_len] at cu
              have cu2 : Calls Try.prog 23 #[.pointer (some ⟨p, 0, none⟩)] wr (Still (.int .i64 ((u : Int) + (f : Int))) wr) := cu
              obtain ⟨n, hn⟩ : ∃ n, u + f + (u + f) + s = n := ⟨_, rfl⟩
              have hn2 : n ≤ 1000000 := by omega
              rw [hn] at hC
              have g1 : (0 : Int) ≤ (u : Int) + (f : Int) := by omega
              have g2 : (u : Int) + (f : Int) ≤ 100 := by omega
              have g3 : (((u : Int) + (f : Int)) != ((u : Int) + (f : Int))) = false := by simp
              clear cu hn
              go_wp2_with fail
              with_reducible refine Calls.mono (cu2) ?_
              rintro e wd ⟨rfl, ew⟩
              subst ew
              clear cu2
              obtain ⟨J, hJ⟩ : ∃ J : Int, J = (s : Int) - 1 := ⟨_, rfl⟩
              go_wp2_with fail
              rw [← hJ]
              replace hJ := Lib.hid hJ
              go_loopw [14] (fun v wr => ∃ (j : Nat) (J : Int), v = .int .i64 J ∧ j ≤ s ∧ Hid (J = (j : Int) - 1) ∧ Hid (Cx w wr p n (tq (seqI 0 j) [] (seqI 100 u) (seqI 200 f)))) (fun v _ => (RowKit.intOf v + 1).toNat)
              case atStart => exact ⟨s, J, rfl, Nat.le_refl _, hJ, hC⟩
              case round =>
                clear hJ hC
                obtain ⟨j, J, rfl, j1, hJ, hC⟩ := hrel
                by_cases hj : j = 0
                · subst hj
                  have J0 : ¬ (0 : Int) ≤ J := by have := hJ.out; omega
                  clear hJ
                  have h1 : Hid (Cx w wr p n (tq [] [] (seqI 100 u) (seqI 200 f))) := hC
                  clear hC
                  obtain ⟨J, hJ⟩ : ∃ J : Int, J = (u : Int) - 1 := ⟨_, rfl⟩
                  go_wp2_with fail
                  rw [← hJ]
                  replace hJ := Lib.hid hJ
                  go_loopw [18] (fun v wr => ∃ (j : Nat) (J : Int), v = .int .i64 J ∧ j ≤ u ∧ Hid (J = (j : Int) - 1) ∧ Hid (Cx w wr p n (tq [] [] (seqI 100 j) (seqI 200 f)))) (fun v _ => (RowKit.intOf v + 1).toNat)
                  case atStart => exact ⟨u, J, rfl, Nat.le_refl _, hJ, h1⟩
                  case round =>
                    clear hJ h1
                    obtain ⟨j, J, rfl, j1, hJ, hC⟩ := hrel
                    by_cases hj : j = 0
                    · subst hj
                      have J0 : ¬ (0 : Int) ≤ J := by have := hJ.out; omega
                      clear hJ
                      have ct : Calls Try.prog 24 #[.pointer (some ⟨p, 0, none⟩), .int .i64 3] wr (Xs (.tuple #[.int .i64 0, .bool false, .bool false]) w p n (tq [] [] [] (seqI 200 f))) := x_take (k := 3) hC.out hn2 (by omega) rfl rfl
                      clear hC
                      obtain ⟨J', hJ'⟩ : ∃ J : Int, J = (f : Int) - 1 := ⟨_, rfl⟩
                      go_wp2_with fail
                      with_reducible refine Calls.mono ct ?_
                      rintro e wf ⟨rfl, h1⟩
                      replace h1 := Lib.hid h1
                      clear ct J0
                      go_wp2_with fail
                      rw [← hJ']
                      have hJ := Lib.hid hJ'
                      clear hJ'
                      rename_i Jold
                      generalize J' = J at *
                      go_loopw [25] (fun v wr => ∃ (j : Nat) (J : Int), v = .int .i64 J ∧ j ≤ f ∧ Hid (J = (j : Int) - 1) ∧ Hid (Cx w wr p n (tq [] [] [] (seqI 200 j)))) (fun v _ => (RowKit.intOf v + 1).toNat)
                      case atStart => exact ⟨f, J, rfl, Nat.le_refl _, hJ, h1⟩
                      case round =>
                        clear hJ h1
                        obtain ⟨j, J, rfl, j1, hJ, hC⟩ := hrel
                        by_cases hj : j = 0
                        · subst hj
                          have J0 : ¬ (0 : Int) ≤ J := by have := hJ.out; omega
                          clear hJ
                          have hq : takeFQ (tq [] [] [] (seqI 200 0)) 3 = tq [] [] [] [] := tq_ext rfl rfl rfl rfl (fun s e1 e2 e3 e4 => by unfold takeFQ; rw [upd_ne _ _ e4, tq_no e1 e2 e3 e4])
                          have ct : Calls Try.prog 27 #[.pointer (some ⟨p, 0, none⟩), .int .i64 3] wr (Xs (.tuple #[.int .i64 0, .bool false]) w p n (tq [] [] [] [])) := x_takef (k := 3) hC.out hn2 (by omega) rfl hq
                          clear hC hq
                          go_wp2_with fail
                          with_reducible refine Calls.mono ct ?_
                          rintro e wf ⟨rfl, h1⟩
                          clear ct J0
                          have cto := told_any wf
                          go_wp2_with fail
                          with_reducible refine Calls.mono cto ?_
                          rintro e wg ⟨rfl, hb⟩
                          have h2 := h1.below hb
                          have cu := x_uns h2 hn2
                          rw [uns_tq] at cu
                          have cu2 : Calls Try.prog 23 #[.pointer (some ⟨p, 0, none⟩)] wg (Still (.int .i64 0) wg) := cu
                          have hbel := h2.bel
                          clear cto cu h1 h2 hb
                          go_wp2_with fail
                          with_reducible refine Calls.mono cu2 ?_
                          rintro e wh ⟨rfl, ew⟩
                          subst ew
                          clear cu2
                          go_wp2_with fail
                          go_ret
                          exact ⟨rfl, hbel⟩
                        · obtain ⟨q, rfl⟩ : ∃ q, j = q + 1 := ⟨j - 1, by omega⟩
                          have hJq : J = (q : Int) := by have := hJ.out; omega
                          have J0 : (0 : Int) ≤ J := by omega
                          have J1 : J ≤ 100 := by omega
                          have he : tq [] [] [] (seqI 200 (q + 1)) = tq [] [] [] (seqI 200 q ++ [200 + J]) := by rw [show (200 : Int) + J = 200 + (q : Int) by omega]; rfl
                          have ct := x_takef (k := 3) hC.out hn2 (by omega) (Q' := tq [] [] [] (seqI 200 q)) (x := 200 + J) (by rw [he]; exact (takef_f [] [] [] (seqI 200 q) (200 + J)).1) (by rw [he]; exact (takef_f [] [] [] (seqI 200 q) (200 + J)).2)
                          skip
                          replace ct : Calls Try.prog 27 #[.pointer (some ⟨p, 0, none⟩), .int .i64 3] wr (Xs (.tuple #[.int .i64 (200 + J), .bool true]) w p n (tq [] [] [] (seqI 200 q))) := ct
                          have hne : ((200 + J) != (200 + J)) = false := by simp
                          clear hC he hJq
                          go_wp2_with fail
                          with_reducible refine Calls.mono (ct) ?_
                          rintro e we ⟨rfl, hC⟩
                          replace hC := Lib.hid hC
                          clear ct
                          go_wp2_with fail
                          go_roundw
                          case rel => exact ⟨q, J - 1, rfl, by omega, Lib.hid (by have := hJ.out; omega), hC⟩
                          case measure => simp [RowKit.intOf]; omega
                    · obtain ⟨q, rfl⟩ : ∃ q, j = q + 1 := ⟨j - 1, by omega⟩
                      have hJq : J = (q : Int) := by have := hJ.out; omega
                      have J0 : (0 : Int) ≤ J := by omega
                      have J1 : J ≤ 100 := by omega
                      have he : tq [] [] (seqI 100 (q + 1)) (seqI 200 f) = tq [] [] (seqI 100 q ++ [100 + J]) (seqI 200 f) := by rw [show (100 : Int) + J = 100 + (q : Int) by omega]; rfl
                      have ct := x_take (k := 3) hC.out hn2 (by omega) (Q' := tq [] [] (seqI 100 q) (seqI 200 f)) (x := 100 + J) (by rw [he]; exact (take_u [] (seqI 100 q) (seqI 200 f) (100 + J)).1) (by rw [he]; exact (take_u [] (seqI 100 q) (seqI 200 f) (100 + J)).2)
                      skip
                      replace ct : Calls Try.prog 24 #[.pointer (some ⟨p, 0, none⟩), .int .i64 3] wr (Xs (.tuple #[.int .i64 (100 + J), .bool true, .bool true]) w p n (tq [] [] (seqI 100 q) (seqI 200 f))) := ct
                      have hne : ((100 + J) != (100 + J)) = false := by simp
                      clear hC he hJq
                      go_wp2_with fail
                      with_reducible refine Calls.mono (ct) ?_
                      rintro e we ⟨rfl, hC⟩
                      replace hC := Lib.hid hC
                      clear ct
                      go_wp2_with fail
                      go_roundw
                      case rel => exact ⟨q, J - 1, rfl, by omega, Lib.hid (by have := hJ.out; omega), hC⟩
                      case measure => simp [RowKit.intOf]; omega
                · obtain ⟨q, rfl⟩ : ∃ q, j = q + 1 := ⟨j - 1, by omega⟩
                  have hJq : J = (q : Int) := by have := hJ.out; omega
                  have J0 : (0 : Int) ≤ J := by omega
                  have J1 : J ≤ 100 := by omega
                  have he : tq (seqI 0 (q + 1)) [] (seqI 100 u) (seqI 200 f) = tq (seqI 0 q ++ [0 + J]) [] (seqI 100 u) (seqI 200 f) := by rw [show (0 : Int) + J = 0 + (q : Int) by omega]; rfl
                  have ct := x_take (k := 3) hC.out hn2 (by omega) (Q' := tq (seqI 0 q) [] (seqI 100 u) (seqI 200 f)) (x := 0 + J) (by rw [he]; exact (take_s (seqI 0 q) [] (seqI 100 u) (seqI 200 f) (0 + J)).1) (by rw [he]; exact (take_s (seqI 0 q) [] (seqI 100 u) (seqI 200 f) (0 + J)).2)
                  rw [show (0 : Int) + J = J by omega] at ct
                  replace ct : Calls Try.prog 24 #[.pointer (some ⟨p, 0, none⟩), .int .i64 3] wr (Xs (.tuple #[.int .i64 J, .bool false, .bool true]) w p n (tq (seqI 0 q) [] (seqI 100 u) (seqI 200 f))) := ct
                  have hne : ((J) != (J)) = false := by simp
                  clear hC he hJq
                  go_wp2_with fail
                  with_reducible refine Calls.mono (ct) ?_
                  rintro e we ⟨rfl, hC⟩
                  replace hC := Lib.hid hC
                  clear ct
                  go_wp2_with fail
                  go_roundw
                  case rel => exact ⟨q, J - 1, rfl, by omega, Lib.hid (by have := hJ.out; omega), hC⟩
                  case measure => simp [RowKit.intOf]; omega

set_option maxRecDepth 100000 in
theorem lifted (os : Os) (started : os.Started) (H : Type) (enc : TypeId × Value → H) :
    ReturnsInHanded {} Try.checked os 6 .any (Rows.centralTurnsSpec.pre6 enc Try.prog Try.f6 Rows.centralTurnsRow.domain false) (Rows.centralTurnsSpec.post enc Try.prog Try.f6 false true false false) := by
  refine returnsInHanded_of_change (C := Try.checked) own started (by kernel_rfl) Try.func6
    (ChangeSpec.witness6 (enc := enc) (C := Try.checked) false ⟨#[], #[.int .i64 0, .int .i64 0, .int .i64 0], []⟩ 8 (by kernel_rfl) (by kernel_rfl) (by kernel_rfl) (by kernel_rfl)) ?_
  intro W base args ds gs before hval0 hW hcnd _
  have hval : ∀ (j : Nat) t v, Try.f6.params[j]? = some t → args[j]? = some v → Value.okWide Try.prog W .any base t v := hval0
  have hW' := hW
  obtain ⟨p, q, hA0, hV, rfl, hfz, hnd⟩ := hW
  have hA : DataW.TrodAll enc Try.prog W 0 (fun _ => true) true Try.f6.params.toList args.toList ds p := hA0
  rw [Try.params6] at hA hval
  obtain ⟨v0, vs0, d0, ds0, p0, q0, hargs, rfl, rfl, h0, r0⟩ := trodAll_cons hA
  obtain ⟨v1, vs1, d1, ds1, p1, q1, rfl, rfl, rfl, h1, r1⟩ := trodAll_cons r0
  obtain ⟨v2, vs2, d2, ds2, p2, q2, rfl, rfl, rfl, h2, r2⟩ := trodAll_cons r1
  obtain ⟨rfl, rfl, rfl⟩ := trodAll_nil r2
  obtain rfl : args = #[v0, v1, v2] := by cases args; simp_all
  obtain ⟨rfl, rfl⟩ := trodVars_none hV
  obtain ⟨a0, rfl, rfl, rfl, w0⟩ := open_int Try.underlying3 (hval 0 3 v0 rfl rfl) h0
  obtain ⟨a1, rfl, rfl, rfl, w1⟩ := open_int Try.underlying3 (hval 1 3 v1 rfl rfl) h1
  obtain ⟨a2, rfl, rfl, rfl, w2⟩ := open_int Try.underlying3 (hval 2 3 v2 rfl rfl) h2
  clear hA0 hval0
  simp only [List.append_nil] at hW'
  refine (walk a0 a1 a2 W w0 w1 w2).mono fun e W' ⟨he, hg⟩ => ?_
  subst he
  exact ⟨_, rfl, post_of_kept (pa := _) (pv := []) hW' (fun _ _ _ => (trodAll_cons_mk (shut_bool Try.underlying4 _) trodAll_mk0)) (trodAll_cons_mk (shut_int Try.underlying3 w0) (trodAll_cons_mk (shut_int Try.underlying3 w1) (trodAll_cons_mk (shut_int Try.underlying3 w2) trodAll_mk0))) (fun _ _ => rfl) (by simp) hg⟩

theorem over : Rows.centralTurnsRow.holds Try.pinned (OpenSpec.ofChange Rows.centralTurnsSpec) :=
  OpenClaim.holds_of_wide 6 Try.f6 rfl rfl rfl rfl rfl rfl rfl ⟨rfl, rfl, rfl, rfl, rfl⟩ rfl rfl rfl rfl rfl (by kernel_rfl) Try.func6 (by kernel_rfl)
    (of_decide_eq_true (by kernel_rfl)) (by unfold Func.isWrapper; first | (rw [if_pos (by decide +kernel)]; kernel_rfl) | (rw [if_neg (by decide +kernel)]; exact ⟨rfl, rfl⟩))
    (fun os started H enc _ => lifted os started H enc)

theorem proved : Rows.CentralTurnsSaid :=
  over
#print axioms proved
end Go.Proofs.Ytejijddhmckgiaa.centralTurns
