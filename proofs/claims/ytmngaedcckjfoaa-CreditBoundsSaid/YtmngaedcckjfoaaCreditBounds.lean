/- For any ratio and any list of operations the statement CreditBounds answers true and leaves its arguments as they were: words allocated are at most what was scanned by the ratio, and 64. No condition. -/
import Derived.Test.YtmngaedcckjfoaaHome
import Derived.Test.YtmngaedcckjfoaaCreditTold
import Derived.Test.YtmngaedcckjfoaaOp22
import Derived.WalkKit
import Derived.ProofKit
import Derived.OpenShut
import Derived.Deep.RegionHeld3
import Derived.Deep.RegionWith
import Derived.Deep.Cut
import Derived.Deep.CutBlock
import Derived.Deep.CutRange
import Derived.Deep.LoopGhost
import Derived.Deep.DeepCutAuto
import Derived.RegionTactic
import Derived.StillTailTactics
namespace Go.Proofs.Ytmngaedcckjfoaa.creditBounds
open Go.ChangeShapes Go.WideShapes Go.ChangeAt Go.WideElems Go.RowKit Go.Lib Fx Ho Cr Mp Rw
set_option linter.unusedVariables false

theorem own : ownKnob Try.prog.godebug = none := by kernel_rfl

set_option maxRecDepth 100000 in
set_option maxHeartbeats 4000000 in
theorem walk (a0 : Int) (v1 : Value) (zb1 : List _) (w : World) (w0 : (Lit.int .i64 a0).wf = true) (h1 : Op22 w v1 zb1) :
    Calls Try.prog 3 #[.int .i64 a0, v1] w fun e w' => e = .returned (.bool true) ∧ Below w.heap.size w w' := by
  obtain ⟨sp, cap, rfl, hm, hc⟩ := h1
  obtain ⟨l, hl⟩ : ∃ l, zb1.length = l := ⟨_, rfl⟩
  rw [hl] at hm hc ⊢
  have hcells : Hid (∀ wr, Below w.heap.size w wr → ∀ i, i < l → ∃ b off x0 x1 x2 N, ∃ n : Nat, sp = some ⟨b, off, none⟩ ∧ wr.cell? ⟨b, off + i * 3, none⟩ = some (.int .i64 x0) ∧ wr.cell? ⟨b, off + i * 3 + 1, none⟩ = some (.int .i64 x1) ∧ wr.cell? ⟨b, off + i * 3 + 2, none⟩ = some (.int .i64 x2) ∧ IntKind.u64.wrap x2 = N ∧ wrap64 (N.tmod 301) = (n : Int) ∧ n ≤ 300) := Lib.hid fun wr hb i hi => by
    obtain ⟨b, off, e, _, d0, d1, d2⟩ := hc i hi
    have t : ∀ {j : Nat} {v : Value}, w.cell? ⟨b, off + (i * 3 + j), none⟩ = some v → wr.cell? ⟨b, off + i * 3 + j, none⟩ = some v := fun {j v} h => by have := cell_then hb h; rwa [← Nat.add_assoc] at this
    have hN0 : 0 ≤ IntKind.u64.wrap (zb1.getD i (0, 0, 0)).2.2 := by rw [IntKind.wrap_u64]; omega
    exact ⟨b, off, _, _, _, _, (IntKind.u64.wrap (zb1.getD i (0, 0, 0)).2.2 % 301).toNat, e, cell_then hb d0, t d1, t d2, rfl, by rw [Int.tmod_eq_emod_of_nonneg hN0, show wrap64 (IntKind.u64.wrap (zb1.getD i (0, 0, 0)).2.2 % 301) = _ from IntWalk.wrap64_in _ ⟨by omega, by omega⟩]; omega, by omega⟩
  have em : bits .and .i64 a0 67108863 = a0 % 67108864 := mask_i64 a0 26 (by decide)
  obtain ⟨y, hy⟩ : ∃ y, a0 % 67108864 = y := ⟨_, rfl⟩
  have y0 : 0 ≤ y := by omega
  have y1 : y < 67108864 := by omega
  rw [hy] at em
  obtain ⟨r, hr⟩ : ∃ r, 131072 + y = r := ⟨_, rfl⟩
  have r0 : 0 < r := by omega
  have rI : inI r := by unfold inI; omega
  have cn := new_any r rI w
  clear hc hl hy
  go_enter Try.func3, Try.ntmps3
  go_wp2_with fail
  with_reducible refine Calls.mono (cn) ?_
  rintro e w1 ⟨rfl, hs⟩
  obtain ⟨p, hp⟩ : ∃ p, w.heap.size = p := ⟨_, rfl⟩
  replace hp := Lib.hid hp
  replace hs : Hid (Sc w w1 w.heap.size (home w.heap.size none) r 0 0 (fun _ => (0, 0))) := Lib.hid hs
  rw [hp.out] at hs ⊢
  clear cn em y0 y1 hr
  obtain ⟨mz, hmz⟩ : ∃ mz : Int → Sm, (fun _ => ((0, 0) : Sm)) = mz := ⟨_, rfl⟩
  have hm0 : Hid (mz 0 = ((0 : Int), (0 : Int))) := Lib.hid (by rw [← hmz])
  rw [hmz] at hs
  clear hmz
  have hc0 : Hid ((0 : Int) ≤ 64 + cov r 0) := Lib.hid (by rw [cov0 r r0]; omega)
  go_wp2_with fail
  go_loopw [7] (fun x wr => ∃ (k nn : Nat) (a s : Int) (H : Home) (m : Int → Sm), x = .int .i64 k ∧ k ≤ l ∧ k ≤ 60 ∧ nn ≤ k ∧ 0 ≤ a ∧ a ≤ 300 * k ∧ 0 ≤ s ∧ s ≤ 300 * k ∧ Hid (a ≤ 64 + cov r s) ∧ Hid (m 0 = (a, s)) ∧ Hid (Sc w wr p H r 0 nn m)) (fun x _ => (60 - (RowKit.intOf x).toNat))
  case atStart => exact ⟨0, 0, 0, 0, home p none, mz, rfl, by omega, by omega, by omega, by omega, by omega, by omega, by omega, hc0, hm0, hs⟩
  case round =>
    clear hs hm0 hc0
    obtain ⟨k, nn, a, s, H, m, rfl, kl, k60, nk, a0', a1', s0, s1, hcov, hm0, hS⟩ := hrel
    by_cases hk : k < l ∧ k < 60
    · obtain ⟨hk1, hk2⟩ := hk
      have i2 : (k : Int) < (l : Int) := by omega
      have i3 : (k : Int) < 60 := by omega
      have i0 : (0 : Int) ≤ (k : Int) := by omega
      obtain ⟨b, off, x0, x1, x2, N, n, rfl, d0, d1, d2, hN, hn, n300⟩ := hcells.out wr hS.out.out k hk1
      obtain ⟨q, hq⟩ : ∃ q, bits .and .i64 x0 3 = q := ⟨_, rfl⟩
      have nI : inI (n : Int) := by unfold inI; omega
      by_cases h3 : q = 3
      · subst h3
        by_cases hn0 : n = 0
        · subst hn0
          have cc := scan_none (p := p) 0 0 (by omega) wr
          clear d1
          go_wp2_with fail
          with_reducible refine Calls.mono cc ?_
          rintro e w2 ⟨rfl, e2⟩
          subst e2
          clear cc hq hN hn d0 d2
          have ct := sums_any hS.out (g := 0) (by decide)
          rw [show (m 0).1 = a from by rw [hm0.out], show (m 0).2 = s from by rw [hm0.out]] at ct
          have sI : inI (s) := by unfold inI; omega
          have cw := fun w => whole_any (s) sI w
          have cd := fun w => div_any (wholeI (s)) r (clampI_in _) rI w
          have ci := fun w => int_any (divI (wholeI (s)) r) w
          have hcb := cov_bd r (s)
          obtain ⟨cv, hcve⟩ : ∃ cv, cov r (s) = cv := ⟨_, rfl⟩
          rw [hcve] at hcb
          have hci : intI (divI (wholeI (s)) r) = cv := hcve
          rw [hci] at ci
          have hle2 : ¬ (64 + cv < a) := by have := hcov.out; omega
          have sn : ¬ (s) < 0 := by omega
          have an : ¬ (a) < 0 := by omega
          replace hcve := Lib.hid hcve
          generalize wholeI (s) = wv at *
          generalize divI wv r = dv at *
          clear hci sI 
          go_wp2_with fail
          with_reducible refine Calls.mono ct ?_
          rintro e w5 ⟨rfl, hb5⟩
          have hS5 := Lib.hid (hS.out.below hb5)
          clear ct hb5 hS
          go_wp2_with fail
          with_reducible refine Calls.mono (cw _) ?_
          rintro e w6 ⟨rfl, m6, rfl⟩
          go_wp2_with fail
          with_reducible refine Calls.mono (cd _) ?_
          rintro e w7 ⟨rfl, m7, rfl⟩
          go_wp2_with fail
          with_reducible refine Calls.mono (ci _) ?_
          rintro e w8 ⟨rfl, e8⟩
          subst e8
          have hS8 := Lib.hid (hS5.out.below (below_drewN (Below.refl _ _) (m6 + m7)))
          clear cw cd ci hS5
          go_wp2_with fail
          go_roundw
          case rel => exact ⟨k + 1, nn, a, s, H, m, by go_num, by omega, by omega, by omega, by omega, by omega, by omega, by omega, hcov, hm0, hS8⟩
          case measure => simp [RowKit.intOf]; omega
        · have n0 : (0 : Int) < (n : Int) := by omega
          have cc := scan_any hS.out (g := 0) (by decide) (n : Int) n0 nI (by omega)
          have hs2 : addI s n = s + n := by unfold addI; exact clampI_id (by unfold inI; omega)
          rw [show (m 0).1 = a from by rw [hm0.out], show (m 0).2 = s from by rw [hm0.out], hs2] at cc
          have hcov2 : Hid (a ≤ 64 + cov r (s + n)) := Lib.hid (by have := cov_mono r0 (show s ≤ s + n by omega); have := hcov.out; omega)
          have hm2 : Hid ((up m 0 (a, s + n)) 0 = (a, s + (n : Int))) := Lib.hid (up_same _ _ _)
          generalize up m 0 (a, s + (n : Int)) = m2 at *
          obtain ⟨s2, hse⟩ : ∃ s2 : Int, s + (n : Int) = s2 := ⟨_, rfl⟩
          rw [hse] at hcov2 hm2
          clear hS hcov hm0 d1 hs2
          go_wp2_with fail
          with_reducible refine Calls.mono cc ?_
          rintro e w2 ⟨rfl, H2, -, hS2⟩
          replace hS2 := Lib.hid hS2
          clear cc hq hN hn d0 d2
          have ct := sums_any hS2.out (g := 0) (by decide)
          rw [show (m2 0).1 = a from by rw [hm2.out], show (m2 0).2 = s2 from by rw [hm2.out]] at ct
          have sI : inI (s2) := by unfold inI; omega
          have cw := fun w => whole_any (s2) sI w
          have cd := fun w => div_any (wholeI (s2)) r (clampI_in _) rI w
          have ci := fun w => int_any (divI (wholeI (s2)) r) w
          have hcb := cov_bd r (s2)
          obtain ⟨cv, hcve⟩ : ∃ cv, cov r (s2) = cv := ⟨_, rfl⟩
          rw [hcve] at hcb
          have hci : intI (divI (wholeI (s2)) r) = cv := hcve
          rw [hci] at ci
          have hle2 : ¬ (64 + cv < a) := by have := hcov2.out; omega
          have sn : ¬ (s2) < 0 := by omega
          have an : ¬ (a) < 0 := by omega
          replace hcve := Lib.hid hcve
          generalize wholeI (s2) = wv at *
          generalize divI wv r = dv at *
          clear hci sI 
          go_wp2_with fail
          with_reducible refine Calls.mono ct ?_
          rintro e w5 ⟨rfl, hb5⟩
          have hS5 := Lib.hid (hS2.out.below hb5)
          clear ct hb5 hS2
          go_wp2_with fail
          with_reducible refine Calls.mono (cw _) ?_
          rintro e w6 ⟨rfl, m6, rfl⟩
          go_wp2_with fail
          with_reducible refine Calls.mono (cd _) ?_
          rintro e w7 ⟨rfl, m7, rfl⟩
          go_wp2_with fail
          with_reducible refine Calls.mono (ci _) ?_
          rintro e w8 ⟨rfl, e8⟩
          subst e8
          have hS8 := Lib.hid (hS5.out.below (below_drewN (Below.refl _ _) (m6 + m7)))
          clear cw cd ci hS5
          go_wp2_with fail
          go_roundw
          case rel => exact ⟨k + 1, (nn + 1), a, s2, H2, m2, by go_num, by omega, by omega, by omega, by omega, by omega, by omega, by omega, hcov2, hm2, hS8⟩
          case measure => simp [RowKit.intOf]; omega
      · have h3b : (q == 3) = false := by rw [beq_eq_false_iff_ne]; exact h3
        clear h3
        have c1 := sums_any hS.out (g := 0) (by decide)
        rw [show (m 0).1 = a from by rw [hm0.out], show (m 0).2 = s from by rw [hm0.out]] at c1
        have ha2 : addI a n = a + n := by unfold addI; exact clampI_id (by unfold inI; omega)
        have n0 : (0 : Int) ≤ (n : Int) := by omega
        by_cases hle : a + n ≤ 64 + cov r s
        · have hcv : Hid (a + n ≤ 64 + cov r s) := Lib.hid hle
          clear hle d1
          go_wp2_with fail
          with_reducible refine Calls.mono c1 ?_
          rintro e w2 ⟨rfl, hb⟩
          have c2 := alloc_yes (hS.out.below hb) r0 (g := 0) (by decide) (n : Int) n0 nI (by omega) (by rw [show (m 0).1 = a from by rw [hm0.out], show (m 0).2 = s from by rw [hm0.out], ha2]; exact hcv.out)
          rw [show (m 0).1 = a from by rw [hm0.out], show (m 0).2 = s from by rw [hm0.out], ha2] at c2
          have hm2 : Hid ((up m 0 (a + (n : Int), s)) 0 = (a + (n : Int), s)) := Lib.hid (up_same _ _ _)
          generalize up m 0 (a + (n : Int), s) = m2 at *
          clear c1 hb hS hcov hm0 d0 d2 hq
          try rw [hn]
          go_wp2_with fail
          with_reducible refine Calls.mono c2 ?_
          rintro e w3 ⟨rfl, H3, -, hS3⟩
          have c3 := sums_any hS3 (g := 0) (by decide)
          rw [show (m2 0).1 = a + (n : Int) from by rw [hm2.out], show (m2 0).2 = s from by rw [hm2.out]] at c3
          replace hS3 := Lib.hid hS3
          obtain ⟨a2, hae⟩ : ∃ a2 : Int, a + (n : Int) = a2 := ⟨_, rfl⟩
          rw [hae] at c3 hm2 hcv
          have hwr : wrap64 a2 = a2 := IntWalk.wrap64_in _ ⟨by omega, by omega⟩
          clear c2 ha2
          try rw [hn]
          go_wp2_with fail
          with_reducible refine Calls.mono c3 ?_
          rintro e w4 ⟨rfl, hb⟩
          have hS2 := Lib.hid (hS3.out.below hb)
          clear c3 hb hS3
          have ct := sums_any hS2.out (g := 0) (by decide)
          rw [show (m2 0).1 = a2 from by rw [hm2.out], show (m2 0).2 = s from by rw [hm2.out]] at ct
          have sI : inI (s) := by unfold inI; omega
          have cw := fun w => whole_any (s) sI w
          have cd := fun w => div_any (wholeI (s)) r (clampI_in _) rI w
          have ci := fun w => int_any (divI (wholeI (s)) r) w
          have hcb := cov_bd r (s)
          obtain ⟨cv, hcve⟩ : ∃ cv, cov r (s) = cv := ⟨_, rfl⟩
          rw [hcve] at hcb
          have hci : intI (divI (wholeI (s)) r) = cv := hcve
          rw [hci] at ci
          have hle2 : ¬ (64 + cv < a2) := by have := hcv.out; omega
          have sn : ¬ (s) < 0 := by omega
          have an : ¬ (a2) < 0 := by omega
          replace hcve := Lib.hid hcve
          generalize wholeI (s) = wv at *
          generalize divI wv r = dv at *
          clear hci sI 
          go_wp2_with fail
          with_reducible refine Calls.mono ct ?_
          rintro e w5 ⟨rfl, hb5⟩
          have hS5 := Lib.hid (hS2.out.below hb5)
          clear ct hb5 hS2
          go_wp2_with fail
          with_reducible refine Calls.mono (cw _) ?_
          rintro e w6 ⟨rfl, m6, rfl⟩
          go_wp2_with fail
          with_reducible refine Calls.mono (cd _) ?_
          rintro e w7 ⟨rfl, m7, rfl⟩
          go_wp2_with fail
          with_reducible refine Calls.mono (ci _) ?_
          rintro e w8 ⟨rfl, e8⟩
          subst e8
          have hS8 := Lib.hid (hS5.out.below (below_drewN (Below.refl _ _) (m6 + m7)))
          clear cw cd ci hS5
          go_wp2_with fail
          go_roundw
          case rel => exact ⟨k + 1, (nn + 1), a2, s, H3, m2, by go_num, by omega, by omega, by omega, by omega, by omega, by omega, by omega, hcv, hm2, hS8⟩
          case measure => simp [RowKit.intOf]; omega
        · have hcv : Hid (64 + cov r s < a + n) := Lib.hid (by omega)
          clear hle d1
          go_wp2_with fail
          with_reducible refine Calls.mono c1 ?_
          rintro e w2 ⟨rfl, hb⟩
          have hS1 := hS.out.below hb
          have c2 := alloc_no hS1 r0 (g := 0) (by decide) (n : Int) n0 nI (by rw [show (m 0).1 = a from by rw [hm0.out], show (m 0).2 = s from by rw [hm0.out], ha2]; exact hcv.out)
          replace hS1 := Lib.hid hS1
          clear c1 hb hS d0 d2 hq hcv
          try rw [hn]
          go_wp2_with fail
          with_reducible refine Calls.mono c2 ?_
          rintro e w3 ⟨rfl, hb⟩
          have hS3 := hS1.out.below hb
          have c3 := sums_any hS3 (g := 0) (by decide)
          rw [show (m 0).1 = a from by rw [hm0.out], show (m 0).2 = s from by rw [hm0.out]] at c3
          replace hS3 := Lib.hid hS3
          clear c2 ha2 hb hS1
          try rw [hn]
          go_wp2_with fail
          with_reducible refine Calls.mono c3 ?_
          rintro e w4 ⟨rfl, hb⟩
          have hS2 := Lib.hid (hS3.out.below hb)
          clear c3 hb hS3
          have ct := sums_any hS2.out (g := 0) (by decide)
          rw [show (m 0).1 = a from by rw [hm0.out], show (m 0).2 = s from by rw [hm0.out]] at ct
          have sI : inI (s) := by unfold inI; omega
          have cw := fun w => whole_any (s) sI w
          have cd := fun w => div_any (wholeI (s)) r (clampI_in _) rI w
          have ci := fun w => int_any (divI (wholeI (s)) r) w
          have hcb := cov_bd r (s)
          obtain ⟨cv, hcve⟩ : ∃ cv, cov r (s) = cv := ⟨_, rfl⟩
          rw [hcve] at hcb
          have hci : intI (divI (wholeI (s)) r) = cv := hcve
          rw [hci] at ci
          have hle2 : ¬ (64 + cv < a) := by have := hcov.out; omega
          have sn : ¬ (s) < 0 := by omega
          have an : ¬ (a) < 0 := by omega
          replace hcve := Lib.hid hcve
          generalize wholeI (s) = wv at *
          generalize divI wv r = dv at *
          clear hci sI 
          go_wp2_with fail
          with_reducible refine Calls.mono ct ?_
          rintro e w5 ⟨rfl, hb5⟩
          have hS5 := Lib.hid (hS2.out.below hb5)
          clear ct hb5 hS2
          go_wp2_with fail
          with_reducible refine Calls.mono (cw _) ?_
          rintro e w6 ⟨rfl, m6, rfl⟩
          go_wp2_with fail
          with_reducible refine Calls.mono (cd _) ?_
          rintro e w7 ⟨rfl, m7, rfl⟩
          go_wp2_with fail
          with_reducible refine Calls.mono (ci _) ?_
          rintro e w8 ⟨rfl, e8⟩
          subst e8
          have hS8 := Lib.hid (hS5.out.below (below_drewN (Below.refl _ _) (m6 + m7)))
          clear cw cd ci hS5
          go_wp2_with fail
          go_roundw
          case rel => exact ⟨k + 1, nn, a, s, H, m, by go_num, by omega, by omega, by omega, by omega, by omega, by omega, by omega, hcov, hm0, hS8⟩
          case measure => simp [RowKit.intOf]; omega
    · have hb := hS.out.out
      have ct := told_any wr
      have hke : decide ((k : Int) < (l : Int)) = true ∧ ¬ ((k : Int) < 60) ∨ ¬ ((k : Int) < (l : Int)) := by
        by_cases e : k < l
        · exact .inl ⟨by simpa using e, by omega⟩
        · exact .inr (by omega)
      clear hS hcov hm0 hcells hk
      rcases hke with ⟨e1, e2⟩ | e2
      · have e1 : (k : Int) < (l : Int) := by simpa using e1
        go_wp2_with fail
        with_reducible refine Calls.mono ct ?_
        rintro e w5 ⟨rfl, hb5⟩
        have hb := hb.trans (hb5.mono hb.size)
        clear ct hb5
        go_wp2_with fail
        go_ret
        exact ⟨rfl, hb⟩
      · go_wp2_with fail
        with_reducible refine Calls.mono ct ?_
        rintro e w5 ⟨rfl, hb5⟩
        have hb := hb.trans (hb5.mono hb.size)
        clear ct hb5
        go_wp2_with fail
        go_ret
        exact ⟨rfl, hb⟩

set_option maxRecDepth 100000 in
theorem lifted (os : Os) (started : os.Started) (H : Type) (enc : TypeId × Value → H) :
    ReturnsInHanded {} Try.checked os 3 .any (Rows.creditBoundsSpec.pre6 enc Try.prog Try.f3 Rows.creditBoundsRow.domain false) (Rows.creditBoundsSpec.post enc Try.prog Try.f3 false true false false) := by
  refine returnsInHanded_of_change (C := Try.checked) own started (by kernel_rfl) Try.func3
    (ChangeSpec.witness6 (enc := enc) (C := Try.checked) false ⟨#[], #[.int .i64 0, .slice none 0 0], []⟩ 8 (by kernel_rfl) (by kernel_rfl) (by kernel_rfl) (by kernel_rfl)) ?_
  intro W base args ds gs before hval0 hW hcnd _
  have hval : ∀ (j : Nat) t v, Try.f3.params[j]? = some t → args[j]? = some v → Value.okWide Try.prog W .any base t v := hval0
  have hW' := hW
  obtain ⟨p, q, hA0, hV, rfl, hfz, hnd⟩ := hW
  have hA : DataW.TrodAll enc Try.prog W 0 (fun _ => true) true Try.f3.params.toList args.toList ds p := hA0
  rw [Try.params3] at hA hval
  obtain ⟨v0, vs0, d0, ds0, p0, q0, hargs, rfl, rfl, h0, r0⟩ := trodAll_cons hA
  obtain ⟨v1, vs1, d1, ds1, p1, q1, rfl, rfl, rfl, h1, r1⟩ := trodAll_cons r0
  obtain ⟨rfl, rfl, rfl⟩ := trodAll_nil r1
  obtain rfl : args = #[v0, v1] := by cases args; simp_all
  obtain ⟨rfl, rfl⟩ := trodVars_none hV
  obtain ⟨zb1, i1⟩ := op22_arg (hval 1 22 v1 rfl rfl) h1
  obtain ⟨a0, rfl, rfl, rfl, w0⟩ := open_int Try.underlying2 (hval 0 2 v0 rfl rfl) h0
  clear hA0 hval0
  simp only [List.append_nil] at hW'
  have lt1 : ∀ x ∈ p1, x.block < W.heap.size := fun x hx => by have := hW'.lt x (by simp [hx]); simpa using this
  refine (walk a0 v1 zb1 W w0 i1).mono fun e W' ⟨he, hg⟩ => ?_
  subst he
  exact ⟨_, rfl, post_of_kept (pa := _) (pv := []) hW' (fun _ _ _ => (trodAll_cons_mk (shut_bool Try.underlying4 _) trodAll_mk0)) (trodAll_cons_mk (shut_int Try.underlying2 w0) (trodAll_cons_mk (Below.trod laidOut (by kernel_rfl) (of_decide_eq_true (by kernel_rfl)) h1 hg lt1) trodAll_mk0)) (fun _ _ => rfl) (by simp) hg⟩

theorem over : Rows.creditBoundsRow.holds Try.pinned (OpenSpec.ofChange Rows.creditBoundsSpec) :=
  OpenClaim.holds_of_wide 3 Try.f3 rfl rfl rfl rfl rfl rfl rfl ⟨rfl, rfl, rfl, rfl, rfl⟩ rfl rfl rfl rfl rfl (by kernel_rfl) Try.func3 (by kernel_rfl)
    (of_decide_eq_true (by kernel_rfl)) (by unfold Func.isWrapper; first | (rw [if_pos (by decide +kernel)]; kernel_rfl) | (rw [if_neg (by decide +kernel)]; exact ⟨rfl, rfl⟩))
    (fun os started H enc _ => lifted os started H enc)

theorem proved : Rows.CreditBoundsSaid :=
  over
#print axioms proved
end Go.Proofs.Ytmngaedcckjfoaa.creditBounds
