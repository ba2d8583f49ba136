/- For any ratio and any whole number the statement CreditPays answers true and leaves its arguments as they were: what is owed, once it is scanned, lets one word more be allocated; one word of scanning less does not. No condition. -/
import Derived.Test.YtmngaedcckjfoaaHome
import Derived.Test.YtmngaedcckjfoaaCreditTold
import Derived.Test.YtmngaedcckjfoaaCreditPay
import Derived.WalkKit
import Derived.ProofKit
import Derived.OpenShut
import Derived.Deep.RegionHeld3
import Derived.Deep.RegionWith
import Derived.Deep.Cut
import Derived.Deep.CutBlock
import Derived.Deep.CutRange
import Derived.Deep.LoopGhost
import Derived.Deep.DeepCutAuto
import Derived.RegionTactic
import Derived.StillTailTactics
namespace Go.Proofs.Ytmngaedcckjfoaa.creditPays
open Go.ChangeShapes Go.WideShapes Go.ChangeAt Go.WideElems Go.RowKit Go.Lib Fx Ho Cr Mp Cr Mp
set_option linter.unusedVariables false

theorem own : ownKnob Try.prog.godebug = none := by kernel_rfl

theorem from_ {W0 W1 W : World} {p n : Nat} {H : Home} {r b : Int} {m : Int → Sm} (h : Sc W1 W p H r b n m) (hb : Below W0.heap.size W0 W1) : Sc W0 W p H r b n m := by
  obtain ⟨mp, h1, h2, h3, h4⟩ := h
  exact ⟨mp, h1, fun k hk => Nat.le_trans hb.size (h2 k hk), hb.trans (h3.mono hb.size), h4⟩
theorem addI_in {a b : Int} (h : inI (a + b)) : addI a b = a + b := clampI_id h
set_option maxRecDepth 100000 in
set_option maxHeartbeats 4000000 in
theorem walk (a0 : Int) (a1 : Int) (w : World) (w0 : (Lit.int .i64 a0).wf = true) (w1 : (Lit.int .i64 a1).wf = true) :
    Calls Try.prog 4 #[.int .i64 a0, .int .i64 a1] w fun e w' => e = .returned (.bool true) ∧ Below w.heap.size w w' := by
  have em : bits .and .i64 a0 67108863 = a0 % 67108864 := mask_i64 a0 26 (by decide)
  obtain ⟨y, hy⟩ : ∃ y, a0 % 67108864 = y := ⟨_, rfl⟩
  have y0 : 0 ≤ y := by omega
  have y1 : y < 67108864 := by omega
  rw [hy] at em
  obtain ⟨r, hr⟩ : ∃ r, 131072 + y = r := ⟨_, rfl⟩
  have r0 : 0 < r := by omega
  have r1 : 131072 ≤ r := by omega
  have r2 : r < 68157440 := by omega
  have rI : inI r := by unfold inI; omega
  obtain ⟨Z, hZ⟩ : ∃ Z : Int, IntKind.u64.wrap a1 = Z := ⟨_, rfl⟩
  have z1 : 0 ≤ Z := by rw [← hZ, IntKind.wrap_u64]; omega
  obtain ⟨k, hk⟩ : ∃ k : Nat, 65 + Z % 99936 = (k : Int) := ⟨(65 + Z % 99936).toNat, by omega⟩
  have k1 : 65 ≤ k := by omega
  have k2 : k ≤ 100000 := by omega
  obtain ⟨cv, hcve⟩ : ∃ cv, cov r (70 * (k : Int)) = cv := ⟨_, rfl⟩
  have hge := cov_ge (k := (k : Int)) r1 r2 (by omega) (by omega)
  obtain ⟨L, L1, L65, hyL, hnoL⟩ := owes (s := 70 * (k : Int)) r1 r2 (by omega) (by omega)
  have hbd := cov_bd r (70 * (k : Int))
  rw [hcve] at hge hyL hnoL hbd
  obtain ⟨s, hs70⟩ : ∃ s : Int, 70 * (k : Int) = s := ⟨_, rfl⟩
  have s0 : 0 ≤ s := by omega
  have s1 : s ≤ 7000000 := by omega
  have s2 : 0 < s := by omega
  rw [hs70] at hcve hyL hnoL
  have hcv : Hid (cov r s = cv) := Lib.hid hcve
  have hadd : ∀ x : Nat, x ≤ 1000 → addI s x = s + x := fun x hx => addI_in (by unfold inI; omega)
  have hlow : Hid (cov r (s + ((L : Int) - 1)) < cv + 1) := Lib.hid (by have := hnoL (L - 1) (by omega); rwa [show ((L - 1 : Nat) : Int) = (L : Int) - 1 from by omega] at this)
  have hyL0 := Lib.hid hyL
  have hnoL0 := Lib.hid hnoL
  replace hyL : Hid (64 + cv - 64 + 1 ≤ cov r (addI s (L : Int))) := Lib.hid (by rw [hadd L (by omega)]; omega)
  replace hnoL : Hid (∀ x : Nat, x < L → cov r (addI s x) < 64 + cv - 64 + 1) := Lib.hid (fun x hx => by rw [hadd x (by omega)]; have := hnoL x hx; omega)
  have cw := fun w => whole_any s (by unfold inI; omega) w
  have cdv := fun w => div_any (wholeI s) r (clampI_in _) rI w
  have civ := fun w => int_any (divI (wholeI s) r) w
  have hci : intI (divI (wholeI s) r) = cv := hcve
  rw [hci] at civ
  generalize wholeI s = wv at *
  generalize divI wv r = dv at *
  have cn := new_any r rI w
  clear hy y0 y1 hcve hci hadd hyL0 hnoL0
  go_enter Try.func4, Try.ntmps4
  go_wp2_with fail
  with_reducible refine Calls.mono (cn) ?_
  rintro e w3 ⟨rfl, hs⟩
  have cd := new_any r rI w3
  clear cn
  go_wp2_with fail
  with_reducible refine Calls.mono (cd) ?_
  rintro e w4 ⟨rfl, hd4⟩
  obtain ⟨p, hp⟩ : ∃ p, w.heap.size = p := ⟨_, rfl⟩
  obtain ⟨q, hq⟩ : ∃ q, w3.heap.size = q := ⟨_, rfl⟩
  have hC : Hid (Cd w w4 w.heap.size w3.heap.size (home w.heap.size none) (home w3.heap.size none) r r 0 0 (fun _ => (0, 0)) (fun _ => (0, 0))) := Lib.hid ⟨hs.below hd4.out, from_ hd4 hs.out, fun k h1 h2 => by have := hs.lt h1; have := hd4.low k h2; omega⟩
  replace hp := Lib.hid hp
  replace hq := Lib.hid hq
  rw [hp.out, hq.out] at hC
  rw [hp.out, hq.out]
  clear cd hs hd4 em hr
  obtain ⟨m0, hm0⟩ : ∃ m0 : Int → Sm, (fun _ => ((0, 0) : Sm)) = m0 := ⟨_, rfl⟩
  have f0 : Hid (m0 0 = ((0 : Int), (0 : Int))) := Lib.hid (by rw [← hm0])
  have g0 : Hid (m0 0 = ((0 : Int), (0 : Int))) := f0
  rw [hm0] at hC
  obtain ⟨x0, hx0⟩ : ∃ x0, m0 = x0 := ⟨_, rfl⟩
  have hC : Hid (Cd w w4 p q (home p none) (home q none) r r 0 0 m0 x0) := by rw [← hx0]; exact hC
  rw [hx0] at g0
  clear hm0 hx0
  generalize home p none = H0 at *
  generalize home q none = K0 at *
  have e1 : (m0 0).1 = 0 := by rw [f0.out]
  have e2 : (m0 0).2 = 0 := by rw [f0.out]
  have ea : addI (0) (s) = s := by rw [addI_in (by unfold inI; omega)] <;> omega
  have cc := scan_any hC.out.c (g := 0) (by decide) (s) (by omega) (by unfold inI; omega) (by omega)
  rw [e1, e2, ea] at cc
  have f1 : Hid ((up m0 0 (0, s)) 0 = ((0 : Int), (s : Int))) := Lib.hid (up_same _ _ _)
  generalize up m0 0 (0, s) = m1 at *
  clear e1 e2 ea f0
  go_wp2_with fail
  with_reducible refine Calls.mono cc ?_
  rintro e wy ⟨rfl, H1, hw, hs⟩
  replace hC := Lib.hid (hC.out.left hw hs)
  clear cc hw hs

  have e1 : (x0 0).1 = 0 := by rw [g0.out]
  have e2 : (x0 0).2 = 0 := by rw [g0.out]
  have ea : addI (0) (s) = s := by rw [addI_in (by unfold inI; omega)] <;> omega
  have cc := scan_any hC.out.d (g := 0) (by decide) (s) (by omega) (by unfold inI; omega) (by omega)
  rw [e1, e2, ea] at cc
  have g2 : Hid ((up x0 0 (0, s)) 0 = ((0 : Int), (s : Int))) := Lib.hid (up_same _ _ _)
  generalize up x0 0 (0, s) = x2 at *
  clear e1 e2 ea g0
  go_wp2_with fail
  with_reducible refine Calls.mono cc ?_
  rintro e wy ⟨rfl, K2, hw, hs⟩
  replace hC := Lib.hid (hC.out.right hw hs)
  clear cc hw hs

  have e1 : (m1 0).1 = 0 := by rw [f1.out]
  have e2 : (m1 0).2 = s := by rw [f1.out]
  have ea : addI (0) ((k : Int)) = (k : Int) := by rw [addI_in (by unfold inI; omega)] <;> omega
  have cc := alloc_yes hC.out.c r0 (g := 0) (by decide) ((k : Int)) (by omega) (by unfold inI; omega) (by omega) (by rw [e1, e2, ea]; have := hcv.out; omega)
  rw [e1, e2, ea] at cc
  have f3 : Hid ((up m1 0 ((k : Int), s)) 0 = (((k : Int) : Int), (s : Int))) := Lib.hid (up_same _ _ _)
  generalize up m1 0 ((k : Int), s) = m3 at *
  clear e1 e2 ea f1
  go_wp2_with fail
  with_reducible refine Calls.mono cc ?_
  rintro e wy ⟨rfl, H3, hw, hs⟩
  replace hC := Lib.hid (hC.out.left hw hs)
  clear cc hw hs

  have e1 : (x2 0).1 = 0 := by rw [g2.out]
  have e2 : (x2 0).2 = s := by rw [g2.out]
  have ea : addI (0) ((k : Int)) = (k : Int) := by rw [addI_in (by unfold inI; omega)] <;> omega
  have cc := alloc_yes hC.out.d r0 (g := 0) (by decide) ((k : Int)) (by omega) (by unfold inI; omega) (by omega) (by rw [e1, e2, ea]; have := hcv.out; omega)
  rw [e1, e2, ea] at cc
  have g4 : Hid ((up x2 0 ((k : Int), s)) 0 = (((k : Int) : Int), (s : Int))) := Lib.hid (up_same _ _ _)
  generalize up x2 0 ((k : Int), s) = x4 at *
  clear e1 e2 ea g2
  go_wp2_with fail
  with_reducible refine Calls.mono cc ?_
  rintro e wy ⟨rfl, K4, hw, hs⟩
  replace hC := Lib.hid (hC.out.right hw hs)
  clear cc hw hs

  have cc := sums_any hC.out.c (g := 0) (by decide)
  rw [show (m3 0).1 = (k : Int) from by rw [f3.out], show (m3 0).2 = s from by rw [f3.out]] at cc
  go_wp2_with fail
  with_reducible refine Calls.mono cc ?_
  rintro e wy ⟨rfl, hb⟩
  replace hC := Lib.hid (hC.out.below hb)
  clear cc hb
  go_wp2_with fail
  with_reducible refine Calls.mono (cw _) ?_
  rintro e w6 ⟨rfl, q6, rfl⟩
  replace hC := Lib.hid (hC.out.below (below_drewN (Below.refl _ _) q6))
  generalize wy.drewN q6 = wy at *
  go_wp2_with fail
  with_reducible refine Calls.mono (cdv _) ?_
  rintro e w7 ⟨rfl, q7, rfl⟩
  replace hC := Lib.hid (hC.out.below (below_drewN (Below.refl _ _) q7))
  generalize wy.drewN q7 = wy at *
  go_wp2_with fail
  with_reducible refine Calls.mono (civ _) ?_
  rintro e w8 ⟨rfl, e8⟩
  subst e8
  clear cw cdv civ

  have e1 : (m3 0).1 = (k : Int) := by rw [f3.out]
  have e2 : (m3 0).2 = s := by rw [f3.out]
  have ea : addI ((k : Int)) (64 + cv - (k : Int)) = 64 + cv := by rw [addI_in (by unfold inI; omega)] <;> omega
  have cc := alloc_yes hC.out.c r0 (g := 0) (by decide) (64 + cv - (k : Int)) (by omega) (by unfold inI; omega) (by omega) (by rw [e1, e2, ea]; have := hcv.out; omega)
  rw [e1, e2, ea] at cc
  have f5 : Hid ((up m3 0 (64 + cv, s)) 0 = ((64 + cv : Int), (s : Int))) := Lib.hid (up_same _ _ _)
  generalize up m3 0 (64 + cv, s) = m5 at *
  clear e1 e2 ea f3
  go_wp2_with fail
  with_reducible refine Calls.mono cc ?_
  rintro e wy ⟨rfl, H5, hw, hs⟩
  replace hC := Lib.hid (hC.out.left hw hs)
  clear cc hw hs

  have e1 : (x4 0).1 = (k : Int) := by rw [g4.out]
  have e2 : (x4 0).2 = s := by rw [g4.out]
  have ea : addI ((k : Int)) (64 + cv - (k : Int)) = 64 + cv := by rw [addI_in (by unfold inI; omega)] <;> omega
  have cc := alloc_yes hC.out.d r0 (g := 0) (by decide) (64 + cv - (k : Int)) (by omega) (by unfold inI; omega) (by omega) (by rw [e1, e2, ea]; have := hcv.out; omega)
  rw [e1, e2, ea] at cc
  have g6 : Hid ((up x4 0 (64 + cv, s)) 0 = ((64 + cv : Int), (s : Int))) := Lib.hid (up_same _ _ _)
  generalize up x4 0 (64 + cv, s) = x6 at *
  clear e1 e2 ea g4
  go_wp2_with fail
  with_reducible refine Calls.mono cc ?_
  rintro e wy ⟨rfl, K6, hw, hs⟩
  replace hC := Lib.hid (hC.out.right hw hs)
  clear cc hw hs

  have e1 : (m5 0).1 = 64 + cv := by rw [f5.out]
  have e2 : (m5 0).2 = s := by rw [f5.out]
  have ea : addI (64 + cv) 1 = 64 + cv + 1 := by rw [addI_in (by unfold inI; omega)]
  have cc := alloc_no hC.out.c r0 (g := 0) (by decide) 1 (by omega) (by unfold inI; omega) (by rw [e1, e2, ea]; have := hcv.out; omega)
  clear e1 e2 ea
  go_wp2_with fail
  with_reducible refine Calls.mono cc ?_
  rintro e wy ⟨rfl, hb⟩
  replace hC := Lib.hid (hC.out.below hb)
  clear cc hb

  have cc := owed_any hC.out.c r0 (g := 0) (by decide) f5.out (by omega) L (by omega) hnoL.out hyL.out
  go_wp2_with fail
  with_reducible refine Calls.mono cc ?_
  rintro e wy ⟨rfl, hb⟩
  replace hC := Lib.hid (hC.out.below hb)
  clear cc hb

  have cc := owed_any hC.out.d r0 (g := 0) (by decide) g6.out (by omega) L (by omega) hnoL.out hyL.out
  go_wp2_with fail
  with_reducible refine Calls.mono cc ?_
  rintro e wy ⟨rfl, hb⟩
  replace hC := Lib.hid (hC.out.below hb)
  clear cc hb

  have L0 : ¬ ((L : Int) < 1) := by omega
  by_cases hL1 : L = 1
  · have hLe : Hid (L = 1) := Lib.hid hL1
    clear hL1
    have cc := scan_none (p := q) 0 ((L : Int) - 1) (by have := hLe.out; omega) wy
    go_wp2_with fail
    with_reducible refine Calls.mono cc ?_
    rintro e wz ⟨rfl, e2⟩
    subst e2
    clear cc
    have e1 : (x6 0).1 = 64 + cv := by rw [g6.out]
    have e2 : (x6 0).2 = s := by rw [g6.out]
    have ea : addI (64 + cv) 1 = 64 + cv + 1 := by rw [addI_in (by unfold inI; omega)]
    have cc := alloc_no hC.out.d r0 (g := 0) (by decide) 1 (by omega) (by unfold inI; omega) (by rw [e1, e2, ea]; have h9 := hlow.out; rw [show s + ((L : Int) - 1) = s from by have := hLe.out; omega] at h9; omega)
    clear e1 e2 ea
    go_wp2_with fail
    with_reducible refine Calls.mono cc ?_
    rintro e wy ⟨rfl, hb⟩
    replace hC := Lib.hid (hC.out.below hb)
    clear cc hb

    have hc := hC.out.c
    replace hC := Lib.hid hC.out.c
    clear hc
    have cc := bank_any hC.out ((L : Int) + 5) (by omega) (by unfold inI; omega)
    have ew5 : wrap64 ((L : Int) + 5) = (L : Int) + 5 := IntWalk.wrap64_in _ ⟨by omega, by omega⟩
    replace hC := Lib.hid hC
    clear hC
    go_wp2_with fail
    with_reducible refine Calls.mono cc ?_
    rintro e wy ⟨rfl, hs⟩
    have cs := steal_any hs r0 (g := 0) (by decide) f5.out (by omega) L (by omega) L1 hnoL.out hyL.out (by omega) (by unfold inI; omega) (by omega)
    rw [show (L : Int) + 5 - (L : Int) = 5 from by omega, show addI s (L : Int) = s + (L : Int) from addI_in (by unfold inI; omega)] at cs
    clear cc hs
    go_wp2_with fail
    with_reducible refine Calls.mono cs ?_
    rintro e wy ⟨rfl, H9, hs⟩
    have hm9 : Hid ((up m5 0 (64 + cv, s + (L : Int))) 0 = (64 + cv, s + (L : Int))) := Lib.hid (up_same _ _ _)
    generalize up m5 0 (64 + cv, s + (L : Int)) = m9 at *
    replace hs := Lib.hid hs
    have ct := told_any wy
    clear cs
    go_wp2_with fail
    with_reducible refine Calls.mono ct ?_
    rintro e wz ⟨rfl, hb⟩
    have hs := hs.out.below hb
    have cb := banked_any hs
    replace hs := Lib.hid hs
    clear ct hb
    go_wp2_with fail
    with_reducible refine Calls.mono cb ?_
    rintro e wy ⟨rfl, e2⟩
    subst e2
    clear cb
    have hyz : Hid (64 + cv - 64 + 1 ≤ cov r (s + (L : Int))) := Lib.hid (by have := hyL.out; rwa [show addI s (L : Int) = s + (L : Int) from addI_in (by unfold inI; omega)] at this)
    have co := owed_any hs.out r0 (g := 0) (by decide) hm9.out (by omega) 0 (by omega) (fun x hx => by omega) (by rw [show addI (s + (L : Int)) ((0 : Nat) : Int) = s + (L : Int) from by rw [addI_in (by unfold inI; omega)]; omega]; exact hyz.out)
    go_wp2_with fail
    with_reducible refine Calls.mono co ?_
    rintro e wy ⟨rfl, hb⟩
    have hs := hs.out.below hb
    clear co hb
    have e1 : (m9 0).1 = 64 + cv := by rw [hm9.out]
    have e2 : (m9 0).2 = s + (L : Int) := by rw [hm9.out]
    have ea : addI (64 + cv) 1 = 64 + cv + 1 := by rw [addI_in (by unfold inI; omega)]
    have cc := alloc_yes hs r0 (g := 0) (by decide) 1 (by omega) (by unfold inI; omega) (by omega) (by rw [e1, e2, ea]; have := hyz.out; omega)
    replace hs := Lib.hid hs
    clear e1 e2 ea
    go_wp2_with fail
    with_reducible refine Calls.mono cc ?_
    rintro e wz ⟨rfl, Hz, -, hs⟩
    have hb := hs.out
    clear cc hs
    go_wp2_with fail
    go_ret
    exact ⟨rfl, hb⟩
  · have l1 : (0 : Int) < (L : Int) - 1 := by omega
    have e1 : (x6 0).1 = 64 + cv := by rw [g6.out]
    have e2 : (x6 0).2 = s := by rw [g6.out]
    have ea : addI (s) ((L : Int) - 1) = s + ((L : Int) - 1) := by rw [addI_in (by unfold inI; omega)] <;> omega
    have cc := scan_any hC.out.d (g := 0) (by decide) ((L : Int) - 1) (by omega) (by unfold inI; omega) (by omega)
    rw [e1, e2, ea] at cc
    have g7 : Hid ((up x6 0 (64 + cv, s + ((L : Int) - 1))) 0 = ((64 + cv : Int), (s + ((L : Int) - 1) : Int))) := Lib.hid (up_same _ _ _)
    generalize up x6 0 (64 + cv, s + ((L : Int) - 1)) = x7 at *
    clear e1 e2 ea g6
    go_wp2_with fail
    with_reducible refine Calls.mono cc ?_
    rintro e wy ⟨rfl, K7, hw, hs⟩
    replace hC := Lib.hid (hC.out.right hw hs)
    clear cc hw hs

    have e1 : (x7 0).1 = 64 + cv := by rw [g7.out]
    have e2 : (x7 0).2 = s + ((L : Int) - 1) := by rw [g7.out]
    have ea : addI (64 + cv) 1 = 64 + cv + 1 := by rw [addI_in (by unfold inI; omega)]
    have cc := alloc_no hC.out.d r0 (g := 0) (by decide) 1 (by omega) (by unfold inI; omega) (by rw [e1, e2, ea]; have h9 := hlow.out; omega)
    clear e1 e2 ea
    go_wp2_with fail
    with_reducible refine Calls.mono cc ?_
    rintro e wy ⟨rfl, hb⟩
    replace hC := Lib.hid (hC.out.below hb)
    clear cc hb

    have hc := hC.out.c
    replace hC := Lib.hid hC.out.c
    clear hc
    have cc := bank_any hC.out ((L : Int) + 5) (by omega) (by unfold inI; omega)
    have ew5 : wrap64 ((L : Int) + 5) = (L : Int) + 5 := IntWalk.wrap64_in _ ⟨by omega, by omega⟩
    replace hC := Lib.hid hC
    clear hC
    go_wp2_with fail
    with_reducible refine Calls.mono cc ?_
    rintro e wy ⟨rfl, hs⟩
    have cs := steal_any hs r0 (g := 0) (by decide) f5.out (by omega) L (by omega) L1 hnoL.out hyL.out (by omega) (by unfold inI; omega) (by omega)
    rw [show (L : Int) + 5 - (L : Int) = 5 from by omega, show addI s (L : Int) = s + (L : Int) from addI_in (by unfold inI; omega)] at cs
    clear cc hs
    go_wp2_with fail
    with_reducible refine Calls.mono cs ?_
    rintro e wy ⟨rfl, H9, hs⟩
    have hm9 : Hid ((up m5 0 (64 + cv, s + (L : Int))) 0 = (64 + cv, s + (L : Int))) := Lib.hid (up_same _ _ _)
    generalize up m5 0 (64 + cv, s + (L : Int)) = m9 at *
    replace hs := Lib.hid hs
    have ct := told_any wy
    clear cs
    go_wp2_with fail
    with_reducible refine Calls.mono ct ?_
    rintro e wz ⟨rfl, hb⟩
    have hs := hs.out.below hb
    have cb := banked_any hs
    replace hs := Lib.hid hs
    clear ct hb
    go_wp2_with fail
    with_reducible refine Calls.mono cb ?_
    rintro e wy ⟨rfl, e2⟩
    subst e2
    clear cb
    have hyz : Hid (64 + cv - 64 + 1 ≤ cov r (s + (L : Int))) := Lib.hid (by have := hyL.out; rwa [show addI s (L : Int) = s + (L : Int) from addI_in (by unfold inI; omega)] at this)
    have co := owed_any hs.out r0 (g := 0) (by decide) hm9.out (by omega) 0 (by omega) (fun x hx => by omega) (by rw [show addI (s + (L : Int)) ((0 : Nat) : Int) = s + (L : Int) from by rw [addI_in (by unfold inI; omega)]; omega]; exact hyz.out)
    go_wp2_with fail
    with_reducible refine Calls.mono co ?_
    rintro e wy ⟨rfl, hb⟩
    have hs := hs.out.below hb
    clear co hb
    have e1 : (m9 0).1 = 64 + cv := by rw [hm9.out]
    have e2 : (m9 0).2 = s + (L : Int) := by rw [hm9.out]
    have ea : addI (64 + cv) 1 = 64 + cv + 1 := by rw [addI_in (by unfold inI; omega)]
    have cc := alloc_yes hs r0 (g := 0) (by decide) 1 (by omega) (by unfold inI; omega) (by omega) (by rw [e1, e2, ea]; have := hyz.out; omega)
    replace hs := Lib.hid hs
    clear e1 e2 ea
    go_wp2_with fail
    with_reducible refine Calls.mono cc ?_
    rintro e wz ⟨rfl, Hz, -, hs⟩
    have hb := hs.out
    clear cc hs
    go_wp2_with fail
    go_ret
    exact ⟨rfl, hb⟩

set_option maxRecDepth 100000 in
theorem lifted (os : Os) (started : os.Started) (H : Type) (enc : TypeId × Value → H) :
    ReturnsInHanded {} Try.checked os 4 .any (Rows.creditPaysSpec.pre6 enc Try.prog Try.f4 Rows.creditPaysRow.domain false) (Rows.creditPaysSpec.post enc Try.prog Try.f4 false true false false) := by
  refine returnsInHanded_of_change (C := Try.checked) own started (by kernel_rfl) Try.func4
    (ChangeSpec.witness6 (enc := enc) (C := Try.checked) false ⟨#[], #[.int .i64 0, .int .i64 0], []⟩ 8 (by kernel_rfl) (by kernel_rfl) (by kernel_rfl) (by kernel_rfl)) ?_
  intro W base args ds gs before hval0 hW hcnd _
  have hval : ∀ (j : Nat) t v, Try.f4.params[j]? = some t → args[j]? = some v → Value.okWide Try.prog W .any base t v := hval0
  have hW' := hW
  obtain ⟨p, q, hA0, hV, rfl, hfz, hnd⟩ := hW
  have hA : DataW.TrodAll enc Try.prog W 0 (fun _ => true) true Try.f4.params.toList args.toList ds p := hA0
  rw [Try.params4] at hA hval
  obtain ⟨v0, vs0, d0, ds0, p0, q0, hargs, rfl, rfl, h0, r0⟩ := trodAll_cons hA
  obtain ⟨v1, vs1, d1, ds1, p1, q1, rfl, rfl, rfl, h1, r1⟩ := trodAll_cons r0
  obtain ⟨rfl, rfl, rfl⟩ := trodAll_nil r1
  obtain rfl : args = #[v0, v1] := by cases args; simp_all
  obtain ⟨rfl, rfl⟩ := trodVars_none hV
  obtain ⟨a0, rfl, rfl, rfl, w0⟩ := open_int Try.underlying2 (hval 0 2 v0 rfl rfl) h0
  obtain ⟨a1, rfl, rfl, rfl, w1⟩ := open_int Try.underlying3 (hval 1 3 v1 rfl rfl) h1
  clear hA0 hval0
  simp only [List.append_nil] at hW'
  refine (walk a0 a1 W w0 w1).mono fun e W' ⟨he, hg⟩ => ?_
  subst he
  exact ⟨_, rfl, post_of_kept (pa := _) (pv := []) hW' (fun _ _ _ => (trodAll_cons_mk (shut_bool Try.underlying4 _) trodAll_mk0)) (trodAll_cons_mk (shut_int Try.underlying2 w0) (trodAll_cons_mk (shut_int Try.underlying3 w1) trodAll_mk0)) (fun _ _ => rfl) (by simp) hg⟩

theorem over : Rows.creditPaysRow.holds Try.pinned (OpenSpec.ofChange Rows.creditPaysSpec) :=
  OpenClaim.holds_of_wide 4 Try.f4 rfl rfl rfl rfl rfl rfl rfl ⟨rfl, rfl, rfl, rfl, rfl⟩ rfl rfl rfl rfl rfl (by kernel_rfl) Try.func4 (by kernel_rfl)
    (of_decide_eq_true (by kernel_rfl)) (by unfold Func.isWrapper; first | (rw [if_pos (by decide +kernel)]; kernel_rfl) | (rw [if_neg (by decide +kernel)]; exact ⟨rfl, rfl⟩))
    (fun os started H enc _ => lifted os started H enc)

theorem proved : Rows.CreditPaysSaid :=
  over
#print axioms proved
end Go.Proofs.Ytmngaedcckjfoaa.creditPays
