/- For any whole numbers and any ratio the statement CreditApart answers true and leaves its arguments as they were: goroutines have credits apart; where there is no ratio all may allocate. No condition. -/
import Derived.Test.YtmngaedcckjfoaaHome
import Derived.Test.YtmngaedcckjfoaaCreditTold
import Derived.WalkKit
import Derived.ProofKit
import Derived.OpenShut
import Derived.Deep.RegionHeld3
import Derived.Deep.RegionWith
import Derived.Deep.Cut
import Derived.Deep.CutBlock
import Derived.Deep.CutRange
import Derived.Deep.LoopGhost
import Derived.Deep.DeepCutAuto
import Derived.RegionTactic
import Derived.StillTailTactics
namespace Go.Proofs.Ytmngaedcckjfoaa.creditApart
open Go.ChangeShapes Go.WideShapes Go.ChangeAt Go.WideElems Go.RowKit Go.Lib Fx Ho Cr Mp
set_option linter.unusedVariables false

theorem own : ownKnob Try.prog.godebug = none := by kernel_rfl

theorem run_min3 {x y z m : Int} (h : min (min x y) z = m) : ∀ (ts : Array TypeId) (t : TypeId) (w : World), (Builtin.min_ ts t #[.int .i64 x, .int .i64 y, .int .i64 z]).run Try.prog w = .ok (.int .i64 m) w := by
  intro ts t w
  subst h
  simp [Builtin.min_, Builtin.min2]
  repeat' split
  all_goals omega
theorem from_ {W0 W1 W : World} {p n : Nat} {H : Home} {r b : Int} {m : Int → Sm} (h : Sc W1 W p H r b n m) (hb : Below W0.heap.size W0 W1) : Sc W0 W p H r b n m := by
  obtain ⟨mp, h1, h2, h3, h4⟩ := h
  exact ⟨mp, h1, fun k hk => Nat.le_trans hb.size (h2 k hk), hb.trans (h3.mono hb.size), h4⟩
theorem addI_in {a b : Int} (h : inI (a + b)) : addI a b = a + b := clampI_id h
set_option maxRecDepth 100000 in
set_option maxHeartbeats 4000000 in
theorem walk (a0 : Int) (a1 : Int) (a2 : Int) (w : World) (w0 : (Lit.int .i64 a0).wf = true) (w1 : (Lit.int .i64 a1).wf = true) (w2 : (Lit.int .i64 a2).wf = true) :
    Calls Try.prog 5 #[.int .i64 a0, .int .i64 a1, .int .i64 a2] w fun e w' => e = .returned (.bool true) ∧ Below w.heap.size w w' := by
  obtain ⟨Z, hZ⟩ : ∃ Z : Int, IntKind.u64.wrap a0 = Z := ⟨_, rfl⟩
  have z1 : 0 ≤ Z := by rw [← hZ, IntKind.wrap_u64]; omega
  obtain ⟨Y, hY⟩ : ∃ Y : Int, IntKind.u64.wrap a1 = Y := ⟨_, rfl⟩
  have y1 : 0 ≤ Y := by rw [← hY, IntKind.wrap_u64]; omega
  obtain ⟨x, hx⟩ : ∃ x : Nat, Z % 65 = (x : Int) := ⟨(Z % 65).toNat, by omega⟩
  obtain ⟨y, hy⟩ : ∃ y : Nat, Y % 65 = (y : Int) := ⟨(Y % 65).toNat, by omega⟩
  have x64 : x ≤ 64 := by omega
  have y64 : y ≤ 64 := by omega
  obtain ⟨d, hd⟩ : ∃ d, min (min a2 (wrap64 (-a2))) 0 = d := ⟨_, rfl⟩
  have hmin := run_min3 hd
  have b2 := bounds_i64 w2
  have hw64 : -9223372036854775808 ≤ wrap64 (-a2) ∧ wrap64 (-a2) ≤ 9223372036854775807 := by unfold wrap64; omega
  have d0 : d ≤ 0 := by omega
  have dI : inI d := by unfold inI; omega
  have cn := new_any 1048576 (by unfold inI; omega) w
  clear hd hw64
  go_enter Try.func5, Try.ntmps5
  go_wp2_with fail
  with_reducible refine Calls.mono (cn) ?_
  rintro e w3 ⟨rfl, hs⟩
  have cd := new_any d dI w3
  clear cn
  go_wp2_with fail
  with_reducible refine Calls.mono (cd) ?_
  rintro e w4 ⟨rfl, hd4⟩
  obtain ⟨p, hp⟩ : ∃ p, w.heap.size = p := ⟨_, rfl⟩
  obtain ⟨q, hq⟩ : ∃ q, w3.heap.size = q := ⟨_, rfl⟩
  have hC : Hid (Cd w w4 w.heap.size w3.heap.size (home w.heap.size none) (home w3.heap.size none) 1048576 d 0 0 (fun _ => (0, 0)) (fun _ => (0, 0))) := Lib.hid ⟨hs.below hd4.out, from_ hd4 hs.out, fun k h1 h2 => by have := hs.lt h1; have := hd4.low k h2; omega⟩
  replace hp := Lib.hid hp
  replace hq := Lib.hid hq
  rw [hp.out, hq.out] at hC
  rw [hp.out, hq.out]
  clear cd hs hd4
  obtain ⟨m0N0, hm0⟩ : ∃ m0N0 : Int → Sm, (fun _ => ((0, 0) : Sm)) = m0N0 := ⟨_, rfl⟩
  rw [hm0] at hC
  have f1N0 : Hid (m0N0 1 = ((0 : Int), (0 : Int))) := Lib.hid (by rw [← hm0])
  have f2N0 : Hid (m0N0 2 = ((0 : Int), (0 : Int))) := Lib.hid (by rw [← hm0])
  have f3N0 : Hid (m0N0 3 = ((0 : Int), (0 : Int))) := Lib.hid (by rw [← hm0])
  replace hm0N0 := Lib.hid hm0
  generalize home p none = H at *
  generalize home q none = Hx at *
  have cz := cov0 1048576 (by decide)
  have ck : cov 1048576 1000 = 1000 := by decide
  replace cz := Lib.hid cz
  replace ck := Lib.hid ck
  have e1 : (m0N0 1).1 = 0 := by rw [f1N0.out]
  have e2 : (m0N0 1).2 = 0 := by rw [f1N0.out]
  have ea : addI (0) ((x : Int)) = (x : Int) := by rw [addI_in (by unfold inI; omega)]; omega
  have cc := alloc_yes hC.out.c (by decide) (g := 1) (by decide) ((x : Int)) (by omega) (by unfold inI; omega) (by omega) (by rw [e1, e2, ea, cz.out]; omega)
  rw [e1, e2, ea] at cc
  have f1N1 : Hid ((up m0N0 1 ((x : Int), 0)) 1 = ((((x : Int) : Int)), (0 : Int))) := Lib.hid (up_same _ _ _)
  have f2N1 : Hid ((up m0N0 1 ((x : Int), 0)) 2 = _) := Lib.hid ((up_ne _ _ (by decide)).trans f2N0.out)
  have f3N1 : Hid ((up m0N0 1 ((x : Int), 0)) 3 = _) := Lib.hid ((up_ne _ _ (by decide)).trans f3N0.out)
  generalize up m0N0 1 ((x : Int), 0) = m0N1 at *
  clear e1 e2 ea f1N0 f2N0 f3N0
  go_wp2_with fail
  with_reducible refine Calls.mono cc ?_
  rintro e wy ⟨rfl, HN1, hw, hs⟩
  replace hC := Lib.hid (hC.out.left hw hs)
  clear cc hw hs

  have e1 : (m0N1 2).1 = 0 := by rw [f2N1.out]
  have e2 : (m0N1 2).2 = 0 := by rw [f2N1.out]
  have ea : addI (0) ((y : Int)) = (y : Int) := by rw [addI_in (by unfold inI; omega)]; omega
  have cc := alloc_yes hC.out.c (by decide) (g := 2) (by decide) ((y : Int)) (by omega) (by unfold inI; omega) (by omega) (by rw [e1, e2, ea, cz.out]; omega)
  rw [e1, e2, ea] at cc
  have f2N2 : Hid ((up m0N1 2 ((y : Int), 0)) 2 = ((((y : Int) : Int)), (0 : Int))) := Lib.hid (up_same _ _ _)
  have f1N2 : Hid ((up m0N1 2 ((y : Int), 0)) 1 = _) := Lib.hid ((up_ne _ _ (by decide)).trans f1N1.out)
  have f3N2 : Hid ((up m0N1 2 ((y : Int), 0)) 3 = _) := Lib.hid ((up_ne _ _ (by decide)).trans f3N1.out)
  generalize up m0N1 2 ((y : Int), 0) = m0N2 at *
  clear e1 e2 ea f1N1 f2N1 f3N1
  go_wp2_with fail
  with_reducible refine Calls.mono cc ?_
  rintro e wy ⟨rfl, HN2, hw, hs⟩
  replace hC := Lib.hid (hC.out.left hw hs)
  clear cc hw hs

  have cc := alloc_neg (p := p) 1 (-1) (by decide) wy
  go_wp2_with fail
  with_reducible refine Calls.mono cc ?_
  rintro e wz ⟨rfl, e2⟩
  subst e2
  clear cc
  have e1 : (m0N2 1).1 = (x : Int) := by rw [f1N2.out]
  have e2 : (m0N2 1).2 = 0 := by rw [f1N2.out]
  have ea : addI 0 1000 = 1000 := by decide
  have cc := scan_any hC.out.c (g := 1) (by decide) 1000 (by decide) (by unfold inI; omega) (by omega)
  rw [e1, e2, ea] at cc
  have f1N3 : Hid ((up m0N2 1 ((x : Int), 1000)) 1 = ((x : Int), (1000 : Int))) := Lib.hid (up_same _ _ _)
  have f2N3 : Hid ((up m0N2 1 ((x : Int), 1000)) 2 = _) := Lib.hid ((up_ne _ _ (by decide)).trans f2N2.out)
  have f3N3 : Hid ((up m0N2 1 ((x : Int), 1000)) 3 = _) := Lib.hid ((up_ne _ _ (by decide)).trans f3N2.out)
  generalize up m0N2 1 ((x : Int), (1000 : Int)) = m0N3 at *
  clear e1 e2 ea f1N2 f2N2 f3N2
  go_wp2_with fail
  with_reducible refine Calls.mono cc ?_
  rintro e wz ⟨rfl, HN3, hw, hs⟩
  replace hC := Lib.hid (hC.out.left hw hs)
  clear cc hw hs
  have cc := scan_none (p := p) 2 (-5) (by decide) wz
  go_wp2_with fail
  with_reducible refine Calls.mono cc ?_
  rintro e wy ⟨rfl, e2⟩
  subst e2
  clear cc

  have cc := sums_any hC.out.c (g := 1) (by decide)
  rw [show (m0N3 1).1 = (x : Int) from by rw [f1N3.out], show (m0N3 1).2 = 1000 from by rw [f1N3.out]] at cc
  go_wp2_with fail
  with_reducible refine Calls.mono cc ?_
  rintro e wy ⟨rfl, hb⟩
  replace hC := Lib.hid (hC.out.below hb)
  clear cc hb

  have cc := sums_any hC.out.c (g := 2) (by decide)
  rw [show (m0N3 2).1 = (y : Int) from by rw [f2N3.out], show (m0N3 2).2 = 0 from by rw [f2N3.out]] at cc
  go_wp2_with fail
  with_reducible refine Calls.mono cc ?_
  rintro e wy ⟨rfl, hb⟩
  replace hC := Lib.hid (hC.out.below hb)
  clear cc hb

  have cc := sums_any hC.out.c (g := 3) (by decide)
  rw [show (m0N3 3).1 = 0 from by rw [f3N3.out], show (m0N3 3).2 = 0 from by rw [f3N3.out]] at cc
  go_wp2_with fail
  with_reducible refine Calls.mono cc ?_
  rintro e wy ⟨rfl, hb⟩
  replace hC := Lib.hid (hC.out.below hb)
  clear cc hb

  go_wp2_with fail
  go_loopw [17] (fun u wr => ∃ (j nx : Nat) (H Hx : Home) (mx : Int → Sm), u = .int .i64 j ∧ j ≤ 5 ∧ nx ≤ j ∧ Hid (Cd w wr p q H Hx 1048576 d (0 + 1 + 1 + 1) nx m0N3 mx)) (fun u _ => (5 - (RowKit.intOf u).toNat))
  case atStart => exact ⟨0, 0, _, Hx, _, rfl, by omega, by omega, hC⟩
  case round =>
    clear hC
    obtain ⟨j, nx, H, Hx, mx, rfl, j5, nj, hC⟩ := hrel
    by_cases hj : j < 5
    · have j2 : (j : Int) < 5 := by omega
      have cc := alloc_free hC.out.d d0 (g := 0) (by decide) 1099511627776 (by decide) (by unfold inI; omega) (by omega)
      generalize up mx 0 (addI (mx 0).1 1099511627776, (mx 0).2) = m2 at *
      go_wp2_with fail
      with_reducible refine Calls.mono cc ?_
      rintro e wy ⟨rfl, H1, hw, hs⟩
      have hC := Lib.hid (hC.out.right hw hs)
      clear cc hw hs
      have co := owed_free hC.out.d d0 0
      go_wp2_with fail
      with_reducible refine Calls.mono co ?_
      rintro e wz ⟨rfl, hb⟩
      have hC := Lib.hid (hC.out.below hb)
      clear co hb
      have co := steal_free hC.out.d d0 0
      go_wp2_with fail
      with_reducible refine Calls.mono co ?_
      rintro e wu ⟨rfl, hb⟩
      have hC := Lib.hid (hC.out.below hb)
      clear co hb
      go_wp2_with fail
      go_roundw
      case rel => exact ⟨j + 1, nx + 1, H, H1, m2, by go_num, by omega, by omega, hC⟩
      case measure => simp [RowKit.intOf]; omega
    · obtain rfl : j = 5 := by omega
      have ct := told_any wr
      go_wp2_with fail
      with_reducible refine Calls.mono ct ?_
      rintro e wy ⟨rfl, hb⟩
      replace hC := Lib.hid (hC.out.below hb)
      clear ct hb
      have e1 : (m0N3 1).1 = (x : Int) := by rw [f1N3.out]
      have e2 : (m0N3 1).2 = 1000 := by rw [f1N3.out]
      have ea : addI ((x : Int)) (1064 - (x : Int)) = 1064 := by rw [addI_in (by unfold inI; omega)]; omega
      have cc := alloc_yes hC.out.c (by decide) (g := 1) (by decide) (1064 - (x : Int)) (by omega) (by unfold inI; omega) (by omega) (by rw [e1, e2, ea, ck.out]; omega)
      rw [e1, e2, ea] at cc
      have f1N4 : Hid ((up m0N3 1 (1064, 1000)) 1 = (((1064 : Int)), (1000 : Int))) := Lib.hid (up_same _ _ _)
      have f2N4 : Hid ((up m0N3 1 (1064, 1000)) 2 = _) := Lib.hid ((up_ne _ _ (by decide)).trans f2N3.out)
      have f3N4 : Hid ((up m0N3 1 (1064, 1000)) 3 = _) := Lib.hid ((up_ne _ _ (by decide)).trans f3N3.out)
      generalize up m0N3 1 (1064, 1000) = m0N4 at *
      clear e1 e2 ea f1N3 f2N3 f3N3
      go_wp2_with fail
      with_reducible refine Calls.mono cc ?_
      rintro e wy ⟨rfl, HN4, hw, hs⟩
      replace hC := Lib.hid (hC.out.left hw hs)
      clear cc hw hs

      have e1 : (m0N4 1).1 = 1064 := by rw [f1N4.out]
      have e2 : (m0N4 1).2 = 1000 := by rw [f1N4.out]
      have ea : addI (1064) (1) = 1065 := by rw [addI_in (by unfold inI; omega)]; omega
      have cc := alloc_no hC.out.c (by decide) (g := 1) (by decide) (1) (by omega) (by unfold inI; omega) (by rw [e1, e2, ea, ck.out]; omega)
      clear e1 e2 ea
      go_wp2_with fail
      with_reducible refine Calls.mono cc ?_
      rintro e wy ⟨rfl, hb⟩
      replace hC := Lib.hid (hC.out.below hb)
      clear cc hb

      have e1 : (m0N4 2).1 = (y : Int) := by rw [f2N4.out]
      have e2 : (m0N4 2).2 = 0 := by rw [f2N4.out]
      have ea : addI ((y : Int)) (65 - (y : Int)) = 65 := by rw [addI_in (by unfold inI; omega)]; omega
      have cc := alloc_no hC.out.c (by decide) (g := 2) (by decide) (65 - (y : Int)) (by omega) (by unfold inI; omega) (by rw [e1, e2, ea, cz.out]; omega)
      clear e1 e2 ea
      go_wp2_with fail
      with_reducible refine Calls.mono cc ?_
      rintro e wy ⟨rfl, hb⟩
      replace hC := Lib.hid (hC.out.below hb)
      clear cc hb

      have e1 : (m0N4 2).1 = (y : Int) := by rw [f2N4.out]
      have e2 : (m0N4 2).2 = 0 := by rw [f2N4.out]
      have ea : addI ((y : Int)) (64 - (y : Int)) = 64 := by rw [addI_in (by unfold inI; omega)]; omega
      have cc := alloc_yes hC.out.c (by decide) (g := 2) (by decide) (64 - (y : Int)) (by omega) (by unfold inI; omega) (by omega) (by rw [e1, e2, ea, cz.out]; omega)
      rw [e1, e2, ea] at cc
      have f2N5 : Hid ((up m0N4 2 (64, 0)) 2 = (((64 : Int)), (0 : Int))) := Lib.hid (up_same _ _ _)
      have f1N5 : Hid ((up m0N4 2 (64, 0)) 1 = _) := Lib.hid ((up_ne _ _ (by decide)).trans f1N4.out)
      have f3N5 : Hid ((up m0N4 2 (64, 0)) 3 = _) := Lib.hid ((up_ne _ _ (by decide)).trans f3N4.out)
      generalize up m0N4 2 (64, 0) = m0N5 at *
      clear e1 e2 ea f1N4 f2N4 f3N4
      go_wp2_with fail
      with_reducible refine Calls.mono cc ?_
      rintro e wy ⟨rfl, HN5, hw, hs⟩
      replace hC := Lib.hid (hC.out.left hw hs)
      clear cc hw hs

      have hb := hC.out.c.out
      go_wp2_with fail
      go_ret
      exact ⟨rfl, hb⟩

set_option maxRecDepth 100000 in
theorem lifted (os : Os) (started : os.Started) (H : Type) (enc : TypeId × Value → H) :
    ReturnsInHanded {} Try.checked os 5 .any (Rows.creditApartSpec.pre6 enc Try.prog Try.f5 Rows.creditApartRow.domain false) (Rows.creditApartSpec.post enc Try.prog Try.f5 false true false false) := by
  refine returnsInHanded_of_change (C := Try.checked) own started (by kernel_rfl) Try.func5
    (ChangeSpec.witness6 (enc := enc) (C := Try.checked) false ⟨#[], #[.int .i64 0, .int .i64 0, .int .i64 0], []⟩ 8 (by kernel_rfl) (by kernel_rfl) (by kernel_rfl) (by kernel_rfl)) ?_
  intro W base args ds gs before hval0 hW hcnd _
  have hval : ∀ (j : Nat) t v, Try.f5.params[j]? = some t → args[j]? = some v → Value.okWide Try.prog W .any base t v := hval0
  have hW' := hW
  obtain ⟨p, q, hA0, hV, rfl, hfz, hnd⟩ := hW
  have hA : DataW.TrodAll enc Try.prog W 0 (fun _ => true) true Try.f5.params.toList args.toList ds p := hA0
  rw [Try.params5] at hA hval
  obtain ⟨v0, vs0, d0, ds0, p0, q0, hargs, rfl, rfl, h0, r0⟩ := trodAll_cons hA
  obtain ⟨v1, vs1, d1, ds1, p1, q1, rfl, rfl, rfl, h1, r1⟩ := trodAll_cons r0
  obtain ⟨v2, vs2, d2, ds2, p2, q2, rfl, rfl, rfl, h2, r2⟩ := trodAll_cons r1
  obtain ⟨rfl, rfl, rfl⟩ := trodAll_nil r2
  obtain rfl : args = #[v0, v1, v2] := by cases args; simp_all
  obtain ⟨rfl, rfl⟩ := trodVars_none hV
  obtain ⟨a0, rfl, rfl, rfl, w0⟩ := open_int Try.underlying3 (hval 0 3 v0 rfl rfl) h0
  obtain ⟨a1, rfl, rfl, rfl, w1⟩ := open_int Try.underlying3 (hval 1 3 v1 rfl rfl) h1
  obtain ⟨a2, rfl, rfl, rfl, w2⟩ := open_int Try.underlying2 (hval 2 2 v2 rfl rfl) h2
  clear hA0 hval0
  simp only [List.append_nil] at hW'
  refine (walk a0 a1 a2 W w0 w1 w2).mono fun e W' ⟨he, hg⟩ => ?_
  subst he
  exact ⟨_, rfl, post_of_kept (pa := _) (pv := []) hW' (fun _ _ _ => (trodAll_cons_mk (shut_bool Try.underlying4 _) trodAll_mk0)) (trodAll_cons_mk (shut_int Try.underlying3 w0) (trodAll_cons_mk (shut_int Try.underlying3 w1) (trodAll_cons_mk (shut_int Try.underlying2 w2) trodAll_mk0))) (fun _ _ => rfl) (by simp) hg⟩

theorem over : Rows.creditApartRow.holds Try.pinned (OpenSpec.ofChange Rows.creditApartSpec) :=
  OpenClaim.holds_of_wide 5 Try.f5 rfl rfl rfl rfl rfl rfl rfl ⟨rfl, rfl, rfl, rfl, rfl⟩ rfl rfl rfl rfl rfl (by kernel_rfl) Try.func5 (by kernel_rfl)
    (of_decide_eq_true (by kernel_rfl)) (by unfold Func.isWrapper; first | (rw [if_pos (by decide +kernel)]; kernel_rfl) | (rw [if_neg (by decide +kernel)]; exact ⟨rfl, rfl⟩))
    (fun os started H enc _ => lifted os started H enc)

theorem proved : Rows.CreditApartSaid :=
  over
#print axioms proved
end Go.Proofs.Ytmngaedcckjfoaa.creditApart
