/- Of any floats (at most 60) and any number up to 70 rate's Most tells so many, falling; fewer than are told are greater than the last one; all of them are all; RateOrder answers true. No further condition but the listed tables. -/
import Derived.Test.YtinlbenifmcgaaaDoorRateIns2
import Derived.WalkKit
import Derived.ProofKit
import Derived.OpenShut
import Derived.Test.YtinlbenifmcgaaaDoorTie
import Derived.Test.YtinlbenifmcgaaaDoorCards
import Derived.LaidMore
import Derived.Stop.Joined
import Derived.SevenTiedAt
import Derived.Deep.RegionHeld3
namespace Go.Proofs.YtinlbenifmcgaaaDoor.rateOrder
open Go.ChangeShapes Go.WideShapes Go.ChangeAt Go.WideElems Go.RowKit Go.Lib Fx Ho Gr Pr Fk Fl Ieee Hm
set_option linter.unusedVariables false

theorem own : ownKnob Tryd.prog.godebug = none := by kernel_rfl

theorem len_most {zs M : List Nat} {k : Nat} (h : MostOf zs k M) : M.length = min k zs.length := by obtain ⟨r, _, _, _, h4⟩ := h; exact h4
set_option maxRecDepth 100000 in
set_option maxHeartbeats 4000000 in
theorem walk (v0 : Value) (z0 : List Nat) (a1 : Int) (w : World) (hT : Tab w) (h0 : Fls w v0 z0) (w1 : (Lit.int .i64 a1).wf = true) :
    Calls Tryd.prog 5 #[v0, .int .i64 a1] w fun e w' => e = .returned (.bool true) ∧ Below w.heap.size w w' := by

  have ct := fun (W : World) (hW : Below w.heap.size w W) => told_any (hT.below hW)
  have cf := few_any h0
  by_cases hz : z0.length ≤ 60
  · rw [decide_eq_true hz] at cf
    obtain ⟨Z, hZ⟩ : ∃ Z : Int, IntKind.u64.wrap a1 = Z := ⟨_, rfl⟩
    have z1 : 0 ≤ Z := by rw [← hZ, IntKind.wrap_u64]; omega
    obtain ⟨k, hk⟩ : ∃ k : Nat, Z % 71 = (k : Int) := ⟨(Z % 71).toNat, by omega⟩
    have hk1 : k ≤ 70 := by omega
    obtain ⟨l, hl⟩ : ∃ l, z0.length = l := ⟨_, rfl⟩
    have h0' := h0
    obtain ⟨⟨sp, cap, rfl, _, hi⟩, hwz⟩ := h0'
    rw [hl] at hi h0 cf hz ⊢
    obtain ⟨m, hm⟩ : ∃ m, min k l = m := ⟨_, rfl⟩
    have cm := fun (W : World) (hW : Below w.heap.size w W) (n : Int) => most_any (h0.below hW) (by omega) n
    replace cm : ∀ (W : World), Below w.heap.size w W → ∀ n : Int, Calls Tryd.prog 22 #[.slice sp l cap, .int .i64 n] W fun e w' => ∃ (M : List Nat) (s2 : Option Addr) (c2 : Nat), e = .returned (.slice s2 (min n.toNat l) c2) ∧ Hid (M.length = min n.toNat l) ∧ Hid (Fls w' (.slice s2 (min n.toNat l) c2) M) ∧ Hid (MostOf z0 n.toNat M) ∧ Hid (Below w.heap.size w w') := fun W hW n => (cm W hW n).mono fun e w' ⟨u, M, h1, h2, h3, h4⟩ => by
      have hlen := len_most h3
      rw [hl] at hlen
      have h2' := h2
      obtain ⟨⟨s2, c2, e2, _, _⟩, _⟩ := h2'
      rw [hlen] at e2
      subst e2
      exact ⟨M, s2, c2, h1, Lib.hid hlen, Lib.hid h2, Lib.hid h3, Lib.hid (hW.trans (h4.mono hW.size))⟩
    replace hi := Lib.hid hi
    replace hwz := Lib.hid hwz
    replace hl := Lib.hid hl
    have cmk := fun (W : World) (hW : Below w.heap.size w W) => cm W hW (k : Int)
    simp only [Int.toNat_natCast, hm] at cmk
    have hml : (m : Int) = min (k : Int) (l : Int) := by omega
    have hmin := run_min2 (P := Tryd.prog) hml.symm
    have hm60 : m ≤ 60 := by omega
    clear hm h0 hml
    go_enter Tryd.func5, Tryd.ntmps5
    go_wp2_with fail
    with_reducible refine Calls.mono (cf) ?_
    rintro e q1 ⟨rfl, rfl⟩
    clear cf
    go_wp2_with fail
    with_reducible refine Calls.mono (cmk _ (Below.refl _ _)) ?_
    rintro e q2 ⟨M, s2, c2, rfl, hM, hF, hMo, hB⟩
    have hiM := hF.out.1
    obtain ⟨s2', c2', e2, hcap, hi2⟩ := hiM
    injection e2 with e3 e4 e5
    subst e3 e5
    clear e4
    rw [hM.out] at hi2
    replace hi2 := Lib.hid hi2
    have hwm := Lib.hid hF.out.2
    have hbz := hB
    clear cmk hF
    go_wp2_with fail
    have hfall : Hid (∀ j, j + 1 < m → ¬ key (M.getD j 0) < key (M.getD (j + 1) 0)) := Lib.hid fun j hj => by
      obtain ⟨_, _, hf, _⟩ := hMo.out
      have := (List.pairwise_iff_getElem.1 hf) j (j + 1) (by rw [hM.out]; omega) (by rw [hM.out]; omega) (by omega)
      rw [Hm.getD_at (by rw [hM.out]; omega), Hm.getD_at (by rw [hM.out]; omega)]
      omega
    clear hmin
    go_loopw [7] (fun x wr => ∃ (j c : Nat), x = .int .i64 ((j : Int) + 1) ∧ (j + 1 ≤ m ∨ j = 0) ∧ wr = q2.drewN c) (fun x _ => (60 - (RowKit.intOf x).toNat))
    case atStart => exact ⟨0, 0, rfl, by omega, rfl⟩
    case round =>
      obtain ⟨j, c, rfl, hj, rfl⟩ := hrel
      by_cases hjm : j + 1 < m
      · obtain ⟨b, off, rfl, hb, hc1⟩ := hi2.out j (by omega)
        obtain ⟨b', off', e6, _, hc2⟩ := hi2.out (j + 1) hjm
        cases e6
        have cl := fun W => rless_any (M.getD j 0) (M.getD (j + 1) 0) (wf_get hwm.out j) (wf_get hwm.out (j + 1)) W
        rw [decide_eq_false (hfall.out j hjm)] at cl
        generalize M.getD j 0 = x at *
        generalize M.getD (j + 1) 0 = y at *
        obtain ⟨w1, hw1⟩ : ∃ w1, q2.drewN c = w1 := ⟨_, rfl⟩
        replace hc1 : w1.cell? ⟨b, off + j, none⟩ = some (.float .f64 x) := by rw [← hw1]; exact hc1
        replace hc2 : w1.cell? ⟨b, off + (j + 1), none⟩ = some (.float .f64 y) := by rw [← hw1]; exact hc2
        simp only [hw1]
        replace hw1 := Lib.hid hw1
        have i1 : (j : Int) + 1 < (m : Int) := by omega
        go_wp2_with fail
        go_quiet ((go_at_call 24; exact quiet_ans1 ((cl _).mono fun _ _ h => ⟨h.1, 0, h.2.symm⟩)))
        go_wp2_with fail
        go_roundw
        case rel => exact ⟨j + 1, _, by go_num, by omega, by rw [← hw1.out]; exact World.drewN_drewN _ _ _⟩
        case measure => simp [RowKit.intOf]; omega
      · have i1 : ¬ (j : Int) + 1 < (m : Int) := by omega
        have hnn : ∃ xm, (0 < m → xm = M.getD (m - 1) 0) := ⟨_, fun _ => rfl⟩
        obtain ⟨xm, hxm⟩ := hnn
        replace hxm := Lib.hid hxm
        have hcn : Hid (0 < m → z0.countP (fun b => decide (key xm < key b)) < m) := Lib.hid fun h0 => by
          have hx1 : xm ∈ M := by
            rw [hxm.out h0, Hm.getD_at (by rw [hM.out]; omega)]
            exact List.getElem_mem _
          have := count_most hMo.out hx1 (fun a ha => by
            obtain ⟨i, hi5, rfl⟩ := List.getElem_of_mem ha
            rw [hM.out] at hi5
            rw [hxm.out h0, Hm.getD_at (by rw [hM.out]; omega)]
            obtain ⟨_, _, hf, _⟩ := hMo.out
            rcases Nat.lt_or_ge i (m - 1) with h7 | h7
            · exact (List.pairwise_iff_getElem.1 hf) i (m - 1) (by rw [hM.out]; omega) (by rw [hM.out]; omega) h7
            · have e8 : i = m - 1 := by omega
              subst e8
              exact Int.le_refl _)
          rw [hM.out] at this
          exact this
        clear hfall hMo
        go_wp2_with fail
        go_loopw [8, 9] (fun g x wr => ∃ (i q c : Nat), g = .int .i64 q ∧ x = .int .i64 i ∧ i ≤ l ∧ q ≤ i ∧ wr = q2.drewN c ∧ Hid (0 < m → q = (z0.take i).countP (fun b => decide (key xm < key b))) ∧ Hid (m = 0 → q = 0)) (fun _ x _ => (60 - (RowKit.intOf x).toNat))
        case atStart => exact ⟨0, 0, c, rfl, rfl, by omega, by omega, rfl, Lib.hid fun _ => rfl, Lib.hid fun _ => rfl⟩
        case round =>
          obtain ⟨i, q, c, rfl, rfl, hil, hqi, rfl, hq, hq0⟩ := hrel
          by_cases hi6 : i < l ∧ 0 < m
          · obtain ⟨hi6, hm0⟩ := hi6
            obtain ⟨p, hp⟩ : ∃ p, m = p + 1 := ⟨m - 1, by omega⟩
            obtain ⟨b, off, rfl, hb, hc1⟩ := hi2.out p (by omega)
            obtain ⟨b2, off2, rfl, hb2, hc2⟩ := hi.out i hi6
            have hxp : M.getD p 0 = xm := by rw [hxm.out hm0, hp, Nat.add_sub_cancel]
            rw [hxp] at hc1
            obtain ⟨x, hx⟩ : ∃ x, z0.getD i 0 = x := ⟨_, rfl⟩
            rw [hx] at hc2
            have wxm : Wf xm := by rw [← hxp]; exact wf_get hwm.out p
            have wx : Wf x := by rw [← hx]; exact wf_get hwz.out i
            have cl := fun W => rless_any xm x wxm wx W
            have hct : (z0.take (i + 1)).countP (fun b => decide (key xm < key b)) = (z0.take i).countP (fun b => decide (key xm < key b)) + (if key xm < key x then 1 else 0) := by
              rw [List.take_succ_eq_append_getElem (by rw [hl.out]; exact hi6), List.countP_append, ← Hm.getD_at (d := 0) (by rw [hl.out]; exact hi6), hx]
              by_cases h9 : key xm < key x <;> simp [h9]
            obtain ⟨w1, hw1⟩ : ∃ w1, q2.drewN c = w1 := ⟨_, rfl⟩
            replace hc1 : w1.cell? ⟨b, off + p, none⟩ = some (.float .f64 xm) := by rw [← hw1]; exact hc1
            replace hc2 : w1.cell? ⟨b2, off2 + i, none⟩ = some (.float .f64 x) := by rw [← hw1, World.cell?_drewN]; exact cell_then hbz.out hc2
            simp only [hw1]
            replace hw1 := Lib.hid hw1
            have hmp : (m : Int) = (p : Int) + 1 := by omega
            have hmp2 : p < m := by omega
            replace hp := Lib.hid hp
            by_cases h9 : key xm < key x
            · rw [decide_eq_true h9] at cl
              rw [if_pos h9] at hct
              have hqn : Hid (0 < m → q + 1 = (z0.take (i + 1)).countP (fun b => decide (key xm < key b))) := Lib.hid fun h => by rw [hct, ← hq.out h]
              clear hct hx hxp h9
              go_wp2_with fail
              go_quiet ((go_at_call 24; exact quiet_ans1 ((cl _).mono fun _ _ h => ⟨h.1, 0, h.2.symm⟩)))
              go_wp2_with fail
              go_roundw
              case rel => exact ⟨i + 1, q + 1, _, by go_num, by go_num, by omega, by omega, by rw [← hw1.out]; exact World.drewN_drewN _ _ _, hqn, Lib.hid fun h => by omega⟩
              case measure => simp [RowKit.intOf]; omega
            · rw [decide_eq_false h9] at cl
              rw [if_neg h9] at hct
              have hqn : Hid (0 < m → q = (z0.take (i + 1)).countP (fun b => decide (key xm < key b))) := Lib.hid fun h => by rw [hct, ← hq.out h]; rfl
              clear hct hx hxp h9
              go_wp2_with fail
              go_quiet ((go_at_call 24; exact quiet_ans1 ((cl _).mono fun _ _ h => ⟨h.1, 0, h.2.symm⟩)))
              go_wp2_with fail
              go_roundw
              case rel => exact ⟨i + 1, q, _, rfl, by go_num, by omega, by omega, by rw [← hw1.out]; exact World.drewN_drewN _ _ _, hqn, Lib.hid fun h => by omega⟩
              case measure => simp [RowKit.intOf]; omega
          · have hq9 : 0 < m → q < m := fun h => by
              have e9 : i = l := by omega
              have := hcn.out h
              rw [hq.out h, e9, List.take_of_length_le (by rw [hl.out]; omega)]
              exact this
            by_cases h10 : i < l
            · have hm0 : m = 0 := by omega
              have hq1 : q = 0 := hq0.out hm0
              subst hq1
              have hmi : ¬ (0 : Int) < (m : Int) := by omega
              have hmi2 : (m : Int) = 0 := by omega
              clear hq9 hq hq0 hcn hxm hi hi2
              go_wp2_with fail
              with_reducible refine Calls.mono (ct _ (below_drewN hbz.out _)) ?_
              rintro e w3 ⟨rfl, hb3⟩
              have hB3 := Lib.hid ((below_drewN hbz.out c).trans (hb3.mono (below_drewN hbz.out c).size))
              clear ct hb3
              go_wp2_with fail
              with_reducible refine Calls.mono (cm _ hB3.out 100) ?_
              rintro e w4 ⟨M4, s4, c4, rfl, -, -, -, hB4⟩
              rw [show min (Int.toNat 100) l = l by have : Int.toNat 100 = 100 := rfl; omega]
              go_wp2_with fail
              with_reducible refine Calls.mono (cm _ hB4.out 0) ?_
              rintro e w5 ⟨M5, s5, c5, rfl, -, -, -, hB5⟩
              rw [show min (Int.toNat 0) l = 0 by have : Int.toNat 0 = 0 := rfl; omega]
              go_wp2_with fail
              with_reducible refine Calls.mono (cm _ hB5.out (-1)) ?_
              rintro e w6 ⟨M6, s6, c6, rfl, -, -, -, hB6⟩
              rw [show min (Int.toNat (-1)) l = 0 by have : Int.toNat (-1) = 0 := rfl; omega]
              clear cm
              go_wp2_with fail
              go_ret
              exact ⟨rfl, hB6.out⟩
            · have h11 : ¬ (i : Int) < (l : Int) := by omega
              rcases Nat.eq_zero_or_pos m with hm0 | hm0
              · have hq1 : q = 0 := hq0.out hm0
                subst hq1
                have hmi : ¬ (0 : Int) < (m : Int) := by omega
                clear hq9 hq hq0 hcn hxm hi hi2
                go_wp2_with fail
                with_reducible refine Calls.mono (ct _ (below_drewN hbz.out _)) ?_
                rintro e w3 ⟨rfl, hb3⟩
                have hB3 := Lib.hid ((below_drewN hbz.out c).trans (hb3.mono (below_drewN hbz.out c).size))
                clear ct hb3
                go_wp2_with fail
                with_reducible refine Calls.mono (cm _ hB3.out 100) ?_
                rintro e w4 ⟨M4, s4, c4, rfl, -, -, -, hB4⟩
                rw [show min (Int.toNat 100) l = l by have : Int.toNat 100 = 100 := rfl; omega]
                go_wp2_with fail
                with_reducible refine Calls.mono (cm _ hB4.out 0) ?_
                rintro e w5 ⟨M5, s5, c5, rfl, -, -, -, hB5⟩
                rw [show min (Int.toNat 0) l = 0 by have : Int.toNat 0 = 0 := rfl; omega]
                go_wp2_with fail
                with_reducible refine Calls.mono (cm _ hB5.out (-1)) ?_
                rintro e w6 ⟨M6, s6, c6, rfl, -, -, -, hB6⟩
                rw [show min (Int.toNat (-1)) l = 0 by have : Int.toNat (-1) = 0 := rfl; omega]
                clear cm
                go_wp2_with fail
                go_ret
                exact ⟨rfl, hB6.out⟩
              · have hq2 : (q : Int) < (m : Int) := by have := hq9 hm0; omega
                have hmi : (0 : Int) < (m : Int) := by omega
                clear hq9 hq hq0 hcn hxm hi hi2
                go_wp2_with fail
                with_reducible refine Calls.mono (ct _ (below_drewN hbz.out _)) ?_
                rintro e w3 ⟨rfl, hb3⟩
                have hB3 := Lib.hid ((below_drewN hbz.out c).trans (hb3.mono (below_drewN hbz.out c).size))
                clear ct hb3
                go_wp2_with fail
                with_reducible refine Calls.mono (cm _ hB3.out 100) ?_
                rintro e w4 ⟨M4, s4, c4, rfl, -, -, -, hB4⟩
                rw [show min (Int.toNat 100) l = l by have : Int.toNat 100 = 100 := rfl; omega]
                go_wp2_with fail
                with_reducible refine Calls.mono (cm _ hB4.out 0) ?_
                rintro e w5 ⟨M5, s5, c5, rfl, -, -, -, hB5⟩
                rw [show min (Int.toNat 0) l = 0 by have : Int.toNat 0 = 0 := rfl; omega]
                go_wp2_with fail
                with_reducible refine Calls.mono (cm _ hB5.out (-1)) ?_
                rintro e w6 ⟨M6, s6, c6, rfl, -, -, -, hB6⟩
                rw [show min (Int.toNat (-1)) l = 0 by have : Int.toNat (-1) = 0 := rfl; omega]
                clear cm
                go_wp2_with fail
                go_ret
                exact ⟨rfl, hB6.out⟩
  · rw [decide_eq_false hz] at cf
    clear hz h0
    go_enter Tryd.func5, Tryd.ntmps5
    go_wp2_with fail
    with_reducible refine Calls.mono (cf) ?_
    rintro e q1 ⟨rfl, rfl⟩
    go_wp2_with fail
    with_reducible refine Calls.mono (ct _ (Below.refl _ _)) ?_
    rintro e q2 ⟨rfl, hB⟩
    go_wp2_with fail
    go_ret
    exact ⟨rfl, hB⟩

set_option maxRecDepth 100000 in
theorem lifted (os : Os) (started : os.Started) (H : Type) (enc : TypeId × Value → H) :
    ReturnsInHanded {} Tryd.checked os 5 .any (fun w args => (Rows.rateOrderSpec.pre enc Tryd.prog Tryd.f5 [] false w args ∧ laidMetH Tryd.prog [("math/bits.deBruijn32tab", Rows.laid_math_bits_deBruijn32tab), ("math/bits.deBruijn64tab", Rows.laid_math_bits_deBruijn64tab), ("internal/strconv.uint64pow10", Rows.laid_internal_strconv_uint64pow10)] w) ∧ sizedMet enc Tryd.prog Tryd.f5 (OpenSpec.ofChange Rows.rateOrderSpec) false w args) (Rows.rateOrderSpec.post enc Tryd.prog Tryd.f5 false true false false) := by
  refine returnsInHanded_of_change_and (C := Tryd.checked) (X := fun w _ => laidMetH Tryd.prog [("math/bits.deBruijn32tab", Rows.laid_math_bits_deBruijn32tab), ("math/bits.deBruijn64tab", Rows.laid_math_bits_deBruijn64tab), ("internal/strconv.uint64pow10", Rows.laid_internal_strconv_uint64pow10)] w) (fun _ _ _ hh h => h.of_heap hh) own started (by kernel_rfl) Tryd.func5
    (ChangeSpec.witness_shaped (enc := enc) (C := Tryd.checked) (os := os) (X := fun w _ => laidMetH Tryd.prog [("math/bits.deBruijn32tab", Rows.laid_math_bits_deBruijn32tab), ("math/bits.deBruijn64tab", Rows.laid_math_bits_deBruijn64tab), ("internal/strconv.uint64pow10", Rows.laid_internal_strconv_uint64pow10)] w) false (World.doorLaid Tryd.prog 400 os) #[.slice none 0 0, .int .i64 0] 8 rfl (World.shaped_of_RefB (by kernel_rfl) (by kernel_rfl)) (by kernel_rfl) (by kernel_rfl) (by kernel_rfl) (door_met os _)) ?_
  intro W base args ds gs before hval0 hW _ _ hL _
  have hval : ∀ (j : Nat) t v, Tryd.f5.params[j]? = some t → args[j]? = some v → Value.okWide Tryd.prog W .any base t v := hval0
  have hW' := hW
  obtain ⟨p, q, hA0, hV, rfl, hfz, hnd⟩ := hW
  have hA : DataW.TrodAll enc Tryd.prog W 0 (fun _ => true) true Tryd.f5.params.toList args.toList ds p := hA0
  rw [Tryd.params5] at hA hval
  obtain ⟨v0, vs0, d0, ds0, p0, q0, hargs, rfl, rfl, h0, r0⟩ := trodAll_cons hA
  obtain ⟨v1, vs1, d1, ds1, p1, q1, rfl, rfl, rfl, h1, r1⟩ := trodAll_cons r0
  obtain ⟨rfl, rfl, rfl⟩ := trodAll_nil r1
  obtain rfl : args = #[v0, v1] := by cases args; simp_all
  obtain ⟨rfl, rfl⟩ := trodVars_none hV
  obtain ⟨z0, i0⟩ := fls_arg (hval 0 22 v0 rfl rfl) h0
  obtain ⟨a1, rfl, rfl, rfl, w1⟩ := open_int Tryd.underlying3 (hval 1 3 v1 rfl rfl) h1
  clear hA0 hval0
  simp only [List.append_nil] at hW'
  have lt0 : ∀ x ∈ p0, x.block < W.heap.size := fun x hx => by have := hW'.lt x (by simp [hx]); simpa using this
  refine (walk v0 z0 a1 W (tab_of_laid hL) i0 w1).mono fun e W' ⟨he, hg⟩ => ?_
  subst he
  exact ⟨_, rfl, post_of_kept (pa := _) (pv := []) hW' (fun _ _ _ => (trodAll_cons_mk (shut_bool Tryd.underlying4 _) trodAll_mk0)) (trodAll_cons_mk (Below.trod laidOut (by kernel_rfl) (of_decide_eq_true (by kernel_rfl)) h0 hg lt0) (trodAll_cons_mk (shut_int Tryd.underlying3 w1) trodAll_mk0)) (fun _ _ => rfl) (by simp) hg⟩

theorem over : Rows.rateOrderRow.holds Tryd.pinned (OpenSpec.ofChange Rows.rateOrderSpec) :=
  OpenClaim.holds_of_wide 5 Tryd.f5 rfl rfl rfl rfl rfl rfl rfl ⟨rfl, rfl, rfl, rfl, rfl⟩ rfl rfl rfl rfl rfl (by kernel_rfl) Tryd.func5 (by kernel_rfl)
    (of_decide_eq_true (by kernel_rfl)) (by unfold Func.isWrapper; first | (rw [if_pos (by decide +kernel)]; kernel_rfl) | (rw [if_neg (by decide +kernel)]; exact ⟨rfl, rfl⟩))
    (fun os started H enc _ => lifted os started H enc)

theorem proved : Rows.RateOrderCardSaid :=
  Claim7.holds_tied_plain_at .later [] [.data, .data, .data] true Rows.rateOrderCard.stood.harness true
    over (fun _ h => by cases h) (by kernel_rfl) (fun _ h => by cases h) rateOrder_row_tie rfl ⟨rfl, rfl⟩ (by kernel_rfl) rfl
    (fun f fn hf hfn => by
      obtain rfl : f = 5 := Option.some.inj ((show Tryd.prog.funcNamed "treadmill/treadmilllaw31.RateOrder" = some 5 by kernel_rfl).symm.trans hf) |>.symm
      obtain rfl : fn = Tryd.f5 := (Option.some.inj (Tryd.func5.symm.trans hfn)).symm
      exact ⟨by kernel_rfl, fun j t ht => by
        rw [Tryd.params5] at ht
        have hm : t ∈ [22, 3] := by simpa using Array.mem_of_getElem? ht
        have hall : ([22, 3].all fun u => !Tryd.prog.wantsStandIn u) = true := by kernel_rfl
        exact (show Tryd.prog.wantsStandIn t = false by simpa using List.all_eq_true.1 hall t hm)⟩)
    (by kernel_rfl)
#print axioms proved
end Go.Proofs.YtinlbenifmcgaaaDoor.rateOrder
