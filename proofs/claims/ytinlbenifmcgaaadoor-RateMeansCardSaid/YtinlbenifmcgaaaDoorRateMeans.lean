/- For any slice of whole numbers and any whole number the statement RateMeans answers true and leaves its arguments as they were: the mean lies between the least and the greatest, NaN left out; more of the same turn nothing. No condition. -/
import Derived.Test.YtinlbenifmcgaaaDoorRateTold
import Derived.Test.YtinlbenifmcgaaaDoorFlArg
import Derived.Test.YtinlbenifmcgaaaDoorRateInt
import Derived.Test.YtinlbenifmcgaaaDoorMinMax
import Derived.WalkKit
import Derived.ProofKit
import Derived.OpenShut
import Derived.Test.YtinlbenifmcgaaaDoorTie
import Derived.Test.YtinlbenifmcgaaaDoorCards
import Derived.LaidMore
import Derived.Stop.Joined
import Derived.SevenTiedAt
import Derived.Deep.RegionHeld3
namespace Go.Proofs.YtinlbenifmcgaaaDoor.rateMeans
open Go.ChangeShapes Go.WideShapes Go.ChangeAt Go.WideElems Go.RowKit Go.Lib Fx Ho Gr Pr Fk Fl Ieee Hm
set_option linter.unusedVariables false

theorem own : ownKnob Tryd.prog.godebug = none := by kernel_rfl

theorem zero_any (W : World) : Calls Tryd.prog 26 #[] W (Still (.float .f64 0) W) := by
  go_enter Tryd.func26, Tryd.ntmps26
  go_wp2_with fail
  go_ret
  exact ⟨rfl, rfl⟩
/-- Of the first i numbers: the row of floats, its sum, the least and the greatest. -/
structure Rz (w wr : World) (v : Value) (zs : List Nat) (s lo hi : Int) (i : Nat) : Prop where
  row : GRow 1 wr v zs.length (fc zs)
  wf : ∀ x ∈ zs, Wf x
  sum : sumM zs = (some (floatOfInt .f64 s), i)
  lo1 : lo * i ≤ s
  hi1 : s ≤ hi * i
  abs : s.natAbs ≤ 1000 * i
  len : zs.length ≤ 2 * i
  low : Low w.heap.size (fun k => v.ownBlock = some k)
  bel : Below w.heap.size w wr
theorem Rz.add {w wr wb w5 : World} {v v2 : Value} {zs : List Nat} {s lo hi k lo' hi' : Int} {i : Nat} (h : Rz w wr v zs s lo hi i) (hi60 : i ≤ 60) (hk : k.natAbs ≤ 1000) (hlo : lo' ≤ lo ∧ lo' ≤ k) (hhi : hi ≤ hi' ∧ k ≤ hi') (hb : Below wr.heap.size wr wb) (g1 : GRow 1 w5 v2 (zs.length + 1) (fc zs ++ [.float .f64 (floatOfInt .f64 k)])) (g2 : Wrote (fun k => v.ownBlock = some k) wb (fun k => v2.ownBlock = some k) w5) : Rz w w5 v2 (zs ++ [floatOfInt .f64 k]) (s + k) lo' hi' (i + 1) ∧ zs.length + 1 ≤ 2 * i + 1 := by
  have ha := h.abs
  have hbb := h.bel.trans (hb.mono h.bel.size)
  refine ⟨⟨by rw [List.length_append, fc_app]; exact g1, fun x hx => ?_, sumM_int h.sum (by omega) (by omega) (by omega), ?_, ?_, by omega, by rw [List.length_append, List.length_singleton]; have := h.len; omega, g2.low h.low hbb.size, g2.below h.low hbb⟩, by have := h.len; omega⟩
  · rcases List.mem_append.1 hx with h1 | h1
    · exact h.wf x h1
    · rw [List.mem_singleton.1 h1]; exact wf_int k
  · have := Int.mul_le_mul_of_nonneg_right hlo.1 (show (0 : Int) ≤ i by omega)
    have h2 := h.lo1
    rw [Int.natCast_add, Int.mul_add]
    show lo' * i + lo' * 1 ≤ _
    omega
  · have := Int.mul_le_mul_of_nonneg_right hhi.1 (show (0 : Int) ≤ i by omega)
    have h2 := h.hi1
    rw [Int.natCast_add, Int.mul_add]
    show _ ≤ hi' * i + hi' * 1
    omega
theorem Rz.nan {w wr wb w5 : World} {v v2 : Value} {zs : List Nat} {s lo hi : Int} {i x : Nat} (h : Rz w wr v zs s lo hi i) (hl : zs.length + 1 ≤ 2 * i) (hx : isN x = true) (hwx : Wf x) (hb : Below wr.heap.size wr wb) (g1 : GRow 1 w5 v2 (zs.length + 1) (fc zs ++ [.float .f64 x])) (g2 : Wrote (fun k => v.ownBlock = some k) wb (fun k => v2.ownBlock = some k) w5) : Rz w w5 v2 (zs ++ [x]) s lo hi i := by
  have hbb := h.bel.trans (hb.mono h.bel.size)
  refine ⟨by rw [List.length_append, fc_app]; exact g1, fun y hy => ?_, by rw [sumM_nan hx]; exact h.sum, h.lo1, h.hi1, h.abs, by rw [List.length_append, List.length_singleton]; omega, g2.low h.low hbb.size, g2.below h.low hbb⟩
  rcases List.mem_append.1 hy with h1 | h1
  · exact h.wf y h1
  · rw [List.mem_singleton.1 h1]; exact hwx
set_option maxRecDepth 100000 in
set_option maxHeartbeats 4000000 in
theorem walk (v0 : Value) (z0 : List Int) (a1 : Int) (w : World) (hT : Tab w) (h0 : Ints w (fun k => k < w.heap.size) v0 z0) (w1 : (Lit.int .i64 a1).wf = true) :
    Calls Tryd.prog 9 #[v0, .int .i64 a1] w fun e w' => e = .returned (.bool true) ∧ Below w.heap.size w w' := by

  have ct := fun (W : World) (hW : Below w.heap.size w W) => told_any (hT.below hW)
  have h0' := h0
  obtain ⟨sp, cap, rfl, hm, hc⟩ := h0'
  go_enter Tryd.func9, Tryd.ntmps9
  by_cases hz : z0.length = 0 ∨ 60 < z0.length
  · replace hc := Lib.hid hc
    rcases hz with hz | hz
    · obtain rfl : z0 = [] := List.eq_nil_of_length_eq_zero hz
      go_wp2_with fail
      with_reducible refine Calls.mono (ct _ (Below.refl _ _)) ?_
      rintro e w2 ⟨rfl, hb⟩
      go_wp2_with fail
      go_ret
      exact ⟨rfl, hb⟩
    · have hbq : ((z0.length : Int) == 0) = false := by rw [beq_eq_false_iff_ne]; omega
      have hgt : decide (60 < (z0.length : Int)) = true := by rw [decide_eq_true_iff]; omega
      go_wp2_with fail
      with_reducible refine Calls.mono (ct _ (Below.refl _ _)) ?_
      rintro e w2 ⟨rfl, hb⟩
      go_wp2_with fail
      go_ret
      exact ⟨rfl, hb⟩
  · have hbq : ((z0.length : Int) == 0) = false := by rw [beq_eq_false_iff_ne]; omega
    have hgt : decide (60 < (z0.length : Int)) = false := by rw [decide_eq_false_iff_not]; omega
    have hz1 : 0 < z0.length := by omega
    have hz2 : z0.length ≤ 60 := by omega
    have hz3 : ¬ (z0.length : Int) = 0 := by omega
    have st : Hid (Rz w w (.slice none 0 0) [] 0 1001 (-1001) 0) := Lib.hid ⟨grow_nil 1 w, fun x hx => (by cases hx), sumM_nil, by omega, by omega, by omega, by simp, fun k hk => (by cases hk), Below.refl _ _⟩
    replace hT := Lib.hid hT
    go_wp2_with fail
    go_loopg [5, 6, 7, 8, 9] z0.length (fun g u5 u6 u7 u8 u9 wr => ∃ (zs : List Nat) (s lo hi : Int) (i : Nat) (s5 : Option Addr) (c5 : Nat), u5 = .slice s5 zs.length c5 ∧ u6 = .int .i64 s ∧ u7 = .int .i64 lo ∧ u8 = .int .i64 hi ∧ u9 = .int .i64 i ∧ i + g = z0.length ∧ (-1000 ≤ lo ∧ lo ≤ 1001) ∧ (-1001 ≤ hi ∧ hi ≤ 1000) ∧ Hid (Rz w wr (.slice s5 zs.length c5) zs s lo hi i))
    case atStart => exact ⟨[], 0, 1001, -1001, 0, none, 0, rfl, rfl, rfl, rfl, rfl, by omega, by omega, by omega, st⟩
    case round =>
      clear st
      obtain ⟨zs, s, lo, hi, i, s5, c5, rfl, rfl, rfl, rfl, rfl, hig, hlo, hhi, hR⟩ := hrel
      by_cases hi : i < z0.length
      · rename_i hiV
        obtain ⟨b, off, rfl, _, hlt, hcc⟩ := hc i hi
        replace hcc := cell_then hR.out.bel hcc
        have hsa := hR.out.abs
        have hln := hR.out.len
        obtain ⟨k, hk⟩ : ∃ k : Int, (z0.getD i 0).tmod 1001 = k := ⟨_, rfl⟩
        have hk1 : k.natAbs ≤ 1000 := by
          have := Int.natAbs_tmod (z0.getD i 0) 1001
          rw [hk] at this
          have h2 := Nat.mod_lt (z0.getD i 0).natAbs (show 0 < (1001 : Int).natAbs by decide)
          have h3 : (1001 : Int).natAbs = 1001 := rfl
          omega
        generalize z0.getD i 0 = zi at *
        clear hc
        obtain ⟨lo', hlo'⟩ : ∃ lo', min lo k = lo' := ⟨_, rfl⟩
        obtain ⟨hi', hhi'⟩ : ∃ hi', max hiV k = hi' := ⟨_, rfl⟩
        have add := fun wb v2 w5 hb g1 g2 => hR.out.add (k := k) (lo' := lo') (hi' := hi') (wb := wb) (v2 := v2) (w5 := w5) (by omega) hk1 (by omega) (by omega) hb g1 g2
        replace add := Lib.hid add
        have hrow := Lib.hid fun W (hW : Below wr.heap.size wr W) => hR.out.row.below hW
        have hbd : zs.length + 1 ≤ 1000000 := by omega
        have hws : IntKind.i64.wrap (s + k) = s + k := by rw [IntKind.wrap_i64]; omega
        have hlo2 : -1000 ≤ lo' ∧ lo' ≤ 1001 := by omega
        have hhi2 : -1001 ≤ hi' ∧ hi' ≤ 1000 := by omega
        have cz := zero_any
        have hs1 : ∀ W, (binOp .quo 23 (.float .f64 0) (.float .f64 0)).run Tryd.prog W = .ok (.float .f64 (nanB W 0 0)) W.drew := fun W => run_none four_quo 23 0 0 (by decide +kernel) W
        have hbd2 : zs.length + 1 + 1 ≤ 1000000 := by omega
        go_wp2_with (at_builtin; refine wpList_append_g rfl (.tmp 41) (.tmp 44) rfl rfl eltF (hrow.out _ (below_alloc (Below.refl _ _) _)) rfl rfl (src_one _ _) hbd ?_; intro v2 w5 g1 g2; obtain ⟨s6, c6, e6⟩ := g1.slice; subst e6; have hR2 := Lib.hid (add.out _ _ _ (below_alloc (Below.refl _ _) _) g1 g2); have hrow2 := Lib.hid fun W (hW : Below w5.heap.size w5 W) => g1.below hW; clear g1 g2 hrow add)
        · have nan := Lib.hid fun wb v3 w7 hb g3 g4 => hR2.out.1.nan (x := nanB w5 0 0) (wb := wb) (v2 := v3) (w5 := w7) (by rw [List.length_append, List.length_singleton]; have := hR2.out.2; omega) (nanB_ok w5 0 0).2 (nanB_ok w5 0 0).1 hb g3 g4
          obtain ⟨qn, hqn⟩ : ∃ qn, nanB w5 0 0 = qn := ⟨_, rfl⟩
          have hs2 := hs1 w5
          rw [hqn] at nan hs2
          clear hqn hs1
          have hsrc2 : Src Tryd.prog 1 22 (.slice (some ⟨w5.heap.size, 0, none⟩) 1 1) 1 [.float .f64 qn] (w5.alloc (.cells #[.float .f64 qn] 23)).drew := src_one qn w5.drew
          have hb2 : Below w5.heap.size w5 (w5.alloc (.cells #[.float .f64 qn] 23)).drew := (below_alloc (Below.refl _ _) _).drew
          with_reducible refine Calls.mono (cz _) ?_
          rintro e w6 ⟨rfl, rfl⟩
          go_wp2_with fail
          with_reducible refine Calls.mono (cz _) ?_
          rintro e w6 ⟨rfl, rfl⟩
          go_wp2_with (at_builtin; refine wpList_append_g rfl (.tmp 53) (.tmp 57) rfl rfl eltF (hrow2.out _ hb2) rfl rfl hsrc2 hbd2 ?_; intro v3 w7 g3 g4; obtain ⟨s7, c7, e7⟩ := g3.slice; subst e7; have hR3 := Lib.hid (nan.out _ _ _ hb2 (by rw [List.length_append, fc_app]; exact g3) g4); clear g3 g4 hrow2 nan)
          go_roundg (z0.length - (i + 1))
          case measure => omega
          case rel => exact ⟨zs ++ [floatOfInt .f64 k] ++ [qn], s + k, lo', hi', i + 1, s7, c7, by simp, by simp, by simp, by simp, by simp, by omega, hlo2, hhi2, Lib.hid (by rw [List.length_append, List.length_append]; exact hR3.out)⟩
        · go_roundg (z0.length - (i + 1))
          case measure => omega
          case rel => exact ⟨zs ++ [floatOfInt .f64 k], s + k, lo', hi', i + 1, s6, c6, by simp, by simp, by simp, by simp, by simp, by omega, hlo2, hhi2, Lib.hid (by rw [List.length_append]; exact hR2.out.1)⟩
      · rename_i hiV
        obtain rfl : i = z0.length := by omega
        have hsa := hR.out.abs
        have hln := hR.out.len
        obtain ⟨q, hq, ⟨o1, ho1, hn1⟩, ⟨o2, ho2, hn2⟩, hqq⟩ := quo_int (S := s) (lo := lo) (hi := hiV) (n := z0.length) (by omega) (by omega) (by omega) (by omega) (by omega) hR.out.lo1 hR.out.hi1
        have hF := Fls.of_row hR.out.row hR.out.wf
        have hmO : meanO zs = some q := by
          unfold meanO
          rw [hR.out.sum]
          exact hq
        have cm := mean_any hF (by omega)
        rw [hmO] at cm
        replace cm := cm.mono (R' := fun e w' => e = .returned (.float .f64 q) ∧ Below wr.heap.size wr w') fun e w' ⟨y, k, e1, e2, _, _, e3⟩ => ⟨by rw [e1, e3 q rfl], by rw [e2]; exact below_drewN (Below.refl _ _) k⟩
        have cs := fun W => share_any s z0.length W
        rw [hq] at cs
        replace cs : ∀ W, Calls Tryd.prog 13 #[.int .i64 s, .int .i64 z0.length] W fun e w' => e = .returned (.float .f64 q) ∧ Below W.heap.size W w' := fun W => (cs W).mono fun e w' ⟨y, k, e1, e2, _, _, e3⟩ => ⟨by rw [e1, e3 q rfl], by rw [e2]; exact below_drewN (Below.refl _ _) k⟩
        have hqr : ∀ W, (binOp .quo 23 (.float .f64 (floatOfInt .f64 s)) (.float .f64 (floatOfInt .f64 (z0.length : Int)))).run Tryd.prog W = .ok (.float .f64 q) W := fun W => run_float_arith W .quo 23 .f64 _ _ q hq
        replace hqq : FloatKind.f64.format.order q q = some .eq := hqq
        replace ho1 : FloatKind.f64.format.order q (floatOfInt .f64 lo) = some o1 := ho1
        replace ho2 : FloatKind.f64.format.order q (floatOfInt .f64 hiV) = some o2 := ho2
        have hbw := hR.out.bel
        clear hq hmO hF hc
        cases o1 with
        | lt => exact absurd rfl hn1
        | eq =>
          cases o2 with
          | gt => exact absurd rfl hn2
          | eq =>
            go_wp2_with fail
            with_reducible refine Calls.mono (cm) ?_
            rintro e w3 ⟨rfl, hb3⟩
            have hb4 := hbw.trans (hb3.mono hbw.size)
            go_wp2_with fail
            with_reducible refine Calls.mono (ct _ hb4) ?_
            rintro e w4 ⟨rfl, hb5⟩
            have hb6 := hb4.trans (hb5.mono hb4.size)
            go_wp2_with fail
            with_reducible refine Calls.mono (cs _) ?_
            rintro e w5 ⟨rfl, hb7⟩
            go_wp2_with fail
            go_ret
            exact ⟨rfl, hb6.trans (hb7.mono hb6.size)⟩
          | lt =>
            go_wp2_with fail
            with_reducible refine Calls.mono (cm) ?_
            rintro e w3 ⟨rfl, hb3⟩
            have hb4 := hbw.trans (hb3.mono hbw.size)
            go_wp2_with fail
            with_reducible refine Calls.mono (ct _ hb4) ?_
            rintro e w4 ⟨rfl, hb5⟩
            have hb6 := hb4.trans (hb5.mono hb4.size)
            go_wp2_with fail
            with_reducible refine Calls.mono (cs _) ?_
            rintro e w5 ⟨rfl, hb7⟩
            go_wp2_with fail
            go_ret
            exact ⟨rfl, hb6.trans (hb7.mono hb6.size)⟩
        | gt =>
          cases o2 with
          | gt => exact absurd rfl hn2
          | eq =>
            go_wp2_with fail
            with_reducible refine Calls.mono (cm) ?_
            rintro e w3 ⟨rfl, hb3⟩
            have hb4 := hbw.trans (hb3.mono hbw.size)
            go_wp2_with fail
            with_reducible refine Calls.mono (ct _ hb4) ?_
            rintro e w4 ⟨rfl, hb5⟩
            have hb6 := hb4.trans (hb5.mono hb4.size)
            go_wp2_with fail
            with_reducible refine Calls.mono (cs _) ?_
            rintro e w5 ⟨rfl, hb7⟩
            go_wp2_with fail
            go_ret
            exact ⟨rfl, hb6.trans (hb7.mono hb6.size)⟩
          | lt =>
            go_wp2_with fail
            with_reducible refine Calls.mono (cm) ?_
            rintro e w3 ⟨rfl, hb3⟩
            have hb4 := hbw.trans (hb3.mono hbw.size)
            go_wp2_with fail
            with_reducible refine Calls.mono (ct _ hb4) ?_
            rintro e w4 ⟨rfl, hb5⟩
            have hb6 := hb4.trans (hb5.mono hb4.size)
            go_wp2_with fail
            with_reducible refine Calls.mono (cs _) ?_
            rintro e w5 ⟨rfl, hb7⟩
            go_wp2_with fail
            go_ret
            exact ⟨rfl, hb6.trans (hb7.mono hb6.size)⟩

set_option maxRecDepth 100000 in
theorem lifted (os : Os) (started : os.Started) (H : Type) (enc : TypeId × Value → H) :
    ReturnsInHanded {} Tryd.checked os 9 .any (fun w args => (Rows.rateMeansSpec.pre enc Tryd.prog Tryd.f9 [] false w args ∧ laidMetH Tryd.prog [("math/bits.deBruijn32tab", Rows.laid_math_bits_deBruijn32tab), ("math/bits.deBruijn64tab", Rows.laid_math_bits_deBruijn64tab), ("internal/strconv.uint64pow10", Rows.laid_internal_strconv_uint64pow10)] w) ∧ sizedMet enc Tryd.prog Tryd.f9 (OpenSpec.ofChange Rows.rateMeansSpec) false w args) (Rows.rateMeansSpec.post enc Tryd.prog Tryd.f9 false true false false) := by
  refine returnsInHanded_of_change_and (C := Tryd.checked) (X := fun w _ => laidMetH Tryd.prog [("math/bits.deBruijn32tab", Rows.laid_math_bits_deBruijn32tab), ("math/bits.deBruijn64tab", Rows.laid_math_bits_deBruijn64tab), ("internal/strconv.uint64pow10", Rows.laid_internal_strconv_uint64pow10)] w) (fun _ _ _ hh h => h.of_heap hh) own started (by kernel_rfl) Tryd.func9
    (ChangeSpec.witness_shaped (enc := enc) (C := Tryd.checked) (os := os) (X := fun w _ => laidMetH Tryd.prog [("math/bits.deBruijn32tab", Rows.laid_math_bits_deBruijn32tab), ("math/bits.deBruijn64tab", Rows.laid_math_bits_deBruijn64tab), ("internal/strconv.uint64pow10", Rows.laid_internal_strconv_uint64pow10)] w) false (World.doorLaid Tryd.prog 400 os) #[.slice none 0 0, .int .i64 0] 8 rfl (World.shaped_of_RefB (by kernel_rfl) (by kernel_rfl)) (by kernel_rfl) (by kernel_rfl) (by kernel_rfl) (door_met os _)) ?_
  intro W base args ds gs before hval0 hW _ _ hL _
  have hval : ∀ (j : Nat) t v, Tryd.f9.params[j]? = some t → args[j]? = some v → Value.okWide Tryd.prog W .any base t v := hval0
  have hW' := hW
  obtain ⟨p, q, hA0, hV, rfl, hfz, hnd⟩ := hW
  have hA : DataW.TrodAll enc Tryd.prog W 0 (fun _ => true) true Tryd.f9.params.toList args.toList ds p := hA0
  rw [Tryd.params9] at hA hval
  obtain ⟨v0, vs0, d0, ds0, p0, q0, hargs, rfl, rfl, h0, r0⟩ := trodAll_cons hA
  obtain ⟨v1, vs1, d1, ds1, p1, q1, rfl, rfl, rfl, h1, r1⟩ := trodAll_cons r0
  obtain ⟨rfl, rfl, rfl⟩ := trodAll_nil r1
  obtain rfl : args = #[v0, v1] := by cases args; simp_all
  obtain ⟨rfl, rfl⟩ := trodVars_none hV
  obtain ⟨z0, i0⟩ := arg_ints (hval 0 44 v0 rfl rfl) h0
  obtain ⟨a1, rfl, rfl, rfl, w1⟩ := open_int Tryd.underlying3 (hval 1 3 v1 rfl rfl) h1
  clear hA0 hval0
  simp only [List.append_nil] at hW'
  have lt0 : ∀ x ∈ p0, x.block < W.heap.size := fun x hx => by have := hW'.lt x (by simp [hx]); simpa using this
  refine (walk v0 z0 a1 W (tab_of_laid hL) i0 w1).mono fun e W' ⟨he, hg⟩ => ?_
  subst he
  exact ⟨_, rfl, post_of_kept (pa := _) (pv := []) hW' (fun _ _ _ => (trodAll_cons_mk (shut_bool Tryd.underlying4 _) trodAll_mk0)) (trodAll_cons_mk (Below.trod laidOut (by kernel_rfl) (of_decide_eq_true (by kernel_rfl)) h0 hg lt0) (trodAll_cons_mk (shut_int Tryd.underlying3 w1) trodAll_mk0)) (fun _ _ => rfl) (by simp) hg⟩

theorem over : Rows.rateMeansRow.holds Tryd.pinned (OpenSpec.ofChange Rows.rateMeansSpec) :=
  OpenClaim.holds_of_wide 9 Tryd.f9 rfl rfl rfl rfl rfl rfl rfl ⟨rfl, rfl, rfl, rfl, rfl⟩ rfl rfl rfl rfl rfl (by kernel_rfl) Tryd.func9 (by kernel_rfl)
    (of_decide_eq_true (by kernel_rfl)) (by unfold Func.isWrapper; first | (rw [if_pos (by decide +kernel)]; kernel_rfl) | (rw [if_neg (by decide +kernel)]; exact ⟨rfl, rfl⟩))
    (fun os started H enc _ => lifted os started H enc)

theorem proved : Rows.RateMeansCardSaid :=
  Claim7.holds_tied_plain_at .later [] [.data, .data, .data] true Rows.rateMeansCard.stood.harness true
    over (fun _ h => by cases h) (by kernel_rfl) (fun _ h => by cases h) rateMeans_row_tie rfl ⟨rfl, rfl⟩ (by kernel_rfl) rfl
    (fun f fn hf hfn => by
      obtain rfl : f = 9 := Option.some.inj ((show Tryd.prog.funcNamed "treadmill/treadmilllaw31.RateMeans" = some 9 by kernel_rfl).symm.trans hf) |>.symm
      obtain rfl : fn = Tryd.f9 := (Option.some.inj (Tryd.func9.symm.trans hfn)).symm
      exact ⟨by kernel_rfl, fun j t ht => by
        rw [Tryd.params9] at ht
        have hm : t ∈ [44, 3] := by simpa using Array.mem_of_getElem? ht
        have hall : ([44, 3].all fun u => !Tryd.prog.wantsStandIn u) = true := by kernel_rfl
        exact (show Tryd.prog.wantsStandIn t = false by simpa using List.all_eq_true.1 hall t hm)⟩)
    (by kernel_rfl)
#print axioms proved
end Go.Proofs.YtinlbenifmcgaaaDoor.rateMeans
