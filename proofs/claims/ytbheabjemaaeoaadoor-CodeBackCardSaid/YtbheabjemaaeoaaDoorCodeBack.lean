/- Decode of Encode is the program; all bytes count: one less is told at the end, one more right behind (15.3): any program that may be. No further condition but the listed table. -/
import Derived.Test.YtbheabjemaaeoaaDoorHome
import Derived.Test.YtbheabjemaaeoaaDoorBackKit
import Derived.WalkKit
import Derived.ProofKit
import Derived.OpenShut
import Derived.Test.YtbheabjemaaeoaaDoorTie
import Derived.Test.YtbheabjemaaeoaaDoorCards
import Derived.LaidMore
import Derived.Stop.Joined
import Derived.SevenTiedAt
import Derived.Deep.RegionHeld3
import Derived.Deep.RegionWith
import Derived.Deep.Cut
import Derived.Deep.CutBlock
import Derived.Deep.CutRange
import Derived.Deep.LoopGhost
import Derived.Deep.DeepCutAuto
import Derived.RegionTactic
import Derived.StillTailTactics
import Derived.Deep.RegionLaw
namespace Go.Proofs.YtbheabjemaaeoaaDoor.codeBack
open Go.ChangeShapes Go.WideShapes Go.ChangeAt Go.WideElems Go.RowKit Go.Lib Fx Ho Gr Cd
set_option linter.unusedVariables false

theorem own : ownKnob Tryd.prog.godebug = none := by kernel_rfl

set_option maxRecDepth 100000 in
set_option maxHeartbeats 4000000 in
theorem walk (g0 : Int) (v0 : Value) (fs0 : List (List Ins)) (a1 : Int) (w : World) (hT : Tk w) (h0 : FRow w v0 fs0) (w1 : (Lit.int .u8 a1).wf = true) :
    Calls Tryd.prog 14 #[.agg #[.int .i64 g0, v0], .int .u8 a1] w fun e w' => e = .returned (.bool true) ∧ Below w.heap.size w w' := by
  have hcc := wf_u8 w1
  clear w1
  obtain ⟨sp, cap, rfl, -⟩ := h0.fix
  have hbU : Hid (Below w.heap.size w (w.alloc (.cells #[.int .i64 g0, .slice sp fs0.length cap] 49))) := Lib.hid (below_alloc (Below.refl _ _) _)
  have hC := heap_alloc_new w (.cells #[.int .i64 g0, .slice sp fs0.length cap] 49)
  have c0 : (w.alloc (.cells #[.int .i64 g0, .slice sp fs0.length cap] 49)).cell? ⟨w.heap.size, 0, none⟩ = some (.int .i64 g0) := cell_of hC rfl
  have c1 : (w.alloc (.cells #[.int .i64 g0, .slice sp fs0.length cap] 49)).cell? ⟨w.heap.size, 1, none⟩ = some (.slice sp fs0.length cap) := cell_of hC rfl
  have cg := great_any (h0.below hbU.out) g0
  have hall : Hid (∀ V, Below w.heap.size w V → Tk V ∧ FRow V (.slice sp fs0.length cap) fs0) := Lib.hid fun V hV => ⟨hT.below hV, h0.below hV⟩
  clear h0 hT
  obtain ⟨N, hN⟩ : ∃ N, w.heap.size = N := ⟨_, rfl⟩
  rw [hN] at c0 c1
  generalize fs0.length = m at *
  go_enter Tryd.func14, Tryd.ntmps14
  go_wp2_with fail
  obtain ⟨U, hU⟩ : ∃ U, w.alloc (.cells #[.int .i64 g0, .slice sp m cap] 49) = U := ⟨_, rfl⟩
  rw [hU] at hbU c0 c1 cg ⊢
  clear hU hC
  with_reducible refine Calls.mono cg ?_
  rintro e w1 ⟨rfl | rfl, hb1⟩
  · have hbw := Lib.hid (hbU.out.trans (hb1.mono hbU.out.size))
    have ct := told_any (hall.out w1 hbw.out).1
    clear cg hall c0 c1 hb1 hbU
    go_wp2_with fail
    with_reducible refine Calls.mono ct ?_
    rintro e w2 ⟨rfl, hb2⟩
    have hfin := hbw.out.trans (hb2.mono hbw.out.size)
    clear ct hb2 hbw
    go_wp2_with fail
    go_ret
    exact ⟨rfl, hfin⟩
  · have hbw := Lib.hid (hbU.out.trans (hb1.mono hbU.out.size))
    have ce := encode_any (hall.out w1 hbw.out).1 (hall.out w1 hbw.out).2 g0
    have c0 := cell_then hb1 c0
    have c1 := cell_then hb1 c1
    clear cg hb1 hbU
    go_wp2_with fail
    with_reducible refine Calls.mono ce ?_
    intro e w2 hE
    clear ce
    rcases hE with ⟨hm, v, rfl, hv⟩ | ⟨r, hm, hr, rfl, hb⟩
    case inr =>
      have hbw2 := Lib.hid (hbw.out.trans (hb.mono hbw.out.size))
      have cm := codemay_any (hall.out w2 hbw2.out).1 (hall.out w2 hbw2.out).2 g0
      have c0 := cell_then hb c0
      have c1 := cell_then hb c1
      clear hbw hb
      go_wp2_with fail
      with_reducible refine Calls.mono cm ?_
      rintro e w3 ⟨r', rfl, hm', hb3⟩
      obtain rfl : r' = r := hm'.one hm
      have hr1 : (r' == 0) = false := beq_eq_false_iff_ne.2 hr
      have hr2 : decide (r' = 0) = false := decide_eq_false hr
      have hbw3 := Lib.hid (hbw2.out.trans (hb3.mono hbw2.out.size))
      have ct := told_any (hall.out w3 hbw3.out).1
      clear cm hm' hm hbw2 hb3 c0 c1
      go_wp2_with fail
      with_reducible refine Calls.mono ct ?_
      rintro e w4 ⟨rfl, hb4⟩
      have hfin := hbw3.out.trans (hb4.mono hbw3.out.size)
      clear ct hbw3 hb4 hall
      go_wp2_with fail
      go_ret
      exact ⟨rfl, hfin⟩
    case inl =>
      have hbw2 := Lib.hid (hbw.out.trans (hv.low.mono hbw.out.size))
      have cm := codemay_any (hall.out w2 hbw2.out).1 (hall.out w2 hbw2.out).2 g0
      have c0 := cell_then hv.low c0
      have c1 := cell_then hv.low c1
      obtain ⟨L7, L5⟩ := enc_seven hm
      have hzz := Lib.hid (enc_bytes hm)
      have hD1 := Lib.hid (prog_whole hm)
      have hD2 := Lib.hid (prog_short hm)
      have hD3 := Lib.hid (prog_long hm a1)
      obtain ⟨ao, b, off, cap, rfl, hle, hmx, hcc2, _⟩ := hv.row.cell
      obtain ⟨rfl, _, _⟩ := hcc2 (by omega)
      clear hcc2
      have hrow := Lib.hid hv.row
      clear hv hbw
      generalize hEn : enc g0 fs0 = E at *
      obtain ⟨L, hL⟩ : ∃ L, E.length = L := ⟨_, rfl⟩
      have hrow : Hid (∀ V, Below w2.heap.size w2 V → GRow 1 V (.slice (some ⟨b, off, none⟩) L cap) L (u8s E)) := Lib.hid fun V hV => by rw [← hL]; exact hrow.out.below hV
      rw [hL] at L7 L5 hle hD2 hD3 ⊢
      replace hL := Lib.hid hL
      replace hEn := Lib.hid hEn
      go_wp2_with fail
      with_reducible refine Calls.mono cm ?_
      rintro e w3 ⟨r', rfl, hm', hb3⟩
      obtain rfl : r' = 0 := hm'.one hm
      have hbw3 := Lib.hid (hbw2.out.trans (hb3.mono hbw2.out.size))
      have cd1 := decode_any (hall.out w3 hbw3.out).1 (brow_of (zs := E) (by rw [hL.out]; exact hrow.out w3 hb3) hzz.out)
      have c0 := cell_then hb3 c0
      have c1 := cell_then hb3 c1
      replace hb3 := Lib.hid hb3
      clear cm hm' hbw2
      have l1 : ¬ (L : Int) < 7 := by omega
      have l2 : decide ((L : Int) < 7) = false := decide_eq_false l1
      go_wp2_with fail
      with_reducible refine Calls.mono cd1 ?_
      rintro e w4 (⟨G', fs', fv', hE1, rfl, hF, hb4⟩ | ⟨q, hE1, _⟩)
      case inr => rw [hD1.out] at hE1; cases hE1
      rw [hD1.out] at hE1
      cases hE1
      obtain ⟨sv, cv, rfl, -⟩ := hF.fix
      clear cd1 hD1
      obtain ⟨m2, hm2⟩ : ∃ m2, fs0.length = m2 := ⟨_, rfl⟩
      rw [hm2] at hF ⊢
      clear hm2
      obtain ⟨K, hK⟩ : ∃ K : Nat, K + 1 = L := ⟨L - 1, by omega⟩
      rw [show L - 1 = K by omega] at hD2
      have zK : (L : Int) - 1 = (K : Int) := by omega
      have K0 : (0 : Int) ≤ (K : Int) := by omega
      have K1 : K ≤ cap := by omega
      have K2 : (K : Int) ≤ (cap : Int) := by omega
      have hm9 : cap ≤ 9223372036854775807 := by unfold maxLen at hmx; exact hmx
      have hb4w := Lib.hid (hbw3.out.trans (hb4.mono hbw3.out.size))
      have hb42 := hb3.out.trans (hb4.mono hb3.out.size)
      have hb5 := below_alloc (Below.refl w4.heap.size w4) (.cells #[.int .i64 g0, .slice sv m2 cv] 49)
      have c0 := cell_then hb5 (cell_then hb4 c0)
      have c1 := cell_then hb5 (cell_then hb4 c1)
      have k7 := heap_alloc_new w4 (.cells #[.int .i64 g0, .slice sv m2 cv] 49)
      have q0 := cell_of k7 (j := 0) rfl
      have q1 := cell_of k7 (j := 1) rfl
      have hb52 := Lib.hid (hb42.trans (hb5.mono hb42.size))
      have hb5w := Lib.hid (hb4w.out.trans (hb5.mono hb4w.out.size))
      have hF5 := Lib.hid (hF.below hb5)
      have cd2 := decode_any (hall.out _ hb5w.out).1 (brow_take (zs := E) (k := K) (sp := some ⟨b, off, none⟩) (cap := cap) (by rw [hL.out]; exact hrow.out _ hb52.out) (by have := hL.out; omega) hzz.out)
      clear hF k7 hb42 hb5 hb3 hb4w hbw3 hb4
      obtain ⟨Q, hQ⟩ : ∃ Q, w4.heap.size = Q := ⟨_, rfl⟩
      rw [hQ] at q0 q1
      go_wp2_with fail
      obtain ⟨w5, hw5⟩ : ∃ w5, w4.alloc (.cells #[.int .i64 g0, .slice sv m2 cv] 49) = w5 := ⟨_, rfl⟩
      rw [hw5] at c0 c1 q0 q1 hb52 hb5w hF5 cd2 ⊢
      clear hw5 hQ
      with_reducible refine Calls.mono cd2 ?_
      rintro e w6 (⟨G', fs', fv', hE1, _⟩ | ⟨q, hE1, rfl, hb6⟩)
      case inl => rw [hD2.out] at hE1; cases hE1
      rw [hD2.out] at hE1
      cases hE1
      clear cd2 hD2
      have hb7 := below_alloc hb6 (.cells #[.int .i64 0, .slice none 0 0] 49)
      have s7 : (w6.alloc (.cells #[.int .i64 0, .slice none 0 0] 49)).heap.size = w6.heap.size + 1 := by show (w6.heap.push _).size = _; rw [Array.size_push]
      have hb8 := below_alloc hb7 (.cells #[] 5)
      have hN8 : w6.heap.size + 1 < ((w6.alloc (.cells #[.int .i64 0, .slice none 0 0] 49)).alloc (.cells #[] 5)).heap.size := by show _ < ((w6.alloc _).heap.push _).size; rw [Array.size_push, s7]; omega
      have hG : Hid (GRow 1 ((w6.alloc (.cells #[.int .i64 0, .slice none 0 0] 49)).alloc (.cells #[] 5)) (.slice (some ⟨w6.heap.size + 1, 0, none⟩) 0 0) 0 []) := Lib.hid (lit_row hN8)
      have hb82 := hb52.out.trans (hb8.mono hb52.out.size)
      have hsrc : Hid (Src Tryd.prog 1 62 (.slice (some ⟨b, off, none⟩) L cap) L (u8s E) ((w6.alloc (.cells #[.int .i64 0, .slice none 0 0] 49)).alloc (.cells #[] 5))) := Lib.hid (by have := src_grow (v := .slice (some ⟨b, off, none⟩) L cap) (zs := E) (w := ((w6.alloc (.cells #[.int .i64 0, .slice none 0 0] 49)).alloc (.cells #[] 5))) (by rw [hL.out]; exact hrow.out _ hb82) (by have := hL.out; omega); rw [hL.out] at this; exact this)
      have hn1 : 0 + L ≤ 1000000 := by omega
      have hn2 : L + 1 ≤ 1000000 := by omega
      have key : Hid (∀ v9 w9, GRow 1 w9 v9 (0 + L) ([] ++ u8s E) → Wrote (fun k => (Value.slice (some ⟨w6.heap.size + 1, 0, none⟩) 0 0).ownBlock = some k) ((w6.alloc (.cells #[.int .i64 0, .slice none 0 0] 49)).alloc (.cells #[] 5)) (fun k => v9.ownBlock = some k) w9 → (∃ s c, v9 = .slice s L c) ∧ Hid (GRow 1 (w9.alloc (.cells #[.int .u8 a1] 5)) v9 L (u8s E)) ∧ Hid (Src Tryd.prog 1 62 (.slice (some ⟨w9.heap.size, 0, none⟩) 1 1) 1 (u8s [a1]) (w9.alloc (.cells #[.int .u8 a1] 5))) ∧ Hid (∀ v11 w11, GRow 1 w11 v11 (L + 1) (u8s E ++ u8s [a1]) → Wrote (fun k => v9.ownBlock = some k) (w9.alloc (.cells #[.int .u8 a1] 5)) (fun k => v11.ownBlock = some k) w11 → (∃ s c, v11 = .slice s (L + 1) c) ∧ Hid (GRow 1 w11 v11 (E ++ [a1]).length (u8s (E ++ [a1])) ∧ Below w5.heap.size w5 w11))) := Lib.hid fun v9 w9 g1 g2 => by
        have hEb0 : Eb w5 ((w6.alloc (.cells #[.int .i64 0, .slice none 0 0] 49)).alloc (.cells #[] 5)) (.slice (some ⟨w6.heap.size + 1, 0, none⟩) 0 0) [] := ⟨hG.out, fun k hk => by obtain rfl : w6.heap.size + 1 = k := Option.some.inj hk; have := hb6.size; omega, hb8⟩
        have hEb1 := (hEb0.more (ys := E) (Below.refl _ _) (by rw [hL.out]; exact g1) g2).2
        rw [List.nil_append] at hEb1
        have hbA := below_alloc (Below.refl w9.heap.size w9) (.cells #[.int .u8 a1] 5)
        refine ⟨by have := hEb1.row.slice; rw [hL.out] at this; exact this, Lib.hid (by have := hEb1.row.below hbA; rw [hL.out] at this; exact this), Lib.hid (src_u8 (zs := [a1]) (heap_alloc_new _ _)), Lib.hid fun v11 w11 g3 g4 => ?_⟩
        have hEb2 := hEb1.more (ys := [a1]) hbA (by rw [hL.out]; exact g3) g4
        exact ⟨by have := hEb2.1; rw [List.length_append, hL.out] at this; exact this, Lib.hid ⟨hEb2.2.row, hEb2.2.low⟩⟩
      clear hb7 hb8 hb82 hN8
      obtain ⟨S, hS⟩ : ∃ S, w6.heap.size = S := ⟨_, rfl⟩
      rw [hS] at hG key
      go_wp2_with (at_builtin; first | (refine wpList_append_g rfl (.tmp 58) (.tmp 59) rfl rfl eltU8 hG.out rfl rfl hsrc.out hn1 ?_; intro v9 w9 g1 g2; have hk := key.out v9 w9 g1 g2; obtain ⟨⟨s9, c9, rfl⟩, hG2, hsrc2, key2⟩ := hk; clear key g1 g2 hG hsrc) | (refine wpList_append_g rfl (.tmp 60) (.tmp 62) rfl rfl eltU8 hG2.out rfl rfl hsrc2.out hn2 ?_; intro v11 w11 g3 g4; have hk := key2.out v11 w11 g3 g4; obtain ⟨⟨s11, c11, rfl⟩, hfin11⟩ := hk; clear key2 g3 g4 hG2 hsrc2))
      obtain ⟨hgr, hb11⟩ := hfin11.out
      have hb11w := Lib.hid (hb5w.out.trans (hb11.mono hb5w.out.size))
      have cd3 := decode_any (hall.out _ hb11w.out).1 (brow_of hgr (app_bytes hzz.out hcc))
      have c0 := cell_then hb11 c0
      have c1 := cell_then hb11 c1
      have q0 := cell_then hb11 q0
      have q1 := cell_then hb11 q1
      have hF11 := Lib.hid (hF5.out.below hb11)
      clear hfin11 hgr hb11 hb6 hF5 hb5w hb52 hrow
      go_wp2_with fail
      with_reducible refine Calls.mono cd3 ?_
      rintro e w12 (⟨G', fs', fv', hE1, _⟩ | ⟨q, hE1, rfl, hb12⟩)
      case inl => rw [hD3.out] at hE1; cases hE1
      rw [hD3.out] at hE1
      cases hE1
      clear cd3 hD3
      have hb13 := below_alloc hb12 (.cells #[.int .i64 0, .slice none 0 0] 49)
      have hb13w := Lib.hid (hb11w.out.trans (hb13.mono hb11w.out.size))
      have c0 := cell_then hb13 c0
      have c1 := cell_then hb13 c1
      have q0 := cell_then hb13 q0
      have q1 := cell_then hb13 q1
      have hF13 := Lib.hid (hF11.out.below hb13)
      have ct := told_any (hall.out _ hb13w.out).1
      clear hb12 hb13 hF11 hb11w
      go_wp2_with fail
      obtain ⟨w13, hw13⟩ : ∃ w13, w12.alloc (.cells #[.int .i64 0, .slice none 0 0] 49) = w13 := ⟨_, rfl⟩
      rw [hw13] at c0 c1 q0 q1 hb13w hF13 ct ⊢
      clear hw13
      with_reducible refine Calls.mono ct ?_
      rintro e w14 ⟨rfl, hb14⟩
      have hb14w := Lib.hid (hb13w.out.trans (hb14.mono hb13w.out.size))
      have c0 := cell_then hb14 c0
      have c1 := cell_then hb14 c1
      have q0 := cell_then hb14 q0
      have q1 := cell_then hb14 q1
      have cs := same_any (hall.out _ hb14w.out).2 (hF13.out.below hb14) g0
      clear ct hb14 hb13w hF13
      go_wp2_with fail
      with_reducible refine Calls.mono cs ?_
      rintro e w15 ⟨rfl, hb15⟩
      have hfin := hb14w.out.trans (hb15.mono hb14w.out.size)
      clear cs hb15 hb14w hall
      go_wp2_with fail
      go_ret
      exact ⟨rfl, hfin⟩

set_option maxRecDepth 100000 in
theorem lifted (os : Os) (started : os.Started) (H : Type) (enc : TypeId × Value → H) :
    ReturnsInHanded {} Tryd.checked os 14 .any (fun w args => (Rows.codeBackSpec.pre enc Tryd.prog Tryd.f14 [] false w args ∧ laidMetH Tryd.prog [("treadmill/code.takes", Rows.laid_treadmill_code_takes)] w) ∧ sizedMet enc Tryd.prog Tryd.f14 (OpenSpec.ofChange Rows.codeBackSpec) false w args) (Rows.codeBackSpec.post enc Tryd.prog Tryd.f14 false true false false) := by
  refine returnsInHanded_of_change_and (C := Tryd.checked) (X := fun w _ => laidMetH Tryd.prog [("treadmill/code.takes", Rows.laid_treadmill_code_takes)] w) (fun _ _ _ hh h => h.of_heap hh) own started (by kernel_rfl) Tryd.func14
    (ChangeSpec.witness_shaped (enc := enc) (C := Tryd.checked) (os := os) (X := fun w _ => laidMetH Tryd.prog [("treadmill/code.takes", Rows.laid_treadmill_code_takes)] w) false (World.doorLaid Tryd.prog 400 os) #[.agg #[.int .i64 0, .slice none 0 0], .int .u8 0] 8 rfl (World.shaped_of_RefB (by kernel_rfl) (by kernel_rfl)) (by kernel_rfl) (by kernel_rfl) (by kernel_rfl) (door_met os _)) ?_
  intro W base args ds gs before hval0 hW _ _ hL _
  have hval : ∀ (j : Nat) t v, Tryd.f14.params[j]? = some t → args[j]? = some v → Value.okWide Tryd.prog W .any base t v := hval0
  have hW' := hW
  obtain ⟨p, q, hA0, hV, rfl, hfz, hnd⟩ := hW
  have hA : DataW.TrodAll enc Tryd.prog W 0 (fun _ => true) true Tryd.f14.params.toList args.toList ds p := hA0
  rw [Tryd.params14] at hA hval
  obtain ⟨v0, vs0, d0, ds0, p0, q0, hargs, rfl, rfl, h0, r0⟩ := trodAll_cons hA
  obtain ⟨v1, vs1, d1, ds1, p1, q1, rfl, rfl, rfl, h1, r1⟩ := trodAll_cons r0
  obtain ⟨rfl, rfl, rfl⟩ := trodAll_nil r1
  obtain rfl : args = #[v0, v1] := by cases args; simp_all
  obtain ⟨rfl, rfl⟩ := trodVars_none hV
  obtain ⟨g0, fv0, fs0, rfl, i0⟩ := prog_arg (hval 0 49 v0 rfl rfl) h0
  obtain ⟨a1, rfl, rfl, rfl, w1⟩ := open_int Tryd.underlying5 (hval 1 5 v1 rfl rfl) h1
  clear hA0 hval0
  simp only [List.append_nil] at hW'
  have lt0 : ∀ x ∈ p0, x.block < W.heap.size := fun x hx => by have := hW'.lt x (by simp [hx]); simpa using this
  refine (walk g0 fv0 fs0 a1 W (tk_of_laid hL) i0 w1).mono fun e W' ⟨he, hg⟩ => ?_
  subst he
  exact ⟨_, rfl, post_of_kept (pa := _) (pv := []) hW' (fun _ _ _ => (trodAll_cons_mk (shut_bool Tryd.underlying4 _) trodAll_mk0)) (trodAll_cons_mk (Below.trod laidOut (by kernel_rfl) (of_decide_eq_true (by kernel_rfl)) h0 hg lt0) (trodAll_cons_mk (shut_int Tryd.underlying5 w1) trodAll_mk0)) (fun _ _ => rfl) (by simp) hg⟩

theorem over : Rows.codeBackRow.holds Tryd.pinned (OpenSpec.ofChange Rows.codeBackSpec) :=
  OpenClaim.holds_of_wide 14 Tryd.f14 rfl rfl rfl rfl rfl rfl rfl ⟨rfl, rfl, rfl, rfl, rfl⟩ rfl rfl rfl rfl rfl (by kernel_rfl) Tryd.func14 (by kernel_rfl)
    (of_decide_eq_true (by kernel_rfl)) (by unfold Func.isWrapper; first | (rw [if_pos (by decide +kernel)]; kernel_rfl) | (rw [if_neg (by decide +kernel)]; exact ⟨rfl, rfl⟩))
    (fun os started H enc _ => lifted os started H enc)

theorem proved : Rows.CodeBackCardSaid :=
  Claim7.holds_tied_plain_at .later [] [.data] true Rows.codeBackCard.stood.harness true
    over (fun _ h => by cases h) (by kernel_rfl) (fun _ h => by cases h) codeBack_row_tie rfl ⟨rfl, rfl⟩ (by kernel_rfl) rfl
    (fun f fn hf hfn => by
      obtain rfl : f = 14 := Option.some.inj ((show Tryd.prog.funcNamed "treadmill/treadmilllaw15.CodeBack" = some 14 by kernel_rfl).symm.trans hf) |>.symm
      obtain rfl : fn = Tryd.f14 := (Option.some.inj (Tryd.func14.symm.trans hfn)).symm
      exact ⟨by kernel_rfl, fun j t ht => by
        rw [Tryd.params14] at ht
        have hm : t ∈ [49, 5] := by simpa using Array.mem_of_getElem? ht
        have hall : ([49, 5].all fun u => !Tryd.prog.wantsStandIn u) = true := by kernel_rfl
        exact (show Tryd.prog.wantsStandIn t = false by simpa using List.all_eq_true.1 hall t hm)⟩)
    (by kernel_rfl)
#print axioms proved
end Go.Proofs.YtbheabjemaaeoaaDoor.codeBack
