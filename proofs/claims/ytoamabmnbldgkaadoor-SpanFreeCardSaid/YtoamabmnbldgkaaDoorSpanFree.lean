/- For any two whole numbers (a class, a place) the statement SpanFree answers true: marks of places that are not used are nothing, and a sweep of a span where nothing is used tells nothing. The library's table math/bits.deBruijn64tab lies as its initialiser lays it (tied by the card); no other condition. -/
import Derived.Test.YtoamabmnbldgkaaDoorSpanTold
import Derived.WalkKit
import Derived.ProofKit
import Derived.OpenShut
import Derived.Test.YtoamabmnbldgkaaDoorTie
import Derived.Test.YtoamabmnbldgkaaDoorCards
import Derived.LaidMore
import Derived.Stop.Joined
import Derived.SevenTiedAt
namespace Go.Proofs.YtoamabmnbldgkaaDoor.spanFree
open Go.ChangeShapes Go.WideShapes Go.ChangeAt Go.WideElems Go.RowKit Go.Lib Fx Bm Cl
set_option linter.unusedVariables false

theorem own : ownKnob Tryd.prog.godebug = none := by kernel_rfl

theorem free_mark (k : Nat) : ∃ V1 : Nat → Bool, ∀ (B : SB) (f c n : Nat),
    (∀ w, IsSpan w B f c n 0 (upd (fun _ => false) 0 true) (fun _ => false) → Calls Tryd.prog 28 #[.pointer (some ⟨B.p, 0, none⟩), .int .i64 k] w (Makes (.bool ((k : Int) == 0)) w B f c n 0 (upd (fun _ => false) 0 true) V1)) ∧
    (∀ w, IsSpan w B f c n 0 (upd (fun _ => false) 0 true) V1 → Calls Tryd.prog 38 #[.pointer (some ⟨B.p, 0, none⟩), .int .i64 k] w (Ans (.bool ((k : Int) == 0)) w)) ∧
    (∀ w, IsSpan w B f c n 0 (upd (fun _ => false) 0 true) V1 → Calls Tryd.prog 28 #[.pointer (some ⟨B.p, 0, none⟩), .int .i64 k] w (Makes (.bool false) w B f c n 0 (upd (fun _ => false) 0 true) V1)) := by
  by_cases hk : k = 0
  · subst hk
    refine ⟨upd (fun _ => false) 0 true, fun B f c n => ⟨fun w h => ?_, fun w h => ?_, fun w h => ?_⟩⟩
    · exact span_mark_yes 0 w h rfl
    · exact span_marked 0 w h
    · have := span_mark_yes 0 w h rfl
      rw [upd_same (show upd (fun _ => false) 0 true 0 = true from rfl)] at this
      exact this
  · have e : ((k : Int) == 0) = false := by rw [beq_eq_false_iff_ne]; omega
    have hU : hasI (upd (fun _ => false) 0 true) (k : Int) = false := by rw [hasI_nat']; unfold upd; rw [if_neg hk]
    rw [e]
    refine ⟨fun _ => false, fun B f c n => ⟨fun w h => span_mark_no _ w h hU, fun w h => ?_, fun w h => span_mark_no _ w h hU⟩⟩
    have := span_marked k w h
    rw [hasI_nat'] at this
    exact this
set_option maxRecDepth 100000 in
set_option maxHeartbeats 4000000 in
theorem walk (a0 : Int) (a1 : Int) (w : World) (hT : TabAt w) :
    Calls Tryd.prog 8 #[.int .i64 a0, .int .i64 a1] w fun e w' => e = .returned (.bool true) ∧ Below w.heap.size w w' := by
  obtain ⟨Y, hY⟩ : ∃ Y : Int, IntKind.u64.wrap a0 = Y := ⟨_, rfl⟩
  obtain ⟨Z, hZ⟩ : ∃ Z : Int, IntKind.u64.wrap a1 = Z := ⟨_, rfl⟩
  have y0 : 0 ≤ Y := by rw [← hY, IntKind.wrap_u64]; omega
  have z0 : 0 ≤ Z := by rw [← hZ, IntKind.wrap_u64]; omega
  obtain ⟨c, hc⟩ : ∃ c : Nat, Y % 16 = (c : Int) := ⟨(Y % 16).toNat, by omega⟩
  have hc15 : c ≤ 15 := by omega
  have hsl := slots_in (k := c) (by omega) (by omega)
  obtain ⟨n, hn⟩ : ∃ n : Nat, (n : Int) = slotsI c := ⟨(slotsI c).toNat, by omega⟩
  have n1 : 1 ≤ n ∧ n ≤ 64 := by omega
  have cnew := span_new 9 c n hc15 hn (by omega) (by omega) w
  obtain ⟨k, hk⟩ : ∃ k : Nat, Z % (n : Int) = (k : Int) := ⟨(Z % n).toNat, by have := Int.emod_nonneg Z (show (n : Int) ≠ 0 by omega); omega⟩
  have kn : (k : Int) ≤ 64 := by have := Int.emod_lt_of_pos Z (show (0 : Int) < n by omega); omega
  have k0 : (0 : Int) ≤ k := Int.natCast_nonneg k
  obtain ⟨V1, hV1⟩ := free_mark k
  have hno : nextI (fun _ => false) n 0 false = ((0 : Nat) : Int) := next_is (Nat.le_refl _) (by omega) rfl (fun r h1 h2 => by omega)
  have hm : (mem (swG (fun _ => false) (fun _ => false)) n).length = 0 := by rw [mem_len]; exact cnt_none fun i _ => rfl
  have hl : cnt (fun _ => false) n = 0 := cnt_none fun i _ => rfl
  have hlt := hT.lt
  clear hsl hn
  replace hno := Lib.hid hno
  replace hm := Lib.hid hm
  replace hl := Lib.hid hl
  replace hV1 := Lib.hid hV1
  go_enter Tryd.func8, Tryd.ntmps8
  go_wp2_with fail
  refine cnew.mono ?_
  rintro e w1 ⟨B, rfl, hb1, hlo, hs1⟩
  have hT1 := hT.below hb1
  have htl : 0 < B.lo := by omega
  clear cnew
  go_wp2_with fail
  with_reducible refine Calls.mono (span_mark_no a1 _ hs1 (by unfold hasI; simp)) ?_
  rintro e w2 ⟨rfl, ht, hs2⟩
  have hT2 := hT1.turned ht htl
  have hb2 := ht.below hb1 hlo
  clear hs1 hT1 hb1 ht
  go_wp2_with fail
  have cc := span_marked a1 _ hs2
  rw [show hasI (fun _ => false) a1 = false by unfold hasI; simp] at cc
  with_reducible refine Calls.mono cc ?_
  rintro e w' ⟨rfl, k1, rfl⟩
  have hs3 := hs2.drewN k1
  have hT3 := hT2.drewN k1
  have hb3 := below_drewN hb2 k1
  generalize w2.drewN k1 = w3 at *
  clear hs2 hT2 hb2 cc
  go_wp2_with fail
  have cc := span_used a1 _ hs3
  rw [show hasI (fun _ => false) a1 = false by unfold hasI; simp] at cc
  with_reducible refine Calls.mono cc ?_
  rintro e w' ⟨rfl, k2, rfl⟩
  have hs4 := hs3.drewN k2
  have hT4 := hT3.drewN k2
  have hb4 := below_drewN hb3 k2
  generalize w3.drewN k2 = w4 at *
  clear hs3 hT3 hb3 cc
  go_wp2_with fail
  have cc := span_full _ hs4 hT4
  rw [hno.out] at cc
  with_reducible refine Calls.mono cc ?_
  rintro e w' ⟨rfl, k3, rfl⟩
  have hs5 := hs4.drewN k3
  have hT5 := hT4.drewN k3
  have hb5 := below_drewN hb4 k3
  generalize w4.drewN k3 = w5 at *
  clear hs4 hT4 hb4 cc
  go_wp2_with fail
  with_reducible refine Calls.mono (span_sweep _ hs5 hT5 htl) ?_
  rintro e w6 ⟨v, rfl, ht, hs6, hv⟩
  have hT6 := hT5.turned ht htl
  have hb6 := ht.below hb5 hlo
  replace hs6 := hs6.of_same (w := w6) (U' := fun _ => false) (V' := fun _ => false) (fun _ => rfl) (fun _ => rfl)
  obtain ⟨sp, cap, rfl, _, _⟩ := hv
  rw [List.length_map, hm.out]
  clear hs5 hT5 hb5 ht
  go_wp2_with fail
  have cc := span_live _ hs6
  rw [hl.out] at cc
  with_reducible refine Calls.mono cc ?_
  rintro e w' ⟨rfl, k4, rfl⟩
  have hs7 := hs6.drewN k4
  have hT7 := hT6.drewN k4
  have hb7 := below_drewN hb6 k4
  generalize w6.drewN k4 = w7 at *
  clear hs6 hT6 hb6 cc
  go_wp2_with fail
  with_reducible refine Calls.mono (span_alloc_white 0 _ hs7 hT7 htl hno.out (by omega)) ?_
  rintro e w8 ⟨rfl, ht, hs8⟩
  have hT8 := hT7.turned ht htl
  have hb8 := ht.below hb7 hlo
  clear hs7 hT7 hb7 ht
  go_wp2_with fail
  with_reducible refine Calls.mono (span_slots _ hs8) ?_
  rintro e w' ⟨rfl, rfl⟩
  go_wp2_with fail
  obtain ⟨R, hR⟩ : ∃ R : Bool, ((k : Int) == 0) = R := ⟨_, rfl⟩
  have ⟨cm1, cm2, cm3⟩ := hV1.out B 9 c n
  rw [hR] at cm1 cm2
  replace cm2 := Lib.hid cm2
  replace cm3 := Lib.hid cm3
  with_reducible refine Calls.mono (cm1 _ hs8) ?_
  rintro e w9 ⟨rfl, ht, hs9⟩
  have hT9 := hT8.turned ht htl
  have hb9 := ht.below hb8 hlo
  clear hs8 hT8 hb8 ht cm1
  go_wp2_with fail
  with_reducible refine Calls.mono (nspan_alloc _ true) ?_
  rintro e w' ⟨rfl, k5, rfl⟩
  have hs10 := hs9.drewN k5
  have hT10 := hT9.drewN k5
  have hb10 := below_drewN hb9 k5
  generalize w9.drewN k5 = w10 at *
  clear hs9 hT9 hb9
  go_wp2_with fail
  with_reducible refine Calls.mono (nspan_at _ 64) ?_
  rintro e w' ⟨rfl, rfl⟩
  go_wp2_with fail
  with_reducible refine Calls.mono (told6_any _ hT10) ?_
  rintro e w11 ⟨rfl, hb11⟩
  have hs11 := hs10.below hb11
  have hT11 := hT10.below hb11
  have hb12 := below_then hb10 hb11
  clear hs10 hT10 hb10 hb11
  go_wp2_with fail
  with_reducible refine Calls.mono (cm2.out _ hs11) ?_
  rintro e w' ⟨rfl, k6, rfl⟩
  have hs12 := hs11.drewN k6
  have hb13 := below_drewN hb12 k6
  generalize w11.drewN k6 = w12 at *
  clear hs11 hT11 hb12 cm2
  go_wp2_with fail
  with_reducible refine Calls.mono (cm3.out _ hs12) ?_
  rintro e w13 ⟨rfl, ht, hs13⟩
  have hb14 := ht.below hb13 hlo
  clear hs12 hb13 ht cm3
  go_wp2_with fail
  with_reducible refine Calls.mono (nspan_full _) ?_
  rintro e w' ⟨rfl, k7, rfl⟩
  have hb15 := below_drewN hb14 k7
  generalize w13.drewN k7 = w14 at *
  clear hs13 hb14
  go_wp2_with fail
  with_reducible refine Calls.mono (nspan_slots _) ?_
  rintro e w' ⟨rfl, rfl⟩
  go_wp2_with fail
  with_reducible refine Calls.mono (nspan_live _) ?_
  rintro e w' ⟨rfl, rfl⟩
  go_wp2_with fail
  with_reducible refine Calls.mono (nspan_sweep _) ?_
  rintro e w15 ⟨rfl, hb16⟩
  have hb17 := below_then hb15 hb16
  clear hb15 hb16
  go_wp2_with fail
  with_reducible refine Calls.mono (nspan_mark _ 0) ?_
  rintro e w' ⟨rfl, rfl⟩
  go_wp2_with fail
  go_ret
  exact ⟨rfl, hb17⟩

set_option maxRecDepth 100000 in
theorem lifted (os : Os) (started : os.Started) (H : Type) (enc : TypeId × Value → H) :
    ReturnsInHanded {} Tryd.checked os 8 .any (fun w args => (Rows.spanFreeSpec.pre enc Tryd.prog Tryd.f8 [] false w args ∧ laidMetH Tryd.prog [("math/bits.deBruijn64tab", Rows.laid_math_bits_deBruijn64tab)] w) ∧ sizedMet enc Tryd.prog Tryd.f8 (OpenSpec.ofChange Rows.spanFreeSpec) false w args) (Rows.spanFreeSpec.post enc Tryd.prog Tryd.f8 false true false false) := by
  refine returnsInHanded_of_change_and (C := Tryd.checked) (X := fun w _ => laidMetH Tryd.prog [("math/bits.deBruijn64tab", Rows.laid_math_bits_deBruijn64tab)] w) (fun _ _ _ hh h => h.of_heap hh) own started (by kernel_rfl) Tryd.func8
    (ChangeSpec.witness_shaped (enc := enc) (C := Tryd.checked) (os := os) (X := fun w _ => laidMetH Tryd.prog [("math/bits.deBruijn64tab", Rows.laid_math_bits_deBruijn64tab)] w) false (World.doorLaid Tryd.prog 400 os) #[.int .i64 0, .int .i64 0] 8 rfl (World.shaped_of_RefB (by kernel_rfl) (by kernel_rfl)) (by kernel_rfl) (by kernel_rfl) (by kernel_rfl) (door_met os _)) ?_
  intro W base args ds gs before hval0 hW _ _ hL _
  have hval : ∀ (j : Nat) t v, Tryd.f8.params[j]? = some t → args[j]? = some v → Value.okWide Tryd.prog W .any base t v := hval0
  have hW' := hW
  obtain ⟨p, q, hA0, hV, rfl, hfz, hnd⟩ := hW
  have hA : DataW.TrodAll enc Tryd.prog W 0 (fun _ => true) true Tryd.f8.params.toList args.toList ds p := hA0
  rw [Tryd.params8] at hA hval
  obtain ⟨v0, vs0, d0, ds0, p0, q0, hargs, rfl, rfl, h0, r0⟩ := trodAll_cons hA
  obtain ⟨v1, vs1, d1, ds1, p1, q1, rfl, rfl, rfl, h1, r1⟩ := trodAll_cons r0
  obtain ⟨rfl, rfl, rfl⟩ := trodAll_nil r1
  obtain rfl : args = #[v0, v1] := by cases args; simp_all
  obtain ⟨rfl, rfl⟩ := trodVars_none hV
  obtain ⟨a0, rfl, rfl, rfl, w0⟩ := open_int Tryd.underlying3 (hval 0 3 v0 rfl rfl) h0
  obtain ⟨a1, rfl, rfl, rfl, w1⟩ := open_int Tryd.underlying3 (hval 1 3 v1 rfl rfl) h1
  clear hA0 hval0
  simp only [List.append_nil] at hW'
  refine (walk a0 a1 W (tab_of_laid hL)).mono fun e W' ⟨he, hg⟩ => ?_
  subst he
  exact ⟨_, rfl, post_of_kept (pa := _) (pv := []) hW' (fun _ _ _ => (trodAll_cons_mk (shut_bool Tryd.underlying4 _) trodAll_mk0)) (trodAll_cons_mk (shut_int Tryd.underlying3 w0) (trodAll_cons_mk (shut_int Tryd.underlying3 w1) trodAll_mk0)) (fun _ _ => rfl) (by simp) hg⟩

theorem over : Rows.spanFreeRow.holds Tryd.pinned (OpenSpec.ofChange Rows.spanFreeSpec) :=
  OpenClaim.holds_of_wide 8 Tryd.f8 rfl rfl rfl rfl rfl rfl rfl ⟨rfl, rfl, rfl, rfl, rfl⟩ rfl rfl rfl rfl rfl (by kernel_rfl) Tryd.func8 (by kernel_rfl)
    (of_decide_eq_true (by kernel_rfl)) (by unfold Func.isWrapper; first | (rw [if_pos (by decide +kernel)]; kernel_rfl) | (rw [if_neg (by decide +kernel)]; exact ⟨rfl, rfl⟩))
    (fun os started H enc _ => lifted os started H enc)

theorem proved : Rows.SpanFreeCardSaid :=
  Claim7.holds_tied_plain_at .later [] [.data] true Rows.spanFreeCard.stood.harness false
    over (fun _ h => by cases h) (by kernel_rfl) (fun _ h => by cases h) spanFree_row_tie rfl ⟨rfl, rfl⟩ (by kernel_rfl) rfl
    (fun f fn hf hfn => by
      obtain rfl : f = 8 := Option.some.inj ((show Tryd.prog.funcNamed "treadmill/treadmilllaw6.SpanFree" = some 8 by kernel_rfl).symm.trans hf) |>.symm
      obtain rfl : fn = Tryd.f8 := (Option.some.inj (Tryd.func8.symm.trans hfn)).symm
      exact ⟨by kernel_rfl, fun j t ht => by
        rw [Tryd.params8] at ht
        have hm : t ∈ [3] := by simpa using Array.mem_of_getElem? ht
        have hall : ([3].all fun u => !Tryd.prog.wantsStandIn u) = true := by kernel_rfl
        exact (show Tryd.prog.wantsStandIn t = false by simpa using List.all_eq_true.1 hall t hm)⟩)
    (by kernel_rfl)
#print axioms proved
end Go.Proofs.YtoamabmnbldgkaaDoor.spanFree
