/- For any two whole numbers and any two slices of whole numbers the statement BitsCopies answers true and leaves its arguments as they were: a copy of a set has just what the other has, and is apart from it then; sets of unlike lengths are not copied. The library's table math/bits.deBruijn64tab lies as its initialiser lays it (tied by the card); no other condition. -/
import Derived.Test.YtongpnkejakceaaDoorSetInts
import Derived.WalkKit
import Derived.ProofKit
import Derived.OpenShut
import Derived.Test.YtongpnkejakceaaDoorTie
import Derived.Test.YtongpnkejakceaaDoorCards
import Derived.LaidMore
import Derived.Stop.Joined
import Derived.SevenTiedAt
namespace Go.Proofs.YtongpnkejakceaaDoor.bitsCopies
open Go.ChangeShapes Go.WideShapes Go.ChangeAt Go.WideElems Go.RowKit Go.Lib Fx Bm
set_option linter.unusedVariables false

theorem own : ownKnob Tryd.prog.godebug = none := by kernel_rfl

set_option maxRecDepth 100000 in
set_option maxHeartbeats 4000000 in
theorem walk (a0 : Int) (a1 : Int) (v2 : Value) (z2 : List Int) (v3 : Value) (z3 : List Int) (w : World) (hT : TabAt w) (h2 : IntsArg w v2 z2) (h3 : IntsArg w v3 z3) :
    Calls Tryd.prog 7 #[.int .i64 a0, .int .i64 a1, v2, v3] w fun e w' => e = .returned (.bool true) ∧ Below w.heap.size w w' := by
  obtain ⟨Y, hY⟩ : ∃ Y : Int, IntKind.u64.wrap a0 = Y := ⟨_, rfl⟩
  obtain ⟨Z, hZ⟩ : ∃ Z : Int, IntKind.u64.wrap a1 = Z := ⟨_, rfl⟩
  have y0 : 0 ≤ Y := by rw [← hY, IntKind.wrap_u64]; omega
  have z0 : 0 ≤ Z := by rw [← hZ, IntKind.wrap_u64]; omega
  obtain ⟨n, hn⟩ : ∃ n : Nat, Y % 201 = (n : Int) := ⟨(Y % 201).toNat, by omega⟩
  obtain ⟨m, hm⟩ : ∃ m : Nat, Z % 201 = (m : Int) := ⟨(Z % 201).toNat, by omega⟩
  have n1 : n ≤ 16777216 := by omega
  have m1 : m ≤ 16777216 := by omega
  have cnew := setnew_any n n1 w
  have hlt := hT.lt
  obtain ⟨sp2, cap2, rfl, hl2, hc2⟩ := h2.at_
  obtain ⟨sp3, cap3, rfl, hl3, hc3⟩ := h3.at_
  obtain ⟨L2, hL2⟩ : ∃ L, z2.length = L := ⟨_, rfl⟩
  obtain ⟨L3, hL3⟩ : ∃ L, z3.length = L := ⟨_, rfl⟩
  rw [hL2] at hl2 hc2 ⊢
  rw [hL3] at hl3 hc3 ⊢
  clear h2 h3 hL2 hL3
  have hc2 : Hid _ := hc2
  have hc3 : Hid _ := hc3
  by_cases g2 : L2 ≤ 40
  · by_cases g3 : L3 ≤ 40
    · go_enter Tryd.func7, Tryd.ntmps7
      go_wp2_with fail
      with_reducible refine Calls.mono (cnew) ?_
      rintro e w1 ⟨rfl, hb1, hs1⟩
      obtain ⟨b, hbe⟩ : ∃ b, b = w.heap.size := ⟨_, rfl⟩
      have hbw : w.heap.size ≤ b := by omega
      rw [← hbe] at hs1 ⊢
      clear hbe cnew
      obtain ⟨M0, hM⟩ : ∃ M : Nat → Bool, (fun _ => false) = M := ⟨_, rfl⟩
      rw [hM] at hs1
      go_wp2_with fail
      with_reducible refine Calls.mono (setnew_any m m1 w1) ?_
      rintro e w2 ⟨rfl, hb2, ho1⟩
      rw [hM] at ho1
      obtain ⟨c, hce⟩ : ∃ c, c = w1.heap.size := ⟨_, rfl⟩
      have hbc : b + 1 < c := by rw [hce]; exact hs1.lt
      rw [← hce] at ho1 ⊢
      have hs2 := hs1.below hb2
      have hb3 := below_then hb1 hb2
      have hT2 := hT.below hb3
      clear hce hM hs1 hb1 hb2
      go_wp2_with fail
      go_loopw [13] (fun u wr => ∃ (i : Nat) (M N : Nat → Bool), u = .int .i64 i ∧ i ≤ L2 ∧ IsSet wr (b + 1) b n M ∧ IsSet wr (c + 1) c m N ∧ Below w.heap.size w wr) (fun u _ => (L2 - (intOf u).toNat))
      case atStart => exact ⟨0, _, _, rfl, by omega, hs2, ho1, hb3⟩
      case round =>
        obtain ⟨i, M, N, rfl, i1, hs, ho, hb⟩ := hrel
        clear hs2 ho1 hb3
        by_cases hi : i < L2
        · obtain ⟨b0, off, rfl, _, hb0, hcell⟩ := hc2.out i hi
          have hcell : wr.cell? ⟨b0, off + i, none⟩ = _ := (hb.cell hb0).trans hcell
          have i2 : (i : Int) < (L2 : Int) := by omega
          generalize z2.getD i 0 = x at *
          obtain ⟨X, hX⟩ : ∃ X : Int, IntKind.u64.wrap x = X := ⟨_, rfl⟩
          have x0 : 0 ≤ X := by rw [← hX, IntKind.wrap_u64]; omega
          obtain ⟨k, hk⟩ : ∃ k : Int, X % 201 = k := ⟨_, rfl⟩
          have kk0 : 0 ≤ k := by omega
          have kk1 : k < 201 := by omega
          have cs := setset_any k wr hs
          generalize (decide (0 ≤ k ∧ k < (n : Int)) && !hasI M k) = B at *
          generalize setM M n k = M2 at *
          go_wp2_with fail
          with_reducible refine Calls.mono (cs) ?_
          rintro e w3 ⟨rfl, hg, hn⟩
          have hoth := ho.keep hg (fun e => by cases e; omega) (fun e => by cases e; omega)
          have hb4 := below_turn hb hg (by omega)
          clear hs ho hb hg cs
          go_wp2_with fail
          go_roundw
          case rel => exact ⟨i + 1, _, _, by go_num, by omega, hn, hoth, hb4⟩
          case measure => simp [intOf]; omega
        · obtain rfl : L2 = i := by omega
          obtain ⟨w2, rfl⟩ : ∃ w2, w2 = wr := ⟨_, rfl⟩
          have hs2 := hs
          have ho1 := ho
          have hb3 := hb
          clear hs ho hb hi i1
          go_wp2_with fail
          go_loopw [14] (fun u wr => ∃ (i : Nat) (M N : Nat → Bool), u = .int .i64 i ∧ i ≤ L3 ∧ IsSet wr (b + 1) b n M ∧ IsSet wr (c + 1) c m N ∧ Below w.heap.size w wr) (fun u _ => (L3 - (intOf u).toNat))
          case atStart => exact ⟨0, _, _, rfl, by omega, hs2, ho1, hb3⟩
          case round =>
            obtain ⟨i, M, N, rfl, i1, hs, ho, hb⟩ := hrel
            clear hs2 ho1 hb3
            by_cases hi : i < L3
            · obtain ⟨b0, off, rfl, _, hb0, hcell⟩ := hc3.out i hi
              have hcell : wr.cell? ⟨b0, off + i, none⟩ = _ := (hb.cell hb0).trans hcell
              have i2 : (i : Int) < (L3 : Int) := by omega
              generalize z3.getD i 0 = x at *
              obtain ⟨X, hX⟩ : ∃ X : Int, IntKind.u64.wrap x = X := ⟨_, rfl⟩
              have x0 : 0 ≤ X := by rw [← hX, IntKind.wrap_u64]; omega
              obtain ⟨k, hk⟩ : ∃ k : Int, X % 201 = k := ⟨_, rfl⟩
              have kk0 : 0 ≤ k := by omega
              have kk1 : k < 201 := by omega
              have cs := setset_any k wr ho
              generalize (decide (0 ≤ k ∧ k < (m : Int)) && !hasI N k) = B at *
              generalize setM N m k = M2 at *
              go_wp2_with fail
              with_reducible refine Calls.mono (cs) ?_
              rintro e w3 ⟨rfl, hg, hn⟩
              have hoth := hs.keep hg (fun e => by cases e; omega) (fun e => by cases e; omega)
              have hb4 := below_turn hb hg (by omega)
              clear hs ho hb hg cs
              go_wp2_with fail
              go_roundw
              case rel => exact ⟨i + 1, _, _, by go_num, by omega, hoth, hn, hb4⟩
              case measure => simp [intOf]; omega
            · obtain rfl : L3 = i := by omega
              obtain ⟨w2, rfl⟩ : ∃ w2, w2 = wr := ⟨_, rfl⟩
              have hs2 := hs
              have ho1 := ho
              have hb3 := hb
              clear hs ho hb hi i1
              go_wp2_with fail
              have ca := setall_any w2 hs2 (hT.below hb3)
              go_wp2_with fail
              with_reducible refine Calls.mono (ca) ?_
              rintro e w4 ⟨v, rfl, hb4', hown⟩
              have hv := ints_of_owns hown
              have hs4 := hs2.below hb4'
              have ho4 := ho1.below hb4'
              have hb4 := below_then hb3 hb4'
              clear ca hs2 ho1 hb3 hb4' hown
              by_cases hnm : n = m
              · subst hnm
                have cc := setcopy_any _ hs4 ho4
                go_wp2_with fail
                with_reducible refine Calls.mono (cc) ?_
                rintro e w5 ⟨rfl, hg, hs5⟩
                have ho5 := ho4.keep hg (fun e => by cases e; omega) (fun e => by cases e; omega)
                have hb5 := below_turn hb4 hg (by omega)
                clear cc hs4 hb4 ho4 hv
                have ca := setall_any w5 hs5 (hT.below hb5)
                go_wp2_with fail
                with_reducible refine Calls.mono (ca) ?_
                rintro e w6 ⟨v2, rfl, hb6, hown2⟩
                have hv2 := ints_of_owns hown2
                have hs6 := hs5.below hb6
                have ho6 := ho5.below hb6
                have hb7 := below_then hb5 hb6
                clear ca hs5 ho5 hb5 hb6 hown2
                have ca := setall_any w6 ho6 (hT.below hb7)
                go_wp2_with fail
                with_reducible refine Calls.mono (ca) ?_
                rintro e w7 ⟨v3, rfl, hb8, hown3⟩
                have ci := ints_any (hv2.below hb8) (ints_of_owns hown3)
                have hs7 := hs6.below hb8
                have ho7 := ho6.below hb8
                have hb9 := below_then hb7 hb8
                clear ca hs6 ho6 hb7 hb8 hown3 hv2
                go_wp2_with fail
                with_reducible refine Calls.mono (ci) ?_
                rintro e w' ⟨rfl, k2, rfl⟩
                have hs8 := hs7.drewN k2
                have ho8 := ho7.drewN k2
                have hb10 := below_drewN hb9 k2
                generalize w7.drewN k2 = w8 at *
                clear ci hs7 ho7 hb9
                have ca := setall_any w8 ho8 (hT.below hb10)
                go_wp2_with fail
                with_reducible refine Calls.mono (ca) ?_
                rintro e w9 ⟨v4, rfl, hb11, hown4⟩
                have hv4 := ints_of_owns hown4
                have hs9 := hs8.below hb11
                have ho9 := ho8.below hb11
                have hc8 : c < w8.heap.size := by have := ho8.lt; omega
                have hb12 := below_then hb10 hb11
                obtain ⟨lo, hlo⟩ : ∃ lo, w8.heap.size = lo := ⟨_, rfl⟩
                rw [hlo] at hv4 hc8
                clear ca hs8 ho8 hb10 hb11 hown4 hlo
                go_wp2_with fail
                go_loopw [17] (fun u wr => ∃ (i : Nat) (M : Nat → Bool), u = .int .i64 i ∧ i ≤ n ∧ IsSet wr (b + 1) b n M ∧ Hid (∀ r, r < i → M r = false) ∧ IsSet wr (c + 1) c n N ∧ IntsAt wr lo v4 ((mem N n).map fun (x : Nat) => (x : Int)) ∧ Below w.heap.size w wr) (fun u _ => (n - (intOf u).toNat))
                case atStart => exact ⟨0, _, rfl, by omega, hs9, fun r h => by omega, ho9, hv4, hb12⟩
                case round =>
                  obtain ⟨i, M5, rfl, i1, hs, hz, ho, hv, hb⟩ := hrel
                  clear hs9 ho9 hv4 hb12
                  by_cases hi : i < n
                  · have cr := setclr_any (i : Int) wr hs
                    have hz2 : Hid (∀ r, r < i + 1 → clrM M5 (i : Int) r = false) := fun r hr => by
                      unfold clrM
                      rw [if_pos (by omega), Int.toNat_natCast]
                      unfold upd
                      by_cases e : r = i
                      · rw [if_pos e]
                      · rw [if_neg e]; exact hz.out r (by omega)
                    generalize hasI M5 (i : Int) = B at *
                    generalize clrM M5 (i : Int) = M6 at *
                    go_wp2_with fail
                    with_reducible refine Calls.mono (cr) ?_
                    rintro e w10 ⟨rfl, hg, hs10⟩
                    have ho10 := ho.keep hg (fun e => by cases e; omega) (fun e => by cases e; omega)
                    have hv10 := hv.keep hg (fun _ h => by cases h; omega)
                    have hb13 := below_turn hb hg (by omega)
                    clear hs hz ho hv hb hg cr
                    go_wp2_with fail
                    go_roundw
                    case rel => exact ⟨i + 1, M6, by go_num, by omega, hs10, hz2, ho10, hv10, hb13⟩
                    case measure => simp [intOf]; omega
                  · obtain rfl : n = i := by omega
                    have hcz : cnt M5 n = 0 := cnt_none hz.out
                    have ct := told3_any wr (hT.below hb)
                    go_wp2_with fail
                    with_reducible refine Calls.mono (ct) ?_
                    rintro e w10 ⟨rfl, hb13⟩
                    have hs10 := hs.below hb13
                    have ho10 := ho.below hb13
                    have hv10 := hv.below hb13
                    have hb14 := below_then hb hb13
                    clear ct hs ho hv hb hz
                    have ca := setall_any w10 ho10 (hT.below hb14)
                    go_wp2_with fail
                    with_reducible refine Calls.mono (ca) ?_
                    rintro e w11 ⟨v5, rfl, hb15, hown5⟩
                    have ci := ints_any (ints_of_owns hown5) (hv10.below hb15)
                    have hs11 := hs10.below hb15
                    have hb16 := below_then hb14 hb15
                    clear ca hs10 ho10 hv10 hb14 hb15 hown5
                    go_wp2_with fail
                    with_reducible refine Calls.mono (ci) ?_
                    rintro e w' ⟨rfl, k3, rfl⟩
                    have hs12 := hs11.drewN k3
                    have hb17 := below_drewN hb16 k3
                    generalize w11.drewN k3 = w12 at *
                    clear ci hs11 hb16
                    have c1 := setcount_any w12 hs12
                    rw [hcz] at c1
                    go_wp2_with fail
                    with_reducible refine Calls.mono (c1) ?_
                    rintro e w' ⟨rfl, k4, rfl⟩
                    have hs13 := hs12.drewN k4
                    have hb18 := below_drewN hb17 k4
                    generalize w12.drewN k4 = w13 at *
                    clear c1 hs12 hb17
                    have c2 := setcopy_any w13 hs13 hs13
                    go_wp2_with fail
                    with_reducible refine Calls.mono (c2) ?_
                    rintro e w14 ⟨rfl, hg, _⟩
                    go_wp2_with fail
                    go_ret
                    exact ⟨rfl, below_turn hb18 hg (by omega)⟩
              · have he : ((n : Int) == (m : Int)) = false := by rw [beq_eq_false_iff_ne]; omega
                have he2 : ((n : Int) != (m : Int)) = true := by simp [bne, he]
                have cc := setcopy_not _ hs4 ho4 hnm
                go_wp2_with fail
                with_reducible refine Calls.mono (cc) ?_
                rintro e w' ⟨rfl, k1, rfl⟩
                have hs5 := hs4.drewN k1
                have hb5 := below_drewN hb4 k1
                have hv5 := hv.keep (w' := w4.drewN k1) (grownBy_drewN _ _ none) (fun _ h => by cases h)
                generalize w4.drewN k1 = w5 at *
                clear cc hs4 hb4 hv
                have ct := told3_any w5 (hT.below hb5)
                go_wp2_with fail
                with_reducible refine Calls.mono (ct) ?_
                rintro e w6 ⟨rfl, hb6⟩
                have hs6 := hs5.below hb6
                have hv6 := hv5.below hb6
                have hb7 := below_then hb5 hb6
                have ca := setall_any w6 hs6 (hT.below hb7)
                go_wp2_with fail
                with_reducible refine Calls.mono (ca) ?_
                rintro e w7 ⟨v2, rfl, hb8, hown2⟩
                have hv7 := hv6.below hb8
                have ci := ints_any (ints_of_owns hown2) hv7
                have hb9 := below_then hb7 hb8
                clear ct ca hs5 hv5 hb5 hb6 hv6 hb7 hb8 hown2
                go_wp2_with fail
                with_reducible refine Calls.mono (ci) ?_
                rintro e w' ⟨rfl, k2, rfl⟩
                go_wp2_with fail
                go_ret
                exact ⟨rfl, below_drewN hb9 k2⟩
    · go_enter Tryd.func7, Tryd.ntmps7
      go_wp2_with fail
      with_reducible refine Calls.mono (cnew) ?_
      rintro e w1 ⟨rfl, hb1, hs1⟩
      obtain ⟨b, hbe⟩ : ∃ b, b = w.heap.size := ⟨_, rfl⟩
      have hbw : w.heap.size ≤ b := by omega
      rw [← hbe] at hs1 ⊢
      clear hbe cnew
      obtain ⟨M0, hM⟩ : ∃ M : Nat → Bool, (fun _ => false) = M := ⟨_, rfl⟩
      rw [hM] at hs1
      go_wp2_with fail
      with_reducible refine Calls.mono (setnew_any m m1 w1) ?_
      rintro e w2 ⟨rfl, hb2, ho1⟩
      rw [hM] at ho1
      obtain ⟨c, hce⟩ : ∃ c, c = w1.heap.size := ⟨_, rfl⟩
      have hbc : b + 1 < c := by rw [hce]; exact hs1.lt
      rw [← hce] at ho1 ⊢
      have hs2 := hs1.below hb2
      have hb3 := below_then hb1 hb2
      have hT2 := hT.below hb3
      clear hce hM hs1 hb1 hb2
      have ct := told3_any w2 hT2
      go_wp2_with fail
      with_reducible refine Calls.mono (ct) ?_
      rintro e w3 ⟨rfl, hb4⟩
      go_wp2_with fail
      go_ret
      exact ⟨rfl, below_then hb3 hb4⟩
  · go_enter Tryd.func7, Tryd.ntmps7
    go_wp2_with fail
    with_reducible refine Calls.mono (cnew) ?_
    rintro e w1 ⟨rfl, hb1, hs1⟩
    obtain ⟨b, hbe⟩ : ∃ b, b = w.heap.size := ⟨_, rfl⟩
    have hbw : w.heap.size ≤ b := by omega
    rw [← hbe] at hs1 ⊢
    clear hbe cnew
    obtain ⟨M0, hM⟩ : ∃ M : Nat → Bool, (fun _ => false) = M := ⟨_, rfl⟩
    rw [hM] at hs1
    go_wp2_with fail
    with_reducible refine Calls.mono (setnew_any m m1 w1) ?_
    rintro e w2 ⟨rfl, hb2, ho1⟩
    rw [hM] at ho1
    obtain ⟨c, hce⟩ : ∃ c, c = w1.heap.size := ⟨_, rfl⟩
    have hbc : b + 1 < c := by rw [hce]; exact hs1.lt
    rw [← hce] at ho1 ⊢
    have hs2 := hs1.below hb2
    have hb3 := below_then hb1 hb2
    have hT2 := hT.below hb3
    clear hce hM hs1 hb1 hb2
    have ct := told3_any w2 hT2
    go_wp2_with fail
    with_reducible refine Calls.mono (ct) ?_
    rintro e w3 ⟨rfl, hb4⟩
    go_wp2_with fail
    go_ret
    exact ⟨rfl, below_then hb3 hb4⟩

set_option maxRecDepth 100000 in
theorem lifted (os : Os) (started : os.Started) (H : Type) (enc : TypeId × Value → H) :
    ReturnsInHanded {} Tryd.checked os 7 .any (fun w args => (Rows.bitsCopiesSpec.pre enc Tryd.prog Tryd.f7 [] false w args ∧ laidMetH Tryd.prog [("math/bits.deBruijn64tab", Rows.laid_math_bits_deBruijn64tab)] w) ∧ sizedMet enc Tryd.prog Tryd.f7 (OpenSpec.ofChange Rows.bitsCopiesSpec) false w args) (Rows.bitsCopiesSpec.post enc Tryd.prog Tryd.f7 false true false false) := by
  refine returnsInHanded_of_change_and (C := Tryd.checked) (X := fun w _ => laidMetH Tryd.prog [("math/bits.deBruijn64tab", Rows.laid_math_bits_deBruijn64tab)] w) (fun _ _ _ hh h => h.of_heap hh) own started (by kernel_rfl) Tryd.func7
    (ChangeSpec.witness_shaped (enc := enc) (C := Tryd.checked) (os := os) (X := fun w _ => laidMetH Tryd.prog [("math/bits.deBruijn64tab", Rows.laid_math_bits_deBruijn64tab)] w) false (World.doorLaid Tryd.prog 400 os) #[.int .i64 0, .int .i64 0, .slice none 0 0, .slice none 0 0] 8 rfl (World.shaped_of_RefB (by kernel_rfl) (by kernel_rfl)) (by kernel_rfl) (by kernel_rfl) (by kernel_rfl) (door_met os _)) ?_
  intro W base args ds gs before hval0 hW _ _ hL _
  have hval : ∀ (j : Nat) t v, Tryd.f7.params[j]? = some t → args[j]? = some v → Value.okWide Tryd.prog W .any base t v := hval0
  have hW' := hW
  obtain ⟨p, q, hA0, hV, rfl, hfz, hnd⟩ := hW
  have hA : DataW.TrodAll enc Tryd.prog W 0 (fun _ => true) true Tryd.f7.params.toList args.toList ds p := hA0
  rw [Tryd.params7] at hA hval
  obtain ⟨v0, vs0, d0, ds0, p0, q0, hargs, rfl, rfl, h0, r0⟩ := trodAll_cons hA
  obtain ⟨v1, vs1, d1, ds1, p1, q1, rfl, rfl, rfl, h1, r1⟩ := trodAll_cons r0
  obtain ⟨v2, vs2, d2, ds2, p2, q2, rfl, rfl, rfl, h2, r2⟩ := trodAll_cons r1
  obtain ⟨v3, vs3, d3, ds3, p3, q3, rfl, rfl, rfl, h3, r3⟩ := trodAll_cons r2
  obtain ⟨rfl, rfl, rfl⟩ := trodAll_nil r3
  obtain rfl : args = #[v0, v1, v2, v3] := by cases args; simp_all
  obtain ⟨rfl, rfl⟩ := trodVars_none hV
  obtain ⟨z2, i2⟩ := ints_arg ((hval 2 29 v2 rfl rfl)) h2
  obtain ⟨z3, i3⟩ := ints_arg ((hval 3 29 v3 rfl rfl)) h3
  obtain ⟨a0, rfl, rfl, rfl, w0⟩ := open_int Tryd.underlying3 (hval 0 3 v0 rfl rfl) h0
  obtain ⟨a1, rfl, rfl, rfl, w1⟩ := open_int Tryd.underlying3 (hval 1 3 v1 rfl rfl) h1
  clear hA0 hval0
  simp only [List.append_nil] at hW'
  have lt2 : ∀ x ∈ p2, x.block < W.heap.size := fun x hx => by have := hW'.lt x (by simp [hx]); simpa using this
  have lt3 : ∀ x ∈ p3, x.block < W.heap.size := fun x hx => by have := hW'.lt x (by simp [hx]); simpa using this
  refine (walk a0 a1 v2 z2 v3 z3 W (tab_of_laid hL) i2 i3).mono fun e W' ⟨he, hg⟩ => ?_
  subst he
  exact ⟨_, rfl, post_of_kept (pa := _) (pv := []) hW' (fun _ _ _ => (trodAll_cons_mk (shut_bool Tryd.underlying4 _) trodAll_mk0)) (trodAll_cons_mk (shut_int Tryd.underlying3 w0) (trodAll_cons_mk (shut_int Tryd.underlying3 w1) (trodAll_cons_mk (Below.trod laidOut (by kernel_rfl) (of_decide_eq_true (by kernel_rfl)) h2 hg lt2) (trodAll_cons_mk (Below.trod laidOut (by kernel_rfl) (of_decide_eq_true (by kernel_rfl)) h3 hg lt3) trodAll_mk0)))) (fun _ _ => rfl) (by simp) hg⟩

theorem over : Rows.bitsCopiesRow.holds Tryd.pinned (OpenSpec.ofChange Rows.bitsCopiesSpec) :=
  OpenClaim.holds_of_wide 7 Tryd.f7 rfl rfl rfl rfl rfl rfl rfl ⟨rfl, rfl, rfl, rfl, rfl⟩ rfl rfl rfl rfl rfl (by kernel_rfl) Tryd.func7 (by kernel_rfl)
    (of_decide_eq_true (by kernel_rfl)) (by unfold Func.isWrapper; first | (rw [if_pos (by decide +kernel)]; kernel_rfl) | (rw [if_neg (by decide +kernel)]; exact ⟨rfl, rfl⟩))
    (fun os started H enc _ => lifted os started H enc)

theorem proved : Rows.BitsCopiesCardSaid :=
  Claim7.holds_tied_plain_at .later [] [.data] true Rows.bitsCopiesCard.stood.harness false
    over (fun _ h => by cases h) (by kernel_rfl) (fun _ h => by cases h) bitsCopies_row_tie rfl ⟨rfl, rfl⟩ (by kernel_rfl) rfl
    (fun f fn hf hfn => by
      obtain rfl : f = 7 := Option.some.inj ((show Tryd.prog.funcNamed "treadmill/treadmilllaw3.BitsCopies" = some 7 by kernel_rfl).symm.trans hf) |>.symm
      obtain rfl : fn = Tryd.f7 := (Option.some.inj (Tryd.func7.symm.trans hfn)).symm
      exact ⟨by kernel_rfl, fun j t ht => by
        rw [Tryd.params7] at ht
        have hm : t ∈ [3, 29] := by simpa using Array.mem_of_getElem? ht
        have hall : ([3, 29].all fun u => !Tryd.prog.wantsStandIn u) = true := by kernel_rfl
        exact (show Tryd.prog.wantsStandIn t = false by simpa using List.all_eq_true.1 hall t hm)⟩)
    (by kernel_rfl)
#print axioms proved
end Go.Proofs.YtongpnkejakceaaDoor.bitsCopies
