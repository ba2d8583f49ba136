/- For any two whole numbers the statement BitsFills answers true and leaves its arguments as they were: of a set of up to 300 numbers, all taken in and each so-manieth taken out again, what is told as in and as not in are those. The library's table math/bits.deBruijn64tab lies as its initialiser lays it (tied by the card); no other condition. -/
import Derived.Test.YtongpnkejakceaaDoorSetTold
import Derived.Test.YtongpnkejakceaaDoorTie
import Derived.Test.YtongpnkejakceaaDoorCards
import Derived.LaidMore
import Derived.Stop.Joined
import Derived.SevenTiedAt
import Derived.WalkKit
import Derived.ProofKit
import Derived.OpenShut
namespace Go.Proofs.YtongpnkejakceaaDoor.bitsFills
open Go.ChangeShapes Go.WideShapes Go.ChangeAt Go.WideElems Go.RowKit Go.Lib Fx Bm
set_option linter.unusedVariables false

theorem own : ownKnob Tryd.prog.godebug = none := by kernel_rfl

def fill (i : Nat) : Nat → Bool := fun k => decide (k < i)
def holes (n d i : Nat) : Nat → Bool := fun k => decide (k < n) && !decide (k % d = 0 ∧ k < i)
def mult (d : Nat) : Nat → Bool := fun k => decide (k % d = 0)
theorem hasI_nat (M : Nat → Bool) (i : Nat) : hasI M (i : Int) = M i := by unfold hasI; rw [decide_eq_true (by omega), Bool.true_and, Int.toNat_natCast]
theorem clrM_nat (M : Nat → Bool) (i : Nat) : clrM M (i : Int) = upd M i false := by unfold clrM; rw [if_pos (by omega), Int.toNat_natCast]
theorem fill_new {n i : Nat} (h : i < n) : (decide ((0 : Int) ≤ (i : Int) ∧ (i : Int) < (n : Int)) && !hasI (fill i) (i : Int)) = true := by
  rw [hasI_nat, decide_eq_true (by omega)]; simp [fill]
theorem fill_set {n i : Nat} (h : i < n) : setM (fill i) n (i : Int) = fill (i + 1) := by
  unfold setM
  rw [if_pos (by omega), Int.toNat_natCast]
  funext k
  unfold upd fill
  by_cases e : k = i
  · subst e; simp
  · rw [if_neg e]; exact decide_eq_decide.2 (by omega)
theorem fill_zero : (fun _ => false) = fill 0 := by funext k; simp [fill]
theorem holes_zero (n d : Nat) : fill n = holes n d 0 := by funext k; simp [fill, holes]
theorem gap {d i k : Nat} (h0 : 1 ≤ d) (h1 : d ≤ 9) (hi : i % d = 0) (hk : k % d = 0) (h2 : i ≤ k) (h3 : k < i + d) : k = i := by
  rcases (show d = 1 ∨ d = 2 ∨ d = 3 ∨ d = 4 ∨ d = 5 ∨ d = 6 ∨ d = 7 ∨ d = 8 ∨ d = 9 by omega) with rfl | rfl | rfl | rfl | rfl | rfl | rfl | rfl | rfl <;> omega
theorem step_mod {d i : Nat} (hi : i % d = 0) : (i + d) % d = 0 := by rw [Nat.add_mod_right]; exact hi
theorem holes_in {n d i : Nat} (h : i < n) : holes n d i i = true := by simp [holes, h]
theorem holes_clr {n d i : Nat} (h0 : 1 ≤ d) (h1 : d ≤ 9) (hi : i % d = 0) : upd (holes n d i) i false = holes n d (i + d) := by
  funext k
  unfold upd holes
  by_cases e : k = i
  · subst e
    rw [if_pos rfl, decide_eq_true (show k % d = 0 ∧ k < k + d from ⟨hi, by omega⟩)]; simp
  · rw [if_neg e]
    have : (k % d = 0 ∧ k < i) ↔ (k % d = 0 ∧ k < i + d) := ⟨fun h => ⟨h.1, by omega⟩, fun h => ⟨h.1, by
      refine Nat.lt_of_not_le fun hle => e (gap h0 h1 hi h.1 hle h.2)⟩⟩
    rw [decide_eq_decide.2 this]
theorem holes_gone {n d i : Nat} (h0 : 1 ≤ d) (hi : i % d = 0) : holes n d (i + d) i = false := by
  unfold holes
  rw [decide_eq_true (show i % d = 0 ∧ i < i + d from ⟨hi, by omega⟩)]; simp
theorem mult_step {d i : Nat} (h0 : 1 ≤ d) (h1 : d ≤ 9) (hi : i % d = 0) : cnt (mult d) (i + d) = cnt (mult d) i + 1 := by
  rw [cnt_add]
  have e : cnt (fun t => mult d (i + t)) d = cnt (mult d) d := cnt_congr fun t _ => by
    unfold mult
    rw [Nat.add_mod, hi, Nat.zero_add, Nat.mod_mod]
  have h := (show ∀ m : Fin 10, 1 ≤ m.val → cnt (mult m.val) m.val = 1 by decide) ⟨d, by omega⟩ h0
  rw [e, show cnt (mult d) d = 1 from h]
theorem mult_end {n d i : Nat} (h0 : 1 ≤ d) (h1 : d ≤ 9) (hi : i % d = 0) (h2 : n ≤ i) (h3 : i < n + d) : cnt (mult d) i = cnt (mult d) n := by
  obtain ⟨k, rfl⟩ : ∃ k, i = n + k := ⟨i - n, by omega⟩
  have e : cnt (fun t => mult d (n + t)) k = 0 := cnt_none fun t ht => by
    unfold mult
    refine decide_eq_false fun hm => ?_
    have := gap (i := n + t) (k := n + k) h0 h1 hm hi (by omega) (by omega)
    omega
  rw [cnt_add, e, Nat.add_zero]
theorem holes_end {n d i : Nat} (h2 : n ≤ i) : holes n d i = holes n d n := by
  funext k
  unfold holes
  by_cases h : k < n
  · rw [decide_eq_decide.2 (show (k % d = 0 ∧ k < i) ↔ (k % d = 0 ∧ k < n) from ⟨fun a => ⟨a.1, h⟩, fun a => ⟨a.1, by omega⟩⟩)]
  · rw [decide_eq_false h]; rfl
theorem holes_has {n d k : Nat} (h : k < n) : holes n d n k = !decide (k % d = 0) := by
  unfold holes
  rw [decide_eq_true h, Bool.true_and, decide_eq_decide.2 (show (k % d = 0 ∧ k < n) ↔ k % d = 0 from ⟨fun a => a.1, fun a => ⟨a, h⟩⟩)]
theorem holes_next {n d k : Nat} (h : k < n) (hk : k % d = 0) : nextI (holes n d n) n k false = (k : Int) :=
  next_is (Nat.le_refl _) h (by rw [holes_has h, decide_eq_true hk]; rfl) fun q h1 h2 => by omega
theorem cnt_other {M N : Nat → Bool} : ∀ {k : Nat}, (∀ i, i < k → M i = !N i) → cnt M k + cnt N k = k
  | 0, _ => rfl
  | k + 1, h => by
    have ih := cnt_other (k := k) fun i hi => h i (by omega)
    have e1 : cnt M (k + 1) = cnt M k + (if M k then 1 else 0) := rfl
    have e2 : cnt N (k + 1) = cnt N k + (if N k then 1 else 0) := rfl
    rw [e1, e2, h k (by omega)]
    cases N k <;> simp <;> omega
theorem holes_cnt (n d : Nat) : cnt (holes n d n) n + cnt (mult d) n = n := cnt_other fun i hi => holes_has hi
set_option maxRecDepth 100000 in
set_option maxHeartbeats 2000000 in
theorem walk (a0 : Int) (a1 : Int) (w0 : (Lit.int .i64 a0).wf = true) (w1 : (Lit.int .i64 a1).wf = true) (w : World) (hT : TabAt w) :
    Calls Tryd.prog 3 #[.int .i64 a0, .int .i64 a1] w fun e w' => e = .returned (.bool true) ∧ Below w.heap.size w w' := by
  obtain ⟨Y, hY⟩ : ∃ Y : Int, IntKind.u64.wrap a0 = Y := ⟨_, rfl⟩
  obtain ⟨Z, hZ⟩ : ∃ Z : Int, IntKind.u64.wrap a1 = Z := ⟨_, rfl⟩
  have y0 : 0 ≤ Y := by rw [← hY, IntKind.wrap_u64]; omega
  have z0 : 0 ≤ Z := by rw [← hZ, IntKind.wrap_u64]; omega
  obtain ⟨n, hn⟩ : ∃ n : Nat, Y % 301 = (n : Int) := ⟨(Y % 301).toNat, by omega⟩
  obtain ⟨d', hd'⟩ : ∃ d : Nat, Z % 9 = (d : Int) := ⟨(Z % 9).toNat, by omega⟩
  obtain ⟨d, hd⟩ : ∃ d : Nat, 1 + (d' : Int) = (d : Int) := ⟨1 + d', by omega⟩
  have n1 : n ≤ 300 := by omega
  have d1 : 1 ≤ d := by omega
  have d2 : d ≤ 9 := by omega
  have d3 : (1 : Int) ≤ (d : Int) := by omega
  have d0 : (d' : Int) ≤ 8 := by omega
  have cnew := setnew_any n (by omega) w
  have hlt := hT.lt
  go_enter Tryd.func3, Tryd.ntmps3
  go_wp2_with fail
  with_reducible refine Calls.mono (cnew) ?_
  rintro e w1 ⟨rfl, hb1, hs1⟩
  rw [fill_zero] at hs1
  obtain ⟨b, hbe⟩ : ∃ b, b = w.heap.size := ⟨_, rfl⟩
  have hbw : w.heap.size ≤ b := by omega
  rw [← hbe] at hs1 ⊢
  clear hbe cnew hd hd' hn hY hZ y0 z0
  go_wp2_with fail
  go_loopw [8] (fun u wr => ∃ i : Nat, u = .int .i64 i ∧ i ≤ n ∧ IsSet wr (b + 1) b n (fill i) ∧ Below w.heap.size w wr) (fun u _ => (n - (intOf u).toNat))
  case atStart => exact ⟨0, rfl, by omega, hs1, hb1⟩
  case round =>
    obtain ⟨i, rfl, i1, hs, hb⟩ := hrel
    clear hs1 hb1
    by_cases hi : i < n
    · have c := setset_any (i : Int) wr hs
      rw [fill_new hi, fill_set hi] at c
      go_wp2_with fail
      with_reducible refine Calls.mono (c) ?_
      rintro e w2 ⟨rfl, hg, hs2⟩
      have hb2 := below_turn hb hg hbw
      clear hs hb hg c
      go_wp2_with fail
      go_roundw
      case rel => exact ⟨i + 1, by go_num, by omega, hs2, hb2⟩
      case measure => simp [intOf]; omega
    · obtain rfl : n = i := by omega
      have c1 := setcount_any wr hs
      rw [cnt_all (fun r hr => by simpa [fill] using hr)] at c1
      go_wp2_with fail
      with_reducible refine Calls.mono (c1) ?_
      rintro e w' ⟨rfl, k, rfl⟩
      have c2 := setnext_any 0 false _ (hs.drewN k) ((hT.below hb).drewN k)
      rw [next_not (fun r _ hr => by simp [fill, hr])] at c2
      go_wp2_with fail
      with_reducible refine Calls.mono (c2) ?_
      rintro e w' ⟨rfl, rfl⟩
      rw [holes_zero n d] at hs
      have hs := hs.drewN k
      have hb := below_drewN hb k
      generalize wr.drewN k = w2 at *
      clear c1 c2 i1 hi
      go_wp2_with fail
      go_loopw [9, 10] (fun o u wr => ∃ i : Nat, o = .int .i64 (cnt (mult d) i : Nat) ∧ u = .int .i64 i ∧ i % d = 0 ∧ i < n + d ∧ IsSet wr (b + 1) b n (holes n d i) ∧ Below w.heap.size w wr) (fun _ u _ => (n + d - (intOf u).toNat))
      case atStart => exact ⟨0, rfl, rfl, Nat.zero_mod _, by omega, hs, hb⟩
      case round =>
        clear hs hb
        obtain ⟨i, rfl, rfl, i0, i1, hs, hb⟩ := hrel
        by_cases hi : i < n
        · have c := setclr_any (i : Int) wr hs
          rw [hasI_nat, clrM_nat, holes_in hi, holes_clr d1 d2 i0] at c
          go_wp2_with fail
          with_reducible refine Calls.mono (c) ?_
          rintro e w3 ⟨rfl, hg, hs2⟩
          have hb2 := below_turn hb hg hbw
          have c := setclr_any (i : Int) w3 hs2
          rw [hasI_nat, clrM_nat, holes_gone d1 i0, upd_same (holes_gone d1 i0)] at c
          clear hs hb hg
          go_wp2_with fail
          with_reducible refine Calls.mono (c) ?_
          rintro e w4 ⟨rfl, hg, hs3⟩
          have hb3 := below_turn hb2 hg hbw
          have c := sethas_any (i : Int) w4 hs3
          rw [hasI_nat, holes_gone d1 i0] at c
          clear hs2 hb2 hg
          go_wp2_with fail
          with_reducible refine Calls.mono (c) ?_
          rintro e w' ⟨rfl, k2, rfl⟩
          have hs4 := hs3.drewN k2
          have hb4 := below_drewN hb3 k2
          have hst := mult_step d1 d2 i0
          have hsm := step_mod i0
          have o1 := cnt_le (mult d) i
          have o2 : (cnt (mult d) i : Int) ≤ 310 := by omega
          have o3 : (0 : Int) ≤ (cnt (mult d) i : Int) := Int.natCast_nonneg _
          have d5 : (d : Int) ≤ 9 := by omega
          have i5 : (i : Int) ≤ 300 := by omega
          have hst : Hid (cnt (mult d) (i + d) = cnt (mult d) i + 1) := hst
          clear hs3 hb3 c o1
          go_wp2_with fail
          go_roundw
          case rel => exact ⟨i + d, by rw [hst.out]; rfl, by rw [Int.natCast_add], hsm, by omega, hs4, hb4⟩
          case measure => simp [intOf]; omega
        · have e1 := mult_end d1 d2 i0 (by omega) i1
          rw [holes_end (by omega)] at hs
          have e1 : Hid (cnt (mult d) i = cnt (mult d) n) := e1
          obtain ⟨wX, rfl⟩ : ∃ wX, wX = wr := ⟨_, rfl⟩
          rw [e1.out]
          go_wp2_with fail
          go_loopw [11] (fun u w3 => ∃ j : Nat, u = .int .i64 j ∧ j ≤ n ∧ ∃ c, w3 = wX.drewN c) (fun u _ => (n - (intOf u).toNat))
          case atStart => exact ⟨0, rfl, by omega, 0, rfl⟩
          case round =>
            obtain ⟨j, rfl, j1, c, rfl⟩ := hrel
            by_cases hj : j < n
            · have ch : ∀ m, Calls Tryd.prog 13 #[.pointer (some ⟨b + 1, 0, none⟩), .int .i64 j] (wX.drewN m) (Ans (.bool (!decide (j % d = 0))) (wX.drewN m)) := fun m => by
                have := sethas_any (j : Int) _ (hs.drewN m)
                rwa [hasI_nat, holes_has hj] at this
              have cn : ∀ m, Calls Tryd.prog 11 #[.pointer (some ⟨b + 1, 0, none⟩), .int .i64 j, .bool false] (wX.drewN m) (Same (.int .i64 (nextI (holes n d n) n j false)) (wX.drewN m)) := fun m => setnext_any (j : Int) false _ (hs.drewN m) ((hT.below hb).drewN m)
              have hd0 : ¬ (d : Int) = 0 := by omega
              have j5 : (j : Int) ≤ 300 := by omega
              by_cases hr0 : j % d = 0
              · have hr1 : (j : Int) % (d : Int) = 0 := by rw [← Int.natCast_emod, hr0]; rfl
                have hr2 : (j : Int).tmod (d : Int) = 0 := by rw [Int.tmod_eq_emod_of_nonneg (by omega), hr1]
                rw [decide_eq_true hr0] at ch
                rw [holes_next hj hr0] at cn
                have cn : Hid _ := cn
                go_wp2_with fail
                go_quiet ((go_at_call 13; refine quiet_at (ch _)))
                go_wp2_with fail
                refine Calls.mono (cn.out _) ?_
                rintro e w' ⟨rfl, rfl⟩
                go_wp2_with fail
                go_roundw
                case rel => exact ⟨j + 1, by go_num, by omega, _, rfl⟩
                case measure => simp [intOf]; omega
              · obtain ⟨r, hr⟩ : ∃ r : Int, (j : Int) % (d : Int) = r := ⟨_, rfl⟩
                have hrr : r = ((j % d : Nat) : Int) := by rw [← hr, Int.natCast_emod]
                have hr2 : (j : Int).tmod (d : Int) = r := by rw [Int.tmod_eq_emod_of_nonneg (by omega), hr]
                have hr3 : (r == 0) = false := by rw [beq_eq_false_iff_ne]; omega
                have hr4 : (r != 0) = true := by simp [bne, hr3]
                have r0 : 0 ≤ r := by omega
                rw [decide_eq_false hr0] at ch
                clear hrr
                generalize nextI (holes n d n) n j false = K at *
                have cn : Hid _ := cn
                go_wp2_with fail
                go_quiet ((go_at_call 13; refine quiet_at (ch _)))
                go_wp2_with fail
                refine Calls.mono (cn.out _) ?_
                rintro e w' ⟨rfl, rfl⟩
                go_wp2_with fail
                go_roundw
                case rel => exact ⟨j + 1, by go_num, by omega, _, rfl⟩
                case measure => simp [intOf]; omega
            · obtain rfl : n = j := by omega
              have hb2 := below_drewN hb c
              have hs2 := hs.drewN c
              generalize wX.drewN c = w3 at *
              have ct := told3_any w3 (hT.below hb2)
              go_wp2_with fail
              with_reducible refine Calls.mono (ct) ?_
              rintro e w4 ⟨rfl, hb3⟩
              have hs3 := hs2.below hb3
              have hb4 := below_then hb2 hb3
              have hT4 := hT.below hb4
              have hcn := holes_cnt n d
              have hin : Hid (cnt (holes n d n) n + cnt (mult d) n = n) := hcn
              have c1 := setcount_any w4 hs3
              have e5 : ((cnt (holes n d n) n : Nat) : Int) = (n : Int) - (cnt (mult d) n : Nat) := by omega
              rw [e5] at c1
              have m0 : (0 : Int) ≤ (cnt (mult d) n : Nat) := Int.natCast_nonneg _
              have m1 : ((cnt (mult d) n : Nat) : Int) ≤ 300 := by omega
              clear hcn hb2 hb3 hs2 ct hb hs
              go_wp2_with fail
              with_reducible refine Calls.mono (c1) ?_
              rintro e w' ⟨rfl, k3, rfl⟩
              have c2 := setall_any _ (hs3.drewN k3) (hT4.drewN k3)
              go_wp2_with fail
              with_reducible refine Calls.mono (c2) ?_
              rintro e w5 ⟨v, rfl, hb5, hv⟩
              have hs5 := (hs3.drewN k3).below hb5
              have hb6 := below_then (below_drewN hb4 k3) hb5
              have hT6 := hT.below hb6
              have c3 := setnext_any (n : Int) true w5 hs5 hT6
              have c4 := setnext_any (n : Int) false w5 hs5 hT6
              rw [next_not (fun r h1 h2 => by omega)] at c3 c4
              have hlen : (((mem (holes n d n) n).length : Nat) : Int) = (n : Int) - (cnt (mult d) n : Nat) := by rw [mem_len]; exact e5
              clear e5 hs3 hb4 hT4 c1 c2 hs5
              rcases hv.2 with ⟨rfl, h0⟩ | ⟨g, cap, cur, rfl, _⟩
              · rw [h0] at hlen
                have hlen : (n : Int) - (cnt (mult d) n : Nat) = 0 := by omega
                clear hv
                go_wp2_with fail
                refine Calls.mono c3 ?_
                rintro e w' ⟨rfl, rfl⟩
                go_wp2_with fail
                refine Calls.mono c4 ?_
                rintro e w' ⟨rfl, rfl⟩
                go_wp2_with fail
                go_ret
                exact ⟨rfl, hb6⟩
              · clear hv
                generalize (mem (holes n d n) n).length = L at *
                go_wp2_with fail
                refine Calls.mono c3 ?_
                rintro e w' ⟨rfl, rfl⟩
                go_wp2_with fail
                refine Calls.mono c4 ?_
                rintro e w' ⟨rfl, rfl⟩
                go_wp2_with fail
                go_ret
                exact ⟨rfl, hb6⟩

set_option maxRecDepth 100000 in
theorem lifted (os : Os) (started : os.Started) (H : Type) (enc : TypeId × Value → H) :
    ReturnsInHanded {} Tryd.checked os 3 .any (fun w args => (Rows.bitsFillsSpec.pre enc Tryd.prog Tryd.f3 [] false w args ∧ laidMetH Tryd.prog [("math/bits.deBruijn64tab", Rows.laid_math_bits_deBruijn64tab)] w) ∧ sizedMet enc Tryd.prog Tryd.f3 (OpenSpec.ofChange Rows.bitsFillsSpec) false w args) (Rows.bitsFillsSpec.post enc Tryd.prog Tryd.f3 false true false false) := by
  refine returnsInHanded_of_change_and (C := Tryd.checked) (X := fun w _ => laidMetH Tryd.prog [("math/bits.deBruijn64tab", Rows.laid_math_bits_deBruijn64tab)] w) (fun _ _ _ hh h => h.of_heap hh) own started (by kernel_rfl) Tryd.func3
    (ChangeSpec.witness_shaped (enc := enc) (C := Tryd.checked) (os := os) (X := fun w _ => laidMetH Tryd.prog [("math/bits.deBruijn64tab", Rows.laid_math_bits_deBruijn64tab)] w) false (World.doorLaid Tryd.prog 400 os) #[.int .i64 0, .int .i64 0] 8 rfl (World.shaped_of_RefB (by kernel_rfl) (by kernel_rfl)) (by kernel_rfl) (by kernel_rfl) (by kernel_rfl) (door_met os _)) ?_
  intro W base args ds gs before hval0 hW _ _ hL _
  have hval : ∀ (j : Nat) t v, Tryd.f3.params[j]? = some t → args[j]? = some v → Value.okWide Tryd.prog W .any base t v := hval0
  have hW' := hW
  obtain ⟨p, q, hA0, hV, rfl, hfz, hnd⟩ := hW
  have hA : DataW.TrodAll enc Tryd.prog W 0 (fun _ => true) true Tryd.f3.params.toList args.toList ds p := hA0
  rw [Tryd.params3] at hA hval
  obtain ⟨v0, vs0, d0, ds0, p0, q0, hargs, rfl, rfl, h0, r0⟩ := trodAll_cons hA
  obtain ⟨v1, vs1, d1, ds1, p1, q1, rfl, rfl, rfl, h1, r1⟩ := trodAll_cons r0
  obtain ⟨rfl, rfl, rfl⟩ := trodAll_nil r1
  obtain rfl : args = #[v0, v1] := by cases args; simp_all
  obtain ⟨rfl, rfl⟩ := trodVars_none hV
  obtain ⟨a0, rfl, rfl, rfl, w0⟩ := open_int Tryd.underlying3 (hval 0 3 v0 rfl rfl) h0
  obtain ⟨a1, rfl, rfl, rfl, w1⟩ := open_int Tryd.underlying3 (hval 1 3 v1 rfl rfl) h1
  clear hA0 hval0
  simp only [List.append_nil] at hW'
  refine (walk a0 a1 w0 w1 W (tab_of_laid hL)).mono fun e W' ⟨he, hg⟩ => ?_
  subst he
  exact ⟨_, rfl, post_of_below (pa := []) (pv := []) hW' (fun _ _ _ => (trodAll_cons_mk (shut_bool Tryd.underlying4 _) trodAll_mk0)) (fun sp _ => (trodAll_cons_mk (shut_int Tryd.underlying3 w0) (trodAll_cons_mk (shut_int Tryd.underlying3 w1) trodAll_mk0))) (fun _ _ => rfl) rfl hg⟩

theorem over : Rows.bitsFillsRow.holds Tryd.pinned (OpenSpec.ofChange Rows.bitsFillsSpec) :=
  OpenClaim.holds_of_wide 3 Tryd.f3 rfl rfl rfl rfl rfl rfl rfl ⟨rfl, rfl, rfl, rfl, rfl⟩ rfl rfl rfl rfl rfl (by kernel_rfl) Tryd.func3 (by kernel_rfl)
    (of_decide_eq_true (by kernel_rfl)) (by unfold Func.isWrapper; first | (rw [if_pos (by decide +kernel)]; kernel_rfl) | (rw [if_neg (by decide +kernel)]; exact ⟨rfl, rfl⟩))
    (fun os started H enc _ => lifted os started H enc)

theorem proved : Rows.BitsFillsCardSaid :=
  Claim7.holds_tied_plain_at .later [] [.data] true Rows.bitsFillsCard.stood.harness false
    over (fun _ h => by cases h) (by kernel_rfl) (fun _ h => by cases h) bitsFills_row_tie rfl ⟨rfl, rfl⟩ (by kernel_rfl) rfl
    (fun f fn hf hfn => by
      obtain rfl : f = 3 := Option.some.inj ((show Tryd.prog.funcNamed "treadmill/treadmilllaw3.BitsFills" = some 3 by kernel_rfl).symm.trans hf) |>.symm
      obtain rfl : fn = Tryd.f3 := (Option.some.inj (Tryd.func3.symm.trans hfn)).symm
      exact ⟨by kernel_rfl, fun j t ht => by
        rw [Tryd.params3] at ht
        have hm : t ∈ [3] := by simpa using Array.mem_of_getElem? ht
        have hall : ([3].all fun u => !Tryd.prog.wantsStandIn u) = true := by kernel_rfl
        exact (show Tryd.prog.wantsStandIn t = false by simpa using List.all_eq_true.1 hall t hm)⟩)
    (by kernel_rfl)
#print axioms proved
end Go.Proofs.YtongpnkejakceaaDoor.bitsFills
