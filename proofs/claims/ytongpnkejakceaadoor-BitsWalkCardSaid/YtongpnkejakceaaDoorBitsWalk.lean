/- For any whole number and any slice of whole numbers the statement BitsWalk answers true and leaves its arguments as they were: going from number to number by Next tells all that are in a set, and all that are not, once each. The library's table math/bits.deBruijn64tab lies as its initialiser lays it (tied by the card); no other condition. -/
import Derived.Test.YtongpnkejakceaaDoorSetArgs
import Derived.WalkKit
import Derived.ProofKit
import Derived.OpenShut
import Derived.Test.YtongpnkejakceaaDoorTie
import Derived.Test.YtongpnkejakceaaDoorCards
import Derived.LaidMore
import Derived.Stop.Joined
import Derived.SevenTiedAt
namespace Go.Proofs.YtongpnkejakceaaDoor.bitsWalk
open Go.ChangeShapes Go.WideShapes Go.ChangeAt Go.WideElems Go.RowKit Go.Lib Fx Bm
set_option linter.unusedVariables false

theorem own : ownKnob Tryd.prog.godebug = none := by kernel_rfl

theorem hasI_nat (M : Nat → Bool) (i : Nat) : hasI M (i : Int) = M i := by unfold hasI; rw [decide_eq_true (by omega), Bool.true_and, Int.toNat_natCast]
theorem cnt_skip {M : Nat → Bool} {q k : Nat} (h : q ≤ k) (hn : ∀ r, q ≤ r → r < k → M r = false) : cnt M k = cnt M q := by
  obtain ⟨d, rfl⟩ : ∃ d, k = q + d := ⟨k - q, by omega⟩
  rw [cnt_add, cnt_none fun t ht => hn (q + t) (by omega) (by omega), Nat.add_zero]
theorem cnt_other {M N : Nat → Bool} : ∀ {k : Nat}, (∀ i, i < k → M i = !N i) → cnt M k + cnt N k = k
  | 0, _ => rfl
  | k + 1, h => by
    have ih := cnt_other (k := k) fun i hi => h i (by omega)
    have e1 : cnt M (k + 1) = cnt M k + (if M k then 1 else 0) := rfl
    have e2 : cnt N (k + 1) = cnt N k + (if N k then 1 else 0) := rfl
    rw [e1, e2, h k (by omega)]
    cases N k <;> simp <;> omega
set_option maxRecDepth 100000 in
set_option maxHeartbeats 4000000 in
theorem walk (a0 : Int) (v1 : Value) (z1 : List Int) (w : World) (hT : TabAt w) (h1 : IntsArg w v1 z1) :
    Calls Tryd.prog 5 #[.int .i64 a0, v1] w fun e w' => e = .returned (.bool true) ∧ Below w.heap.size w w' := by
  obtain ⟨Y, hY⟩ : ∃ Y : Int, IntKind.u64.wrap a0 = Y := ⟨_, rfl⟩
  have y0 : 0 ≤ Y := by rw [← hY, IntKind.wrap_u64]; omega
  obtain ⟨n, hn⟩ : ∃ n : Nat, Y % 301 = (n : Int) := ⟨(Y % 301).toNat, by omega⟩
  have n1 : n ≤ 300 := by omega
  have cnew := setnew_any n (by omega) w
  have hlt := hT.lt
  rcases h1 with ⟨sp, cap, rfl, rfl⟩ | ⟨b0, off, cap, rfl, hz, hb0, hcell⟩
  · go_enter Tryd.func5, Tryd.ntmps5
    go_wp2_with fail
    with_reducible refine Calls.mono (cnew) ?_
    rintro e w1 ⟨rfl, hb1, hs1⟩
    obtain ⟨b, hbe⟩ : ∃ b, b = w.heap.size := ⟨_, rfl⟩
    have hbw : w.heap.size ≤ b := by omega
    rw [← hbe] at hs1 ⊢
    clear hbe cnew
    obtain ⟨M, hM⟩ : ∃ M : Nat → Bool, (fun _ => false) = M := ⟨_, rfl⟩
    rw [hM] at hs1
    clear hM
    go_wp2_with fail
    refine wp_loop_rounds 1 ?_
    rw [rounds_succ]
    obtain ⟨wX, rfl⟩ : ∃ wX, wX = w1 := ⟨_, rfl⟩
    have hs := hs1
    have hb := hb1
    clear hs1 hb1
    have cn1 : Hid (∀ m (k : Nat) has, Calls Tryd.prog 11 #[.pointer (some ⟨b + 1, 0, none⟩), .int .i64 ((k : Int) + 1), .bool has] (wX.drewN m) (Same (.int .i64 (nextI M n (k + 1) has)) (wX.drewN m))) := fun m k has => setnext_any ((k : Int) + 1) has _ (hs.drewN m) ((hT.below hb).drewN m)
    have ch : Hid (∀ m (k : Nat), Calls Tryd.prog 13 #[.pointer (some ⟨b + 1, 0, none⟩), .int .i64 k] (wX.drewN m) (Ans (.bool (M k)) (wX.drewN m))) := fun m k => by
      have := sethas_any (k : Int) _ (hs.drewN m)
      rwa [hasI_nat] at this
    have c0 : Calls Tryd.prog 11 #[.pointer (some ⟨b + 1, 0, none⟩), .int .i64 0, .bool true] wX (Same (.int .i64 (nextI M n 0 true)) wX) := setnext_any 0 true wX hs (hT.below hb)
    go_wp2_with fail
    with_reducible refine Calls.mono (c0) ?_
    rintro e w' ⟨rfl, rfl⟩
    clear c0
    go_wp2_with fail
    go_loopg [8, 10] n (fun g a u w3 => ∃ q : Nat, q + g = n ∧ a = .int .i64 (cnt M q : Nat) ∧ u = .int .i64 (nextI M n q true) ∧ ∃ c, w3 = wX.drewN c)
    case atStart => exact ⟨0, by omega, rfl, rfl, 0, rfl⟩
    case round =>
      obtain ⟨q, hq, rfl, rfl, c, rfl⟩ := hrel
      rcases next_ways M n q true with ⟨e, hno⟩ | ⟨k, e, k1, k2, k3, k4⟩
      · have hcs : cnt M n = cnt M q := cnt_skip (by omega) fun r h1 h2 => by have := hno r h1 h2; simpa using this
        rw [← hcs]
        clear hcs hno
        have c5 : Calls Tryd.prog 11 #[.pointer (some ⟨b + 1, 0, none⟩), .int .i64 (-5), .bool false] (wX.drewN c) (Same (.int .i64 (nextI M n 0 false)) (wX.drewN c)) := setnext_any (-5) false _ (hs.drewN c) ((hT.below hb).drewN c)
        go_wp2_with fail
        with_reducible refine Calls.mono (c5) ?_
        rintro e w' ⟨rfl, rfl⟩
        clear c5
        go_wp2_with fail
        go_loopg [9, 11] n (fun g a u w3 => ∃ q : Nat, q + g = n ∧ a = .int .i64 (cnt (fun i => !M i) q : Nat) ∧ u = .int .i64 (nextI M n q false) ∧ ∃ c, w3 = wX.drewN c)
        case atStart => exact ⟨0, by omega, rfl, rfl, c, rfl⟩
        case round =>
          obtain ⟨q, hq, rfl, rfl, c3, rfl⟩ := hrel
          rcases next_ways M n q false with ⟨e, hno⟩ | ⟨k, e, k1, k2, k3, k4⟩
          · have hcs : cnt (fun i => !M i) n = cnt (fun i => !M i) q := cnt_skip (by omega) fun r h1 h2 => by have := hno r h1 h2; simpa using this
            rw [← hcs]
            clear hcs hno
            have hb2 := below_drewN hb c3
            have hs2 := hs.drewN c3
            generalize wX.drewN c3 = w3 at *
            have ct := told3_any w3 (hT.below hb2)
            have hio := cnt_other (M := M) (N := fun i => !M i) (k := n) fun i _ => by simp
            go_wp2_with fail
            with_reducible refine Calls.mono (ct) ?_
            rintro e w4 ⟨rfl, hb3⟩
            have hs3 := hs2.below hb3
            have hb4 := below_then hb2 hb3
            have hT4 := hT.below hb4
            have c1 := setcount_any w4 hs3
            have hlen : (mem M n).length = cnt M n := mem_len M n
            have hio' : (cnt M n : Int) + (cnt (fun i => !M i) n : Nat) = (n : Int) := by omega
            have m0 : (0 : Int) ≤ (cnt M n : Nat) := Int.natCast_nonneg _
            have m1 : (0 : Int) ≤ (cnt (fun i => !M i) n : Nat) := Int.natCast_nonneg _
            clear hio hb2 hb3 hs2 ct hb hs cn1 ch
            go_wp2_with fail
            with_reducible refine Calls.mono (c1) ?_
            rintro e w' ⟨rfl, k3, rfl⟩
            have c2 := setall_any _ (hs3.drewN k3) (hT4.drewN k3)
            go_wp2_with fail
            with_reducible refine Calls.mono (c2) ?_
            rintro e w5 ⟨v, rfl, hb5, hv⟩
            have hb6 := below_then (below_drewN hb4 k3) hb5
            clear c1 c2 hs3 hb4 hT4
            rcases hv.2 with ⟨rfl, h0⟩ | ⟨g, cap2, cur, rfl, _⟩
            · rw [h0] at hlen
              have hlen : (cnt M n : Int) = 0 := by omega
              clear hv
              go_wp2_with fail
              go_ret
              exact ⟨rfl, hb6⟩
            · clear hv
              rw [hlen]
              go_wp2_with fail
              go_ret
              exact ⟨rfl, hb6⟩
          · have hcs : cnt (fun i => !M i) k = cnt (fun i => !M i) q := cnt_skip k1 fun r h1 h2 => by have := k4 r h1 h2; simpa using this
            have hc1 : cnt (fun i => !M i) (k + 1) = cnt (fun i => !M i) q + 1 := by
              have e1 : cnt (fun i => !M i) (k + 1) = cnt (fun i => !M i) k + (if !M k then 1 else 0) := rfl
              rw [e1, hcs, if_pos (by rw [k3]; rfl)]
            have hle := cnt_le (fun i => !M i) (k + 1)
            have hi1 : (cnt (fun i => !M i) q : Int) + 1 ≤ n := by omega
            have hi0 : (0 : Int) ≤ (cnt (fun i => !M i) q : Int) := Int.natCast_nonneg _
            have hk1 : (k : Int) < n := by omega
            have hc1 : Hid (cnt (fun i => !M i) (k + 1) = cnt (fun i => !M i) q + 1) := hc1
            have chk := ch.out c3 k
            rw [k3] at chk
            clear hcs hle k4 k3
            go_wp2_with fail
            with_reducible refine Calls.mono (chk) ?_
            rintro e w' ⟨rfl, dd, rfl⟩
            go_wp2_with fail
            refine Calls.mono (cn1.out _ k false) ?_
            rintro e w' ⟨rfl, rfl⟩
            go_wp2_with fail
            go_roundg (n - (k + 1))
            case measure => omega
            case rel => exact ⟨k + 1, by omega, by rw [hc1.out, Int.natCast_add]; rfl, rfl, _, rfl⟩
      · have hcs : cnt M k = cnt M q := cnt_skip k1 fun r h1 h2 => by have := k4 r h1 h2; simpa using this
        have hc1 : cnt M (k + 1) = cnt M q + 1 := by
          have e1 : cnt M (k + 1) = cnt M k + (if M k then 1 else 0) := rfl
          rw [e1, hcs, if_pos (by rw [k3])]
        have hle := cnt_le M (k + 1)
        have hi1 : (cnt M q : Int) + 1 ≤ n := by omega
        have hi0 : (0 : Int) ≤ (cnt M q : Int) := Int.natCast_nonneg _
        have hk1 : (k : Int) < n := by omega
        have hc1 : Hid (cnt M (k + 1) = cnt M q + 1) := hc1
        have chk := ch.out c k
        rw [k3] at chk
        clear hcs hle k4 k3
        go_wp2_with fail
        with_reducible refine Calls.mono (chk) ?_
        rintro e w' ⟨rfl, dd, rfl⟩
        go_wp2_with fail
        refine Calls.mono (cn1.out _ k true) ?_
        rintro e w' ⟨rfl, rfl⟩
        go_wp2_with fail
        go_roundg (n - (k + 1))
        case measure => omega
        case rel => exact ⟨k + 1, by omega, by rw [hc1.out, Int.natCast_add]; rfl, rfl, _, rfl⟩
  · obtain ⟨m, hm⟩ : ∃ m, z1.length = m := ⟨_, rfl⟩
    rw [hm] at hz hcell ⊢
    clear hm
    have hcell : Hid _ := hcell
    by_cases h60 : m ≤ 60
    · go_enter Tryd.func5, Tryd.ntmps5
      go_wp2_with fail
      with_reducible refine Calls.mono (cnew) ?_
      rintro e w1 ⟨rfl, hb1, hs1⟩
      obtain ⟨b, hbe⟩ : ∃ b, b = w.heap.size := ⟨_, rfl⟩
      have hbw : w.heap.size ≤ b := by omega
      rw [← hbe] at hs1 ⊢
      clear hbe cnew
      obtain ⟨M0, hM⟩ : ∃ M : Nat → Bool, (fun _ => false) = M := ⟨_, rfl⟩
      rw [hM] at hs1
      clear hM
      go_wp2_with fail
      go_loopw [7] (fun u wr => ∃ (i : Nat) (M : Nat → Bool), u = .int .i64 i ∧ i ≤ m ∧ IsSet wr (b + 1) b n M ∧ Below w.heap.size w wr) (fun u _ => (m - (intOf u).toNat))
      case atStart => exact ⟨0, M0, rfl, by omega, hs1, hb1⟩
      case round =>
        obtain ⟨i, M, rfl, i1, hs, hb⟩ := hrel
        clear hs1 hb1
        by_cases hi : i < m
        · have hc : wr.cell? ⟨b0, off + i, none⟩ = some (.int .i64 (z1.getD i 0)) := by rw [hb.cell hb0]; exact hcell.out i hi
          generalize z1.getD i 0 = x at *
          obtain ⟨X, hX⟩ : ∃ X : Int, IntKind.u64.wrap x = X := ⟨_, rfl⟩
          have x0 : 0 ≤ X := by rw [← hX, IntKind.wrap_u64]; omega
          obtain ⟨k, hk⟩ : ∃ k : Int, X % 320 = k := ⟨_, rfl⟩
          have kk0 : 0 ≤ k := by omega
          have kk1 : k < 320 := by omega
          have cs := setset_any k wr hs
          generalize (decide (0 ≤ k ∧ k < (n : Int)) && !hasI M k) = B at *
          generalize setM M n k = M2 at *
          go_wp2_with fail
          with_reducible refine Calls.mono (cs) ?_
          rintro e w2 ⟨rfl, hg, hs2⟩
          have hb2 := below_turn hb hg hbw
          clear hs hb hg cs
          go_wp2_with fail
          go_roundw
          case rel => exact ⟨i + 1, M2, by go_num, by omega, hs2, hb2⟩
          case measure => simp [intOf]; omega
        · obtain rfl : m = i := by omega
          obtain ⟨wX, rfl⟩ : ∃ wX, wX = wr := ⟨_, rfl⟩
          have cn1 : Hid (∀ m (k : Nat) has, Calls Tryd.prog 11 #[.pointer (some ⟨b + 1, 0, none⟩), .int .i64 ((k : Int) + 1), .bool has] (wX.drewN m) (Same (.int .i64 (nextI M n (k + 1) has)) (wX.drewN m))) := fun m k has => setnext_any ((k : Int) + 1) has _ (hs.drewN m) ((hT.below hb).drewN m)
          have ch : Hid (∀ m (k : Nat), Calls Tryd.prog 13 #[.pointer (some ⟨b + 1, 0, none⟩), .int .i64 k] (wX.drewN m) (Ans (.bool (M k)) (wX.drewN m))) := fun m k => by
            have := sethas_any (k : Int) _ (hs.drewN m)
            rwa [hasI_nat] at this
          have c0 : Calls Tryd.prog 11 #[.pointer (some ⟨b + 1, 0, none⟩), .int .i64 0, .bool true] wX (Same (.int .i64 (nextI M n 0 true)) wX) := setnext_any 0 true wX hs (hT.below hb)
          go_wp2_with fail
          with_reducible refine Calls.mono (c0) ?_
          rintro e w' ⟨rfl, rfl⟩
          clear c0
          go_wp2_with fail
          go_loopg [8, 10] n (fun g a u w3 => ∃ q : Nat, q + g = n ∧ a = .int .i64 (cnt M q : Nat) ∧ u = .int .i64 (nextI M n q true) ∧ ∃ c, w3 = wX.drewN c)
          case atStart => exact ⟨0, by omega, rfl, rfl, 0, rfl⟩
          case round =>
            obtain ⟨q, hq, rfl, rfl, c, rfl⟩ := hrel
            rcases next_ways M n q true with ⟨e, hno⟩ | ⟨k, e, k1, k2, k3, k4⟩
            · have hcs : cnt M n = cnt M q := cnt_skip (by omega) fun r h1 h2 => by have := hno r h1 h2; simpa using this
              rw [← hcs]
              clear hcs hno
              have c5 : Calls Tryd.prog 11 #[.pointer (some ⟨b + 1, 0, none⟩), .int .i64 (-5), .bool false] (wX.drewN c) (Same (.int .i64 (nextI M n 0 false)) (wX.drewN c)) := setnext_any (-5) false _ (hs.drewN c) ((hT.below hb).drewN c)
              go_wp2_with fail
              with_reducible refine Calls.mono (c5) ?_
              rintro e w' ⟨rfl, rfl⟩
              clear c5
              go_wp2_with fail
              go_loopg [9, 11] n (fun g a u w3 => ∃ q : Nat, q + g = n ∧ a = .int .i64 (cnt (fun i => !M i) q : Nat) ∧ u = .int .i64 (nextI M n q false) ∧ ∃ c, w3 = wX.drewN c)
              case atStart => exact ⟨0, by omega, rfl, rfl, c, rfl⟩
              case round =>
                obtain ⟨q, hq, rfl, rfl, c3, rfl⟩ := hrel
                rcases next_ways M n q false with ⟨e, hno⟩ | ⟨k, e, k1, k2, k3, k4⟩
                · have hcs : cnt (fun i => !M i) n = cnt (fun i => !M i) q := cnt_skip (by omega) fun r h1 h2 => by have := hno r h1 h2; simpa using this
                  rw [← hcs]
                  clear hcs hno
                  have hb2 := below_drewN hb c3
                  have hs2 := hs.drewN c3
                  generalize wX.drewN c3 = w3 at *
                  have ct := told3_any w3 (hT.below hb2)
                  have hio := cnt_other (M := M) (N := fun i => !M i) (k := n) fun i _ => by simp
                  go_wp2_with fail
                  with_reducible refine Calls.mono (ct) ?_
                  rintro e w4 ⟨rfl, hb3⟩
                  have hs3 := hs2.below hb3
                  have hb4 := below_then hb2 hb3
                  have hT4 := hT.below hb4
                  have c1 := setcount_any w4 hs3
                  have hlen : (mem M n).length = cnt M n := mem_len M n
                  have hio' : (cnt M n : Int) + (cnt (fun i => !M i) n : Nat) = (n : Int) := by omega
                  have m0 : (0 : Int) ≤ (cnt M n : Nat) := Int.natCast_nonneg _
                  have m1 : (0 : Int) ≤ (cnt (fun i => !M i) n : Nat) := Int.natCast_nonneg _
                  clear hio hb2 hb3 hs2 ct hb hs cn1 ch
                  go_wp2_with fail
                  with_reducible refine Calls.mono (c1) ?_
                  rintro e w' ⟨rfl, k3, rfl⟩
                  have c2 := setall_any _ (hs3.drewN k3) (hT4.drewN k3)
                  go_wp2_with fail
                  with_reducible refine Calls.mono (c2) ?_
                  rintro e w5 ⟨v, rfl, hb5, hv⟩
                  have hb6 := below_then (below_drewN hb4 k3) hb5
                  clear c1 c2 hs3 hb4 hT4
                  rcases hv.2 with ⟨rfl, h0⟩ | ⟨g, cap2, cur, rfl, _⟩
                  · rw [h0] at hlen
                    have hlen : (cnt M n : Int) = 0 := by omega
                    clear hv
                    go_wp2_with fail
                    go_ret
                    exact ⟨rfl, hb6⟩
                  · clear hv
                    rw [hlen]
                    go_wp2_with fail
                    go_ret
                    exact ⟨rfl, hb6⟩
                · have hcs : cnt (fun i => !M i) k = cnt (fun i => !M i) q := cnt_skip k1 fun r h1 h2 => by have := k4 r h1 h2; simpa using this
                  have hc1 : cnt (fun i => !M i) (k + 1) = cnt (fun i => !M i) q + 1 := by
                    have e1 : cnt (fun i => !M i) (k + 1) = cnt (fun i => !M i) k + (if !M k then 1 else 0) := rfl
                    rw [e1, hcs, if_pos (by rw [k3]; rfl)]
                  have hle := cnt_le (fun i => !M i) (k + 1)
                  have hi1 : (cnt (fun i => !M i) q : Int) + 1 ≤ n := by omega
                  have hi0 : (0 : Int) ≤ (cnt (fun i => !M i) q : Int) := Int.natCast_nonneg _
                  have hk1 : (k : Int) < n := by omega
                  have hc1 : Hid (cnt (fun i => !M i) (k + 1) = cnt (fun i => !M i) q + 1) := hc1
                  have chk := ch.out c3 k
                  rw [k3] at chk
                  clear hcs hle k4 k3
                  go_wp2_with fail
                  with_reducible refine Calls.mono (chk) ?_
                  rintro e w' ⟨rfl, dd, rfl⟩
                  go_wp2_with fail
                  refine Calls.mono (cn1.out _ k false) ?_
                  rintro e w' ⟨rfl, rfl⟩
                  go_wp2_with fail
                  go_roundg (n - (k + 1))
                  case measure => omega
                  case rel => exact ⟨k + 1, by omega, by rw [hc1.out, Int.natCast_add]; rfl, rfl, _, rfl⟩
            · have hcs : cnt M k = cnt M q := cnt_skip k1 fun r h1 h2 => by have := k4 r h1 h2; simpa using this
              have hc1 : cnt M (k + 1) = cnt M q + 1 := by
                have e1 : cnt M (k + 1) = cnt M k + (if M k then 1 else 0) := rfl
                rw [e1, hcs, if_pos (by rw [k3])]
              have hle := cnt_le M (k + 1)
              have hi1 : (cnt M q : Int) + 1 ≤ n := by omega
              have hi0 : (0 : Int) ≤ (cnt M q : Int) := Int.natCast_nonneg _
              have hk1 : (k : Int) < n := by omega
              have hc1 : Hid (cnt M (k + 1) = cnt M q + 1) := hc1
              have chk := ch.out c k
              rw [k3] at chk
              clear hcs hle k4 k3
              go_wp2_with fail
              with_reducible refine Calls.mono (chk) ?_
              rintro e w' ⟨rfl, dd, rfl⟩
              go_wp2_with fail
              refine Calls.mono (cn1.out _ k true) ?_
              rintro e w' ⟨rfl, rfl⟩
              go_wp2_with fail
              go_roundg (n - (k + 1))
              case measure => omega
              case rel => exact ⟨k + 1, by omega, by rw [hc1.out, Int.natCast_add]; rfl, rfl, _, rfl⟩
    · go_enter Tryd.func5, Tryd.ntmps5
      go_wp2_with fail
      with_reducible refine Calls.mono (cnew) ?_
      rintro e w1 ⟨rfl, hb1, hs1⟩
      have ct := told3_any w1 (hT.below hb1)
      go_wp2_with fail
      with_reducible refine Calls.mono (ct) ?_
      rintro e w2 ⟨rfl, hb2⟩
      go_wp2_with fail
      go_ret
      exact ⟨rfl, below_then hb1 hb2⟩

set_option maxRecDepth 100000 in
theorem lifted (os : Os) (started : os.Started) (H : Type) (enc : TypeId × Value → H) :
    ReturnsInHanded {} Tryd.checked os 5 .any (fun w args => (Rows.bitsWalkSpec.pre enc Tryd.prog Tryd.f5 [] false w args ∧ laidMetH Tryd.prog [("math/bits.deBruijn64tab", Rows.laid_math_bits_deBruijn64tab)] w) ∧ sizedMet enc Tryd.prog Tryd.f5 (OpenSpec.ofChange Rows.bitsWalkSpec) false w args) (Rows.bitsWalkSpec.post enc Tryd.prog Tryd.f5 false true false false) := by
  refine returnsInHanded_of_change_and (C := Tryd.checked) (X := fun w _ => laidMetH Tryd.prog [("math/bits.deBruijn64tab", Rows.laid_math_bits_deBruijn64tab)] w) (fun _ _ _ hh h => h.of_heap hh) own started (by kernel_rfl) Tryd.func5
    (ChangeSpec.witness_shaped (enc := enc) (C := Tryd.checked) (os := os) (X := fun w _ => laidMetH Tryd.prog [("math/bits.deBruijn64tab", Rows.laid_math_bits_deBruijn64tab)] w) false (World.doorLaid Tryd.prog 400 os) #[.int .i64 0, .slice none 0 0] 8 rfl (World.shaped_of_RefB (by kernel_rfl) (by kernel_rfl)) (by kernel_rfl) (by kernel_rfl) (by kernel_rfl) (door_met os _)) ?_
  intro W base args ds gs before hval0 hW _ _ hL _
  have hval : ∀ (j : Nat) t v, Tryd.f5.params[j]? = some t → args[j]? = some v → Value.okWide Tryd.prog W .any base t v := hval0
  have hW' := hW
  obtain ⟨p, q, hA0, hV, rfl, hfz, hnd⟩ := hW
  have hA : DataW.TrodAll enc Tryd.prog W 0 (fun _ => true) true Tryd.f5.params.toList args.toList ds p := hA0
  rw [Tryd.params5] at hA hval
  obtain ⟨v0, vs0, d0, ds0, p0, q0, hargs, rfl, rfl, h0, r0⟩ := trodAll_cons hA
  obtain ⟨v1, vs1, d1, ds1, p1, q1, rfl, rfl, rfl, h1, r1⟩ := trodAll_cons r0
  obtain ⟨rfl, rfl, rfl⟩ := trodAll_nil r1
  obtain rfl : args = #[v0, v1] := by cases args; simp_all
  obtain ⟨rfl, rfl⟩ := trodVars_none hV
  obtain ⟨z1, i1⟩ := ints_arg ((hval 1 29 v1 rfl rfl)) h1
  obtain ⟨a0, rfl, rfl, rfl, w0⟩ := open_int Tryd.underlying3 (hval 0 3 v0 rfl rfl) h0
  clear hA0 hval0
  simp only [List.append_nil] at hW'
  have lt1 : ∀ x ∈ p1, x.block < W.heap.size := fun x hx => by have := hW'.lt x (by simp [hx]); simpa using this
  refine (walk a0 v1 z1 W (tab_of_laid hL) i1).mono fun e W' ⟨he, hg⟩ => ?_
  subst he
  exact ⟨_, rfl, post_of_kept (pa := _) (pv := []) hW' (fun _ _ _ => (trodAll_cons_mk (shut_bool Tryd.underlying4 _) trodAll_mk0)) (trodAll_cons_mk (shut_int Tryd.underlying3 w0) (trodAll_cons_mk (Below.trod laidOut (by kernel_rfl) (of_decide_eq_true (by kernel_rfl)) h1 hg lt1) trodAll_mk0)) (fun _ _ => rfl) (by simp) hg⟩

theorem over : Rows.bitsWalkRow.holds Tryd.pinned (OpenSpec.ofChange Rows.bitsWalkSpec) :=
  OpenClaim.holds_of_wide 5 Tryd.f5 rfl rfl rfl rfl rfl rfl rfl ⟨rfl, rfl, rfl, rfl, rfl⟩ rfl rfl rfl rfl rfl (by kernel_rfl) Tryd.func5 (by kernel_rfl)
    (of_decide_eq_true (by kernel_rfl)) (by unfold Func.isWrapper; first | (rw [if_pos (by decide +kernel)]; kernel_rfl) | (rw [if_neg (by decide +kernel)]; exact ⟨rfl, rfl⟩))
    (fun os started H enc _ => lifted os started H enc)

theorem proved : Rows.BitsWalkCardSaid :=
  Claim7.holds_tied_plain_at .later [] [.data] true Rows.bitsWalkCard.stood.harness false
    over (fun _ h => by cases h) (by kernel_rfl) (fun _ h => by cases h) bitsWalk_row_tie rfl ⟨rfl, rfl⟩ (by kernel_rfl) rfl
    (fun f fn hf hfn => by
      obtain rfl : f = 5 := Option.some.inj ((show Tryd.prog.funcNamed "treadmill/treadmilllaw3.BitsWalk" = some 5 by kernel_rfl).symm.trans hf) |>.symm
      obtain rfl : fn = Tryd.f5 := (Option.some.inj (Tryd.func5.symm.trans hfn)).symm
      exact ⟨by kernel_rfl, fun j t ht => by
        rw [Tryd.params5] at ht
        have hm : t ∈ [3, 29] := by simpa using Array.mem_of_getElem? ht
        have hall : ([3, 29].all fun u => !Tryd.prog.wantsStandIn u) = true := by kernel_rfl
        exact (show Tryd.prog.wantsStandIn t = false by simpa using List.all_eq_true.1 hall t hm)⟩)
    (by kernel_rfl)
#print axioms proved
end Go.Proofs.YtongpnkejakceaaDoor.bitsWalk
