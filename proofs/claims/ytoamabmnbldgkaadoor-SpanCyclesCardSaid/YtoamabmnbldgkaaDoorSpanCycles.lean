/- For any whole number (a class) and any two slices of whole numbers (allocations, marks) the statement SpanCycles answers true and leaves its arguments as they were: through many sweeps the places that are used are those that were marked, and those that were allocated since. The library's table math/bits.deBruijn64tab lies as its initialiser lays it (tied by the card); no other condition. -/
import Derived.Test.YtoamabmnbldgkaaDoorSpanCyc
import Derived.WalkKit
import Derived.ProofKit
import Derived.OpenShut
import Derived.Test.YtoamabmnbldgkaaDoorTie
import Derived.Test.YtoamabmnbldgkaaDoorCards
import Derived.LaidMore
import Derived.Stop.Joined
import Derived.SevenTiedAt
namespace Go.Proofs.YtoamabmnbldgkaaDoor.spanCycles
open Go.ChangeShapes Go.WideShapes Go.ChangeAt Go.WideElems Go.RowKit Go.Lib Fx Bm Cl
set_option linter.unusedVariables false

theorem own : ownKnob Tryd.prog.godebug = none := by kernel_rfl

set_option maxRecDepth 100000 in
set_option maxHeartbeats 4000000 in
theorem walk (a0 : Int) (v1 : Value) (z1 : List Int) (v2 : Value) (z2 : List Int) (w : World) (hT : TabAt w) (h1 : IntsArg w v1 z1) (h2 : IntsArg w v2 z2) :
    Calls Tryd.prog 4 #[.int .i64 a0, v1, v2] w fun e w' => e = .returned (.bool true) ∧ Below w.heap.size w w' := by
  obtain ⟨Y, hY⟩ : ∃ Y : Int, IntKind.u64.wrap a0 = Y := ⟨_, rfl⟩
  have y0 : 0 ≤ Y := by rw [← hY, IntKind.wrap_u64]; omega
  obtain ⟨c, hc⟩ : ∃ c : Nat, Y % 16 = (c : Int) := ⟨(Y % 16).toNat, by omega⟩
  have hc15 : c ≤ 15 := by omega
  have hsl := slots_in (k := c) (by omega) (by omega)
  obtain ⟨n, hn⟩ : ∃ n : Nat, (n : Int) = slotsI c := ⟨(slotsI c).toNat, by omega⟩
  have n1 : 1 ≤ (n : Int) := by omega
  have n2 : (n : Int) ≤ 64 := by omega
  have cnew := span_new 7 c n hc15 hn (by omega) (by omega) w
  have hlt := hT.lt
  obtain ⟨sp1, cap1, rfl, hl1, hc1⟩ := h1.at_
  obtain ⟨sp2, cap2, rfl, hl2, hc2⟩ := h2.at_
  obtain ⟨L1, hL1⟩ : ∃ L, z1.length = L := ⟨_, rfl⟩
  obtain ⟨L2, hL2⟩ : ∃ L, z2.length = L := ⟨_, rfl⟩
  rw [hL1] at hl1 hc1 ⊢
  rw [hL2] at hl2 hc2 ⊢
  clear h1 h2 hL1 hL2 hsl hn
  replace hc1 := Lib.hid hc1
  replace hc2 := Lib.hid hc2
  by_cases g1 : L1 ≤ 12
  · by_cases g2 : L1 ≤ L2
    · have d1 : decide ((12 : Int) < (L1 : Int)) = false := decide_eq_false (by omega)
      have d2 : decide ((L2 : Int) < (L1 : Int)) = false := decide_eq_false (by omega)
      have d3 : decide (L2 < L1) = false := decide_eq_false (by omega)
      go_enter Tryd.func4, Tryd.ntmps4
      go_wp2_with fail
      with_reducible refine Calls.mono (cnew) ?_
      rintro e w1 ⟨B, rfl, hb1, hlo, hs1⟩
      have hT1 := hT.below hb1
      have htl : 0 < B.lo := by omega
      clear cnew
      go_wp2_with fail
      obtain ⟨T, hTop⟩ : ∃ T, w1.heap.size = T := ⟨_, rfl⟩
      have hBT : B.hi ≤ T := by rw [← hTop]; exact hs1.top
      have hTw : T ≤ w1.heap.size := by omega
      have hwT : w.heap.size ≤ T := by rw [← hTop]; exact hb1.size
      have hcy : Hid (Cy w B c n 0 (fun _ => false) T (.slice none 0 0) w1) := ⟨hs1, fun r h => by omega, Or.inl ⟨rfl, by unfold mem; simp⟩, hT1, hTw, hb1⟩
      clear hTop hs1 hT1 hTw hb1 d1 d2 d3
      go_loopw [9, 10] (fun u v wr => ∃ (i fr : Nat) (U : Nat → Bool), v = .int .i64 i ∧ i ≤ L1 ∧ Hid (Cy w B c n fr U T u wr)) (fun _ v _ => (L1 - (intOf v).toNat))
      case atStart => exact ⟨0, 0, _, rfl, by omega, hcy⟩
      case round =>
        obtain ⟨i, fr, U, rfl, i1, hcy2⟩ := hrel
        obtain ⟨u, rfl⟩ : ∃ u, u = u9 := ⟨_, rfl⟩
        clear hcy
        by_cases hi : i < L1
        · obtain ⟨b1, off1, rfl, _, hb1, hcell1⟩ := hc1.out i hi
          obtain ⟨b2, off2, rfl, _, hb2, hcell2⟩ := hc2.out i (by omega)
          have i2 : (i : Int) < (L1 : Int) := by omega
          have i3 : (i : Int) < (L2 : Int) := by omega
          have i12 : (i : Int) ≤ 12 := by omega
          generalize z1.getD i 0 = x at *
          generalize z2.getD i 0 = y at *
          obtain ⟨X, hX⟩ : ∃ X : Int, IntKind.u64.wrap x = X := ⟨_, rfl⟩
          have x0 : 0 ≤ X := by rw [← hX, IntKind.wrap_u64]; omega
          obtain ⟨a, ha⟩ : ∃ a : Nat, X % 20 = (a : Int) := ⟨(X % 20).toNat, by omega⟩
          have a1 : (a : Int) < 20 := by omega
          obtain ⟨Z, hZ⟩ : ∃ Z : Int, IntKind.u64.wrap y = Z := ⟨_, rfl⟩
          have z0 : 0 ≤ Z := by rw [← hZ, IntKind.wrap_u64]; omega
          obtain ⟨mm, hmm⟩ : ∃ mm : Int, Z % 4 = mm := ⟨_, rfl⟩
          have mm0 : 0 ≤ mm := by omega
          have mm1 : mm < 4 := by omega
          obtain ⟨m, hm⟩ : ∃ m : Nat, 1 + mm = (m : Int) := ⟨(1 + mm).toNat, by omega⟩
          have m1 : 1 ≤ m := by omega
          have m2 : 1 ≤ (m : Int) := by omega
          have mz : ¬ (m : Int) = 0 := by omega
          replace hcell1 := Lib.hid hcell1
          replace hcell2 := Lib.hid hcell2
          clear hi
          go_wp2_with fail
          go_loopw [9, 11] (fun u v wr => ∃ (k fr : Nat) (U : Nat → Bool), v = .int .i64 k ∧ k ≤ a ∧ Hid (Cy w B c n fr U T u wr)) (fun _ v _ => (a - (intOf v).toNat))
          case atStart => exact ⟨0, fr, U, rfl, by omega, hcy2⟩
          case round =>
            obtain ⟨k, fr, U, rfl, k1, hcy⟩ := hrel
            obtain ⟨u, rfl⟩ : ∃ u, u = u9 := ⟨_, rfl⟩
            clear hcy2
            have d1 : wr.cell? ⟨b1, off1 + i, none⟩ = some (.int .i64 x) := (hcy.out.bl.cell hb1).trans hcell1.out
            by_cases hk : k < a
            · have k2 : (k : Int) < (a : Int) := by omega
              obtain ⟨spu, capu, hu⟩ := lat_len hcy.out.l
              subst hu
              rcases next_ways U n fr false with ⟨hno, hall⟩ | ⟨q, hq, q1, q2, q3, q4⟩
              · have hcn : cnt U n = n := cnt_all fun r hr => by
                  by_cases h : r < fr
                  · exact hcy.out.low r h
                  · have := hall r (by omega) hr
                    simpa using this
                have al := span_alloc_no false _ hcy.out.s hcy.out.t hno
                have hcy3 := fun j => Lib.hid (hcy.out.below (below_drewN (Below.refl _ _) j))
                have cq := fun j => span_slots _ ((hcy3 j).out.s)
                replace hcy3 := Lib.hid hcy3
                replace cq := Lib.hid cq
                rw [hcn] at hcy3 ⊢
                replace hcn := Lib.hid hcn
                clear hno hall hcy
                go_wp2_with fail
                with_reducible refine Calls.mono (al) ?_
                rintro e w' ⟨rfl, j, rfl⟩
                clear al
                go_wp2_with fail
                with_reducible refine Calls.mono (cq.out j) ?_
                rintro e w' ⟨rfl, rfl⟩
                have hcy4 := hcy3.out j
                clear cq hcy3 d1
                go_wp2_with fail
                go_roundw
                case rel => exact ⟨k + 1, fr, U, by go_num, by omega, hcy4⟩
                case measure => simp [intOf]; omega
              · have al := span_alloc_white q _ hcy.out.s hcy.out.t htl hq q2
                have hcl : cnt U n < n := by
                  have := cnt_upd_in (M := U) (i := q) (k := n) q2 true
                  rw [q3] at this
                  have := cnt_le (upd U q true) n
                  simp at *
                  omega
                have hne : ((cnt U n : Int) == (n : Int)) = false := by rw [beq_eq_false_iff_ne]; omega
                have hlow : ∀ r, r < q → upd U q true r = true := fun r hr => by
                  unfold upd; rw [if_neg (by omega)]
                  by_cases h : r < fr
                  · exact hcy.out.low r h
                  · have := q4 r (by omega) hr
                    simpa using this
                replace hq := Lib.hid hq
                replace q3 := Lib.hid q3
                replace q4 := Lib.hid q4
                replace hlow := Lib.hid hlow
                go_wp2_with fail
                with_reducible refine Calls.mono (al) ?_
                rintro e w2 ⟨rfl, ht, hs2⟩
                have hl2 := lat_turned hcy.out.l ht hBT
                have hT2 := hcy.out.t.turned ht htl
                have hz2 : T ≤ w2.heap.size := Nat.le_trans hcy.out.sz ht.size
                have hb2' := ht.below hcy.out.bl hlo
                have hU := hcy.out.s.used.out
                clear al hcy ht d1
                go_wp2_with fail
                with_reducible refine Calls.mono (span_slots _ hs2) ?_
                rintro e w' ⟨rfl, rfl⟩
                have chh := rhas_any (q : Int) (hl2.ints (by have := mem_max U n; omega))
                rw [mem_ints hU, hasI_nat', q3.out] at chh
                have cpp := rput_at q q2 (by omega) hz2 hl2
                replace hl2 := Lib.hid hl2
                go_wp2_with fail
                with_reducible refine Calls.mono (chh) ?_
                rintro e w' ⟨rfl, rfl⟩
                go_wp2_with fail
                with_reducible refine Calls.mono (cpp) ?_
                rintro e w3 ⟨v', rfl, hb3, hl3⟩
                have hcy4 : Hid (Cy w B c n q (upd U q true) T v' w3) := ⟨hs2.below hb3, hlow.out, hl3, hT2.below hb3, Nat.le_trans hz2 hb3.size, below_then hb2' hb3⟩
                clear chh cpp hl2 hs2 hT2 hz2 hb2' hb3 hl3
                go_wp2_with fail
                go_roundw
                case rel => exact ⟨k + 1, q, _, by go_num, by omega, hcy4⟩
                case measure => simp [intOf]; omega
            · obtain rfl : a = k := by omega
              obtain ⟨wB, rfl⟩ : ∃ wB, wB = wr := ⟨_, rfl⟩
              have d2 : wB.cell? ⟨b2, off2 + i, none⟩ = some (.int .i64 y) := (hcy.out.bl.cell hb2).trans hcell2.out
              obtain ⟨spu, capu, hu⟩ := lat_len hcy.out.l
              subst hu
              go_wp2_with fail
              obtain ⟨C, hC⟩ : ∃ C, cnt U n = C := ⟨_, rfl⟩
              obtain ⟨T2, hT2e⟩ : ∃ T2, wB.heap.size = T2 := ⟨_, rfl⟩
              have hin := hcy.out.l.inB
              rw [hC, hT2e] at hin
              rw [hC]
              have hTT : T ≤ T2 := by rw [← hT2e]; exact hcy.out.sz
              have hwT2 : w.heap.size ≤ T2 := by rw [← hT2e]; exact hcy.out.bl.size
              have hs0 := hcy.out.s.of_same (V' := cyV U m 0) (fun _ => rfl) (fun r => by unfold cyV; simp)
              have hUo := hcy.out.s.used.out
              have hT0 := hcy.out.t
              have hb0 := hcy.out.bl
              have hC64 : C ≤ 64 := by rw [← hC]; have := cnt_le U n; omega
              obtain ⟨j0, hji, hz0, hz1, hz2⟩ := info_parts infoI
              have hsz0 : T2 ≤ wB.heap.size := by omega
              replace hC := Lib.hid hC
              replace hin := Lib.hid hin
              replace hUo := Lib.hid hUo
              replace hT0 := Lib.hid hT0
              clear hcy hk k1 d1 d2 hT2e
              replace ha := Lib.hid ha
              replace hmm := Lib.hid hmm
              go_loopw [14, 15, 17] (fun su gu v wr => ∃ (k t : Nat), v = .int .i64 k ∧ t ≤ n ∧ Hid (cnt U t = k) ∧ k ≤ C ∧ IsSpan wr B 7 c n fr U (cyV U m t) ∧ wr.ownsRow T2 3 1 su (mem (cyS U m) t).length ((mem (cyS U m) t).map fun (x : Nat) => Value.int .i64 x) ∧ wr.ownsRow T2 3 1 gu (mem (cyG U m) t).length ((mem (cyG U m) t).map fun (x : Nat) => Value.int .i64 x) ∧ Hid (Apart su gu) ∧ Hid (InB wr T T2 (.slice spu C capu) (mem U n)) ∧ Hid (TabAt wr) ∧ T2 ≤ wr.heap.size ∧ Below w.heap.size w wr) (fun _ _ v _ => (C - (intOf v).toNat))
              case atStart => exact ⟨0, 0, rfl, by omega, rfl, by omega, hs0, World.ownsRow_nil _ _ _ _, World.ownsRow_nil _ _ _ _, (fun g h => by cases h), hin, hT0, hsz0, hb0⟩
              case round =>
                obtain ⟨k, t, rfl, htn, htk, hkC, hs, hsu, hgu, hap, hin2, hTr, hsz, hb⟩ := hrel
                obtain ⟨su, rfl⟩ : ∃ su, su = u14 := ⟨_, rfl⟩
                obtain ⟨gu, rfl⟩ : ∃ gu, gu = u15 := ⟨_, rfl⟩
                clear hs0 hin hT0 hsz0 hb0
                by_cases hk : k < C
                · have hlt2 : (mem U t).length < (mem U n).length := by rw [mem_len, mem_len, htk.out, hC.out]; exact hk
                  obtain ⟨q, q1, q2, q3, q4, q5⟩ := mem_more hlt2
                  have hg := mem_get q2 q3
                  rw [q5, mem_len, htk.out] at hg
                  have hcq : cnt U q = k := by rw [← mem_len, q5, mem_len]; exact htk.out
                  obtain ⟨pb, off, rfl, hpb1, hpb2, hcell⟩ := hin2.out.cell (i := k) (by rw [mem_len, hC.out]; exact hk)
                  rw [hg.1] at hcell
                  obtain ⟨e1, e2, e3, e4⟩ := kp_rem2 (i := k) m1
                  have k2 : (k : Int) < (C : Int) := by omega
                  have hsl : (mem (cyS U m) t).length ≤ 64 := by rw [mem_len]; have := cnt_le (cyS U m) t; omega
                  have hgl : (mem (cyG U m) t).length ≤ 64 := by rw [mem_len]; have := cnt_le (cyG U m) t; omega
                  have hcs := cyS_skip (m := m) q1 q4
                  have hcg := cyG_skip (m := m) q1 q4
                  have hnt : cnt U (q + 1) = k + 1 := by
                    rw [← mem_len, mem_succ, if_pos q3, List.length_append, mem_len, hcq]; rfl
                  replace hnt := Lib.hid hnt
                  clear hlt2 q5 hg
                  cases hβ : decide (k % m = 0) with
                  | true =>
                    have hS : cyS U m q = true := by unfold cyS; rw [q3, hcq, hβ]; rfl
                    have hG : cyG U m q = false := by unfold cyG; rw [q3, hcq, hβ]; rfl
                    have cm := span_mark_yes q _ hs q3
                    rw [cyV_at q1, cyV_yes q1 q4 hS] at cm
                    have hms := mem_succ (cyS U m) q
                    have hmg := mem_succ (cyG U m) q
                    rw [hS, if_pos rfl, hcs] at hms
                    rw [hG, if_neg (by simp), List.append_nil, hcg] at hmg
                    rw [hβ] at e1 e3
                    replace hms := Lib.hid hms
                    replace hmg := Lib.hid hmg
                    replace q3 := Lib.hid q3
                    replace q4 := Lib.hid q4
                    clear hβ hS hG hcs hcg e2 e4 hcq
                    go_wp2_with fail
                    with_reducible refine Calls.mono (cm) ?_
                    rintro e w2 ⟨rfl, ht, hs2⟩
                    have hcell2 : w2.cell? ⟨pb, off + k, none⟩ = some (.int .i64 q) := ht.cell hcell (.inr (by show B.hi ≤ pb; omega))
                    have hT2' := hTr.out.turned ht htl
                    have hb2 := ht.below hb hlo
                    have hin3 := hin2.out.turned ht (.inl hBT)
                    have hsu2 := owns_turned hsu ht (by omega)
                    have hgu2 := owns_turned hgu ht (by omega)
                    have hsz2 : T2 ≤ w2.heap.size := Nat.le_trans hsz ht.size
                    replace hT2' := Lib.hid hT2'
                    replace hin3 := Lib.hid hin3
                    replace hgu2 := Lib.hid hgu2
                    clear cm hs hTr hb hin2 hsu hgu hsz ht hcell
                    go_wp2_with (at_builtin; refine wpList_append_apart rfl _ _ 27 rfl T2 3 j0 (.int .i64 0) 1 8 Tryd.underlying27 hji hz0 hz1 hz2 rfl (by decide) _ _ _ rfl (hsu2.alloc _) ⟨w2.heap.size, 0, none⟩ 1 1 [.int .i64 q] rfl rfl (news_one w2 (.int .i64 q) 3) (fun x hx => by simp at hx; subst hx; rfl) (by unfold maxLen; omega) (by omega) (by simp; omega) (by omega) ?_; intro v' w3 hown3 hgrow hwhere; have h2r := append_two hsz2 hsu2 hgu2.out hap.out hgrow hwhere; clear hwhere hgrow; replace h2r := Lib.hid h2r; replace hown3 := Lib.hid hown3)
                    obtain ⟨ht3, hgu3, hap3⟩ := h2r.out
                    have hs3 := hs2.turned ht3 (.inr (by omega))
                    have hT3 := hT2'.out.turned ht3 (by omega)
                    have hb3 := ht3.below hb2 hwT2
                    have hin4 := hin3.out.turned ht3 (.inr (Nat.le_refl _))
                    have hsz3 := Nat.le_trans hsz2 ht3.size
                    have hown4 := hown3.out
                    rw [show (mem (cyS U m) t).length + 1 = (mem (cyS U m) (q + 1)).length by rw [hms.out, List.length_append]; rfl, show (mem (cyS U m) t).map (fun (x : Nat) => Value.int .i64 x) ++ [Value.int .i64 q] = (mem (cyS U m) (q + 1)).map (fun (x : Nat) => Value.int .i64 x) by rw [hms.out, List.map_append]; rfl] at hown4
                    clear h2r hown3 hs2 hT2' hb2 hin3 hsu2 hgu2 hsz2 hcell2 hap ht3
                    go_roundw
                    case rel => exact ⟨k + 1, q + 1, by go_num, by omega, hnt, by omega, hs3, hown4, by rw [hmg.out]; exact hgu3, hap3, hin4, hT3, hsz3, hb3⟩
                    case measure => simp [intOf]; omega
                  | false =>
                    have hS : cyS U m q = false := by unfold cyS; rw [q3, hcq, hβ]; rfl
                    have hG : cyG U m q = true := by unfold cyG; rw [q3, hcq, hβ]; rfl
                    rw [cyV_no q1 q4 hS] at hs
                    have hms := mem_succ (cyS U m) q
                    have hmg := mem_succ (cyG U m) q
                    rw [hS, if_neg (by simp), List.append_nil, hcs] at hms
                    rw [hG, if_pos rfl, hcg] at hmg
                    rw [hβ] at e1 e3
                    replace hms := Lib.hid hms
                    replace hmg := Lib.hid hmg
                    replace q3 := Lib.hid q3
                    replace q4 := Lib.hid q4
                    replace hsu := Lib.hid hsu
                    clear hβ hS hG hcs hcg e2 e4 hcq
                    go_wp2_with (at_builtin; refine wpList_append_apart rfl _ _ 27 rfl T2 3 j0 (.int .i64 0) 1 8 Tryd.underlying27 hji hz0 hz1 hz2 rfl (by decide) _ _ _ rfl (hgu.alloc _) ⟨wr.heap.size, 0, none⟩ 1 1 [.int .i64 q] rfl rfl (news_one wr (.int .i64 q) 3) (fun x hx => by simp at hx; subst hx; rfl) (by unfold maxLen; omega) (by omega) (by simp; omega) (by omega) ?_; intro v' w3 hown3 hgrow hwhere; have h2r := append_two hsz hgu hsu.out hap.out.symm hgrow hwhere; clear hwhere hgrow; replace h2r := Lib.hid h2r; replace hown3 := Lib.hid hown3)
                    obtain ⟨ht3, hgu3, hap3⟩ := h2r.out
                    have hs3 := hs.turned ht3 (.inr (by omega))
                    have hT3 := hTr.out.turned ht3 (by omega)
                    have hb3 := ht3.below hb hwT2
                    have hin4 := hin2.out.turned ht3 (.inr (Nat.le_refl _))
                    have hsz3 := Nat.le_trans hsz ht3.size
                    have hown4 := hown3.out
                    rw [show (mem (cyG U m) t).length + 1 = (mem (cyG U m) (q + 1)).length by rw [hmg.out, List.length_append]; rfl, show (mem (cyG U m) t).map (fun (x : Nat) => Value.int .i64 x) ++ [Value.int .i64 q] = (mem (cyG U m) (q + 1)).map (fun (x : Nat) => Value.int .i64 x) by rw [hmg.out, List.map_append]; rfl] at hown4
                    have hap4 := hap3.symm
                    clear h2r hown3 hs hTr hb hin2 hsu hgu hsz hcell hap hap3 ht3
                    go_roundw
                    case rel => exact ⟨k + 1, q + 1, by go_num, by omega, hnt, by omega, hs3, by rw [hms.out]; exact hgu3, hown4, hap4, hin4, hT3, hsz3, hb3⟩
                    case measure => simp [intOf]; omega
                · obtain rfl : C = k := by omega
                  have htC : (mem U t).length = (mem U n).length := by rw [mem_len, mem_len, htk.out, hC.out]
                  have hno := mem_same htn htC
                  have hVe := cyV_end (m := m) hUo.out hno
                  have hs1 := hs.of_same (U' := U) (V' := cyS U m) (fun _ => rfl) hVe
                  have e1 : mem (swG U (cyS U m)) n = mem (cyG U m) t := by
                    rw [← cyG_skip (m := m) htn hno]
                    refine mem_congr fun i _ => ?_
                    unfold swG cyS cyG
                    cases U i <;> simp
                  have e2 : cnt (fun k => U k && cyS U m k) n = (mem (cyS U m) t).length := by
                    rw [← cyS_skip (m := m) htn hno, mem_len]
                    refine cnt_congr fun i _ => ?_
                    unfold cyS
                    cases U i <;> simp
                  have e3 : mem (cyS U m) n = mem (cyS U m) t := cyS_skip htn hno
                  have e4 : mem (fun k => U k && cyS U m k) n = mem (cyS U m) n := mem_congr fun i _ => by unfold cyS; cases U i <;> simp
                  obtain ⟨ssp, scap, hsue⟩ : ∃ ssp scap, su = .slice ssp (mem (cyS U m) t).length scap := by
                    rcases hsu.2 with ⟨h1, h0⟩ | ⟨g, cap, cur, h1, _⟩
                    · exact ⟨none, 0, by rw [h1, h0]⟩
                    · exact ⟨_, _, h1⟩
                  subst hsue
                  have cw := span_sweep _ hs1 hTr.out htl
                  obtain ⟨D, hD⟩ : ∃ D, (mem (cyS U m) t).length = D := ⟨_, rfl⟩
                  rw [hD] at e2 hsu ⊢
                  replace hno := Lib.hid hno
                  replace hVe := Lib.hid hVe
                  replace e1 := Lib.hid e1
                  replace e2 := Lib.hid e2
                  replace e3 := Lib.hid e3
                  replace e4 := Lib.hid e4
                  replace hD := Lib.hid hD
                  replace htC := Lib.hid htC
                  clear hs hin2 hap hk
                  go_wp2_with fail
                  with_reducible refine Calls.mono (cw) ?_
                  rintro e w2 ⟨sv, rfl, ht, hs2, hsv⟩
                  rw [e1.out] at hsv
                  have hgu2 := ints_of_owns (owns_turned hgu ht (by omega))
                  have hsu2 := owns_turned hsu ht (by omega)
                  have hT2' := hTr.out.turned ht htl
                  have hb2 := ht.below hb hlo
                  have hsz2 : T2 ≤ w2.heap.size := Nat.le_trans hsz ht.size
                  have ci := ints_any hsv hgu2
                  clear cw hs1 hTr hb hsz hgu hsu ht
                  go_wp2_with fail
                  with_reducible refine Calls.mono (ci) ?_
                  rintro e w' ⟨rfl, j1, rfl⟩
                  have cl := span_live _ (hs2.drewN j1)
                  rw [e2.out] at cl
                  clear ci hsv hgu2
                  go_wp2_with fail
                  with_reducible refine Calls.mono (cl) ?_
                  rintro e w' ⟨rfl, j2, rfl⟩
                  have hcy9 : Hid (Cy w B c n 0 (fun k => U k && cyS U m k) T (.slice ssp D scap) ((w2.drewN j1).drewN j2)) := by
                    have hbd : Below w2.heap.size w2 ((w2.drewN j1).drewN j2) := below_drewN (below_drewN (Below.refl _ _) _) _
                    refine ⟨hs2.below hbd, fun r h => by omega, ?_, hT2'.below hbd, Nat.le_trans hTT (Nat.le_trans hsz2 hbd.size), below_then hb2 hbd⟩
                    rw [e4.out, e3.out]
                    exact (LAt.of_owns hsu2 hTT).below hbd
                  clear cl hs2 hsu2 hT2' hb2 hsz2 hC hUo e1 e2 e3 e4 hno hVe hD htC htk
                  rw [World.drewN_drewN] at hcy9
                  go_wp2_with fail
                  go_roundw
                  case rel => exact ⟨i + 1, 0, _, by go_num, by omega, hcy9⟩
                  case measure => simp [intOf]; omega
        · obtain rfl : L1 = i := by omega
          have ct := told6_any wr hcy2.out.t
          go_wp2_with fail
          with_reducible refine Calls.mono (ct) ?_
          rintro e w2 ⟨rfl, hb⟩
          have hb2 := below_then hcy2.out.bl hb
          clear ct hcy2
          go_wp2_with fail
          go_ret
          exact ⟨rfl, hb2⟩
    · have d1 : decide ((12 : Int) < (L1 : Int)) = false := decide_eq_false (by omega)
      have d2 : decide ((L2 : Int) < (L1 : Int)) = true := decide_eq_true (by omega)
      have d3 : decide (L2 < L1) = true := decide_eq_true (by omega)
      go_enter Tryd.func4, Tryd.ntmps4
      go_wp2_with fail
      with_reducible refine Calls.mono (cnew) ?_
      rintro e w1 ⟨B, rfl, hb1, hlo, hs1⟩
      have ct := told6_any w1 (hT.below hb1)
      go_wp2_with fail
      with_reducible refine Calls.mono (ct) ?_
      rintro e w2 ⟨rfl, hb2⟩
      go_wp2_with fail
      go_ret
      exact ⟨rfl, below_then hb1 hb2⟩
  · have d1 : decide ((12 : Int) < (L1 : Int)) = true := decide_eq_true (by omega)
    go_enter Tryd.func4, Tryd.ntmps4
    go_wp2_with fail
    with_reducible refine Calls.mono (cnew) ?_
    rintro e w1 ⟨B, rfl, hb1, hlo, hs1⟩
    have ct := told6_any w1 (hT.below hb1)
    go_wp2_with fail
    with_reducible refine Calls.mono (ct) ?_
    rintro e w2 ⟨rfl, hb2⟩
    go_wp2_with fail
    go_ret
    exact ⟨rfl, below_then hb1 hb2⟩

set_option maxRecDepth 100000 in
theorem lifted (os : Os) (started : os.Started) (H : Type) (enc : TypeId × Value → H) :
    ReturnsInHanded {} Tryd.checked os 4 .any (fun w args => (Rows.spanCyclesSpec.pre enc Tryd.prog Tryd.f4 [] false w args ∧ laidMetH Tryd.prog [("math/bits.deBruijn64tab", Rows.laid_math_bits_deBruijn64tab)] w) ∧ sizedMet enc Tryd.prog Tryd.f4 (OpenSpec.ofChange Rows.spanCyclesSpec) false w args) (Rows.spanCyclesSpec.post enc Tryd.prog Tryd.f4 false true false false) := by
  refine returnsInHanded_of_change_and (C := Tryd.checked) (X := fun w _ => laidMetH Tryd.prog [("math/bits.deBruijn64tab", Rows.laid_math_bits_deBruijn64tab)] w) (fun _ _ _ hh h => h.of_heap hh) own started (by kernel_rfl) Tryd.func4
    (ChangeSpec.witness_shaped (enc := enc) (C := Tryd.checked) (os := os) (X := fun w _ => laidMetH Tryd.prog [("math/bits.deBruijn64tab", Rows.laid_math_bits_deBruijn64tab)] w) false (World.doorLaid Tryd.prog 400 os) #[.int .i64 0, .slice none 0 0, .slice none 0 0] 8 rfl (World.shaped_of_RefB (by kernel_rfl) (by kernel_rfl)) (by kernel_rfl) (by kernel_rfl) (by kernel_rfl) (door_met os _)) ?_
  intro W base args ds gs before hval0 hW _ _ hL _
  have hval : ∀ (j : Nat) t v, Tryd.f4.params[j]? = some t → args[j]? = some v → Value.okWide Tryd.prog W .any base t v := hval0
  have hW' := hW
  obtain ⟨p, q, hA0, hV, rfl, hfz, hnd⟩ := hW
  have hA : DataW.TrodAll enc Tryd.prog W 0 (fun _ => true) true Tryd.f4.params.toList args.toList ds p := hA0
  rw [Tryd.params4] at hA hval
  obtain ⟨v0, vs0, d0, ds0, p0, q0, hargs, rfl, rfl, h0, r0⟩ := trodAll_cons hA
  obtain ⟨v1, vs1, d1, ds1, p1, q1, rfl, rfl, rfl, h1, r1⟩ := trodAll_cons r0
  obtain ⟨v2, vs2, d2, ds2, p2, q2, rfl, rfl, rfl, h2, r2⟩ := trodAll_cons r1
  obtain ⟨rfl, rfl, rfl⟩ := trodAll_nil r2
  obtain rfl : args = #[v0, v1, v2] := by cases args; simp_all
  obtain ⟨rfl, rfl⟩ := trodVars_none hV
  obtain ⟨z1, i1⟩ := ints_arg ((hval 1 27 v1 rfl rfl)) h1
  obtain ⟨z2, i2⟩ := ints_arg ((hval 2 27 v2 rfl rfl)) h2
  obtain ⟨a0, rfl, rfl, rfl, w0⟩ := open_int Tryd.underlying3 (hval 0 3 v0 rfl rfl) h0
  clear hA0 hval0
  simp only [List.append_nil] at hW'
  have lt1 : ∀ x ∈ p1, x.block < W.heap.size := fun x hx => by have := hW'.lt x (by simp [hx]); simpa using this
  have lt2 : ∀ x ∈ p2, x.block < W.heap.size := fun x hx => by have := hW'.lt x (by simp [hx]); simpa using this
  refine (walk a0 v1 z1 v2 z2 W (tab_of_laid hL) i1 i2).mono fun e W' ⟨he, hg⟩ => ?_
  subst he
  exact ⟨_, rfl, post_of_kept (pa := _) (pv := []) hW' (fun _ _ _ => (trodAll_cons_mk (shut_bool Tryd.underlying4 _) trodAll_mk0)) (trodAll_cons_mk (shut_int Tryd.underlying3 w0) (trodAll_cons_mk (Below.trod laidOut (by kernel_rfl) (of_decide_eq_true (by kernel_rfl)) h1 hg lt1) (trodAll_cons_mk (Below.trod laidOut (by kernel_rfl) (of_decide_eq_true (by kernel_rfl)) h2 hg lt2) trodAll_mk0))) (fun _ _ => rfl) (by simp) hg⟩

theorem over : Rows.spanCyclesRow.holds Tryd.pinned (OpenSpec.ofChange Rows.spanCyclesSpec) :=
  OpenClaim.holds_of_wide 4 Tryd.f4 rfl rfl rfl rfl rfl rfl rfl ⟨rfl, rfl, rfl, rfl, rfl⟩ rfl rfl rfl rfl rfl (by kernel_rfl) Tryd.func4 (by kernel_rfl)
    (of_decide_eq_true (by kernel_rfl)) (by unfold Func.isWrapper; first | (rw [if_pos (by decide +kernel)]; kernel_rfl) | (rw [if_neg (by decide +kernel)]; exact ⟨rfl, rfl⟩))
    (fun os started H enc _ => lifted os started H enc)

theorem proved : Rows.SpanCyclesCardSaid :=
  Claim7.holds_tied_plain_at .later [] [.data] true Rows.spanCyclesCard.stood.harness false
    over (fun _ h => by cases h) (by kernel_rfl) (fun _ h => by cases h) spanCycles_row_tie rfl ⟨rfl, rfl⟩ (by kernel_rfl) rfl
    (fun f fn hf hfn => by
      obtain rfl : f = 4 := Option.some.inj ((show Tryd.prog.funcNamed "treadmill/treadmilllaw6.SpanCycles" = some 4 by kernel_rfl).symm.trans hf) |>.symm
      obtain rfl : fn = Tryd.f4 := (Option.some.inj (Tryd.func4.symm.trans hfn)).symm
      exact ⟨by kernel_rfl, fun j t ht => by
        rw [Tryd.params4] at ht
        have hm : t ∈ [3, 27] := by simpa using Array.mem_of_getElem? ht
        have hall : ([3, 27].all fun u => !Tryd.prog.wantsStandIn u) = true := by kernel_rfl
        exact (show Tryd.prog.wantsStandIn t = false by simpa using List.all_eq_true.1 hall t hm)⟩)
    (by kernel_rfl)
#print axioms proved
end Go.Proofs.YtoamabmnbldgkaaDoor.spanCycles
