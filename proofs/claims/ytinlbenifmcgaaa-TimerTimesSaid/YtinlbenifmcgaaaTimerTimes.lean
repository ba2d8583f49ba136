/- For any slice of whole numbers and any whole number the statement TimerTimes answers true and leaves its arguments as they were: nobody is woken ahead of their time, all are at it, in the order of their times, of like ones of their coming. No condition. -/
import Derived.Test.YtinlbenifmcgaaaTimerTold
import Derived.WalkKit
import Derived.ProofKit
import Derived.OpenShut
import Derived.Deep.RegionHeld3
import Derived.Deep.RegionWith
import Derived.Deep.Cut
import Derived.Deep.CutBlock
import Derived.Deep.CutRange
import Derived.Deep.LoopGhost
import Derived.Deep.DeepCutAuto
import Derived.RegionTactic
import Derived.StillTailTactics
namespace Go.Proofs.Ytinlbenifmcgaaa.timerTimes
open Go.ChangeShapes Go.WideShapes Go.ChangeAt Go.WideElems Go.RowKit Go.Lib Fx Ho Pt
set_option linter.unusedVariables false

theorem own : ownKnob Try.prog.godebug = none := by kernel_rfl

/-- The time of a sleeper. -/
def tw (z : Int) : Int := IntKind.u64.wrap z % 1000
theorem tw0 (z : Int) : 0 ≤ tw z := by unfold tw; omega
theorem tw1 (z : Int) : tw z < 1000 := by unfold tw; omega
/-- The first i sleepers. -/
def alls (zs : List Int) (i : Nat) : List Sl := (List.range i).map fun k => (tw (zs.getD k 0), (k : Int), (k : Int))
theorem alls_len (zs : List Int) (i : Nat) : (alls zs i).length = i := by unfold alls; rw [List.length_map, List.length_range]
theorem alls_succ (zs : List Int) (i : Nat) : alls zs (i + 1) = alls zs i ++ [(tw (zs.getD i 0), (i : Int), (i : Int))] := by
  unfold alls
  rw [List.range_succ, List.map_append]
  rfl
theorem alls_mem {zs : List Int} {i : Nat} {y : Sl} (h : y ∈ alls zs i) : ∃ k : Nat, k < i ∧ y = (tw (zs.getD k 0), (k : Int), (k : Int)) := by
  obtain ⟨k, hk, rfl⟩ := List.mem_map.1 h
  exact ⟨k, List.mem_range.1 hk, rfl⟩
theorem alls_apart (zs : List Int) (i : Nat) : (alls zs i).Pairwise fun a b => a.2.2 ≠ b.2.2 := by
  unfold alls
  rw [List.pairwise_map]
  exact (List.pairwise_lt_range (n := i)).imp fun {a b} h => by simp only; omega
theorem still_all (zs : List Int) (N : Nat) {s : Int} (hs : 1 ≤ s) : (alls zs N).filter (fun y => decide (0 - s < y.1)) = alls zs N :=
  List.filter_eq_self.2 fun y hy => by
    obtain ⟨k, _, rfl⟩ := alls_mem hy
    have := tw0 (zs.getD k 0)
    simp only [decide_eq_true_eq]
    omega
/-- Who still sleeps at now, all of them due after the time before. -/
structure Au (zs : List Int) (N : Nat) (s now cnt was : Int) (C : List Sl) : Prop where
  perm : C.Perm ((alls zs N).filter fun y => decide (now - s < y.1))
  sum : cnt + C.length = N
  aft : ∀ y ∈ C, was < y.1
  le : was ≤ now
theorem Au.mem {zs : List Int} {N : Nat} {s now cnt was : Int} {C : List Sl} (h : Au zs N s now cnt was C) {y : Sl} (hy : y ∈ C) : ∃ k : Nat, k < N ∧ y = (tw (zs.getD k 0), (k : Int), (k : Int)) ∧ now - s < y.1 := by
  have h1 := h.perm.mem_iff.1 hy
  rw [List.mem_filter] at h1
  obtain ⟨k, hk, e⟩ := alls_mem h1.1
  exact ⟨k, hk, e, of_decide_eq_true h1.2⟩
theorem Au.apart {zs : List Int} {N : Nat} {s now cnt was : Int} {C : List Sl} (h : Au zs N s now cnt was C) : C.Pairwise fun a b => a.2.2 ≠ b.2.2 :=
  (h.perm.symm.pairwise_iff (fun {a b} e e2 => e e2.symm)).1 ((alls_apart zs N).filter _)
theorem Au.none {zs : List Int} {N : Nat} {s now cnt was : Int} {C : List Sl} (h : Au zs N s now cnt was C) (hn : 1200 ≤ now) (hs : s ≤ 200) : C = [] := by
  refine List.eq_nil_iff_forall_not_mem.2 fun y hy => ?_
  obtain ⟨k, _, rfl, h2⟩ := h.mem hy
  have := tw1 (zs.getD k 0)
  simp only at h2
  omega
/-- In the midst of what Due told: D's places from k on are behind was and last. -/
structure Ad (now cnt last was : Int) (D M : List Sl) (N k : Nat) : Prop where
  sum : cnt + (D.length - k : Nat) + M.length = N
  aft : ∀ j, k ≤ j → j < D.length → was < (D.getD j Sl.sl0).1 ∨ was = (D.getD j Sl.sl0).1 ∧ last < (D.getD j Sl.sl0).2.2
  le : was ≤ now
theorem Au.due {zs : List Int} {N : Nat} {s now cnt was last : Int} {C D M : List Sl} (h : Au zs N s now cnt was C) (hd : Ds C D M) : Ad now cnt last was D M N 0 := by
  have hl := hd.perm.length_eq
  rw [List.length_append] at hl
  refine ⟨by have := h.sum; omega, fun j _ hj => Or.inl (h.aft _ (hd.perm.mem_iff.1 (List.mem_append_left _ ?_))), h.le⟩
  rw [Hm.getD_at hj]
  exact List.getElem_mem hj
theorem Au.next {zs : List Int} {N : Nat} {s now cnt was last cnt2 was2 : Int} {C D M : List Sl} (h : Au zs N s now cnt was C) (hd : Ds C D M) (h1 : ∀ a ∈ D, a.1 ≤ now) (h2 : ∀ b ∈ M, now < b.1) (hs : 1 ≤ s) (ha : Ad now cnt2 last was2 D M N D.length) : Au zs N s (now + s) cnt2 was2 M := by
  have p := (hd.part h1 h2).2.trans (h.perm.filter _)
  rw [List.filter_filter] at p
  refine ⟨?_, by have := ha.sum; omega, fun y hy => by have := h2 y hy; have := ha.le; omega, by have := ha.le; omega⟩
  rw [show (fun y : Sl => decide (now + s - s < y.1)) = fun y : Sl => decide (now < y.1) && decide (now - s < y.1) from ?_]
  · exact p
  · funext y
    rw [Int.add_sub_cancel]
    by_cases e : now < y.1
    · rw [decide_eq_true e, decide_eq_true (show now - s < y.1 by omega)]; rfl
    · rw [decide_eq_false e]; rfl
/-- The places of what Due told, and their order. -/
theorem Au.told {zs : List Int} {N : Nat} {s now cnt was : Int} {C D M : List Sl} (h : Au zs N s now cnt was C) (hd : Ds C D M) (h1 : ∀ a ∈ D, a.1 ≤ now) : (∀ k, k < D.length → ∃ j : Nat, j < N ∧ D.getD k Sl.sl0 = (tw (zs.getD j 0), (j : Int), (j : Int)) ∧ now - s < tw (zs.getD j 0) ∧ tw (zs.getD j 0) ≤ now) ∧
    ∀ k j, k < j → j < D.length → (D.getD k Sl.sl0).1 < (D.getD j Sl.sl0).1 ∨ (D.getD k Sl.sl0).1 = (D.getD j Sl.sl0).1 ∧ (D.getD k Sl.sl0).2.2 < (D.getD j Sl.sl0).2.2 := by
  refine ⟨fun k hk => ?_, fun k j hkj hj => ?_⟩
  · have hm : D.getD k Sl.sl0 ∈ D := by rw [Hm.getD_at hk]; exact List.getElem_mem hk
    obtain ⟨j, hj, e, e2⟩ := h.mem (hd.perm.mem_iff.1 (List.mem_append_left _ hm))
    have e3 := h1 _ hm
    rw [e] at e2 e3
    exact ⟨j, hj, e, e2, e3⟩
  · have hr := hd.rise
    have hp := (hd.perm.symm.pairwise_iff (fun {a b} (e : a.2.2 ≠ b.2.2) e2 => e e2.symm)).1 h.apart
    have hp := (List.pairwise_append.1 hp).1
    rw [Hm.getD_at hj, Hm.getD_at (Nat.lt_trans hkj hj)]
    have r1 := List.pairwise_iff_getElem.1 hr k j (Nat.lt_trans hkj hj) hj hkj
    have r2 := List.pairwise_iff_getElem.1 hp k j (Nat.lt_trans hkj hj) hj hkj
    unfold Sl.ahead at r1
    rw [decide_eq_false_iff_not] at r1
    omega
theorem Ad.step {now cnt last was T : Int} {D M : List Sl} {N k j : Nat} (h : Ad now cnt last was D M N k) (hk : k < D.length) (he : D.getD k Sl.sl0 = (T, (j : Int), (j : Int))) (ht : T ≤ now) (ho : ∀ k j, k < j → j < D.length → (D.getD k Sl.sl0).1 < (D.getD j Sl.sl0).1 ∨ (D.getD k Sl.sl0).1 = (D.getD j Sl.sl0).1 ∧ (D.getD k Sl.sl0).2.2 < (D.getD j Sl.sl0).2.2) : Ad now (cnt + 1) j T D M N (k + 1) := by
  refine ⟨by have := h.sum; omega, fun i hi hd => ?_, ht⟩
  have := ho k i (by omega) hd
  rw [he] at this
  exact this
theorem tl_next_no {B w : World} {p n : Nat} (h : Tl B w p [] n) : Calls Try.prog 11 #[.pointer (some ⟨p, 0, none⟩)] w (Still (.tuple #[.int .i64 0, .bool false]) w) := by
  obtain ⟨v, M, h1, h2, h3, h4⟩ := h
  obtain rfl := h2.eq_nil
  exact next_no h1
set_option maxRecDepth 100000 in
set_option maxHeartbeats 4000000 in
theorem walk (v0 : Value) (z0 : List Int) (a1 : Int) (w : World) (h0 : Ints w (fun k => k < w.heap.size) v0 z0) (w1 : (Lit.int .i64 a1).wf = true) :
    Calls Try.prog 5 #[v0, .int .i64 a1] w fun e w' => e = .returned (.bool true) ∧ Below w.heap.size w w' := by

  have ct := fun w => told_any w
  obtain ⟨sp, cap, rfl, hm, hc⟩ := h0
  go_enter Try.func5, Try.ntmps5
  rcases Int.lt_or_le 60 z0.length with hbig | hsm
  · skip
    go_wp2_with fail
    with_reducible refine Calls.mono (ct _) ?_
    rintro e w2 ⟨rfl, hb⟩
    go_wp2_with fail
    go_ret
    exact ⟨rfl, hb⟩
  · have cn := tl_new w
    obtain ⟨p, hp⟩ : ∃ p, w.heap.size = p := ⟨_, rfl⟩
    go_wp2_with fail
    with_reducible refine Calls.mono (cn) ?_
    rintro e w1 ⟨rfl, hs1⟩
    rw [hp] at hs1 ⊢
    clear hp cn
    go_wp2_with fail
    go_loopg [6] z0.length (fun g u wr => ∃ i : Nat, u = .int .i64 i ∧ i + g = z0.length ∧ Hid (Tl w wr p (alls z0 i) i))
    case atStart => exact ⟨0, rfl, by simp, Lib.hid hs1⟩
    case round =>
      clear hs1
      obtain ⟨i, rfl, hig, hst⟩ := hrel
      by_cases hi : i < z0.length
      · obtain ⟨b, off, rfl, hbS, hlt, hcc⟩ := hc i hi
        replace hcc := cell_then hst.out.bel hcc
        have ca := tl_add hst.out (by rw [alls_len]; omega) (by omega) (tw (z0.getD i 0)) i
        rw [← alls_succ] at ca
        obtain ⟨Y, hY⟩ : ∃ Y : Int, IntKind.u64.wrap (z0.getD i 0) = Y := ⟨_, rfl⟩
        have y0 : 0 ≤ Y := by rw [← hY, IntKind.wrap_u64]; omega
        obtain ⟨k, hk⟩ : ∃ k : Int, Y % 1000 = k := ⟨_, rfl⟩
        have k0 : 0 ≤ k := by omega
        have k1 : k < 1000 := by omega
        have htk : tw (z0.getD i 0) = k := by unfold tw; rw [hY, hk]
        rw [htk] at ca
        generalize z0.getD i 0 = zi at *
        clear htk hst hc
        go_wp2_with fail
        with_reducible refine Calls.mono (ca) ?_
        rintro e w2 ⟨rfl, hs2⟩
        replace hs2 := Lib.hid hs2
        go_wp2_with fail
        go_roundg (z0.length - (i + 1))
        case measure => omega
        case rel => exact ⟨i + 1, by simp, by omega, hs2⟩
      · have hie : i = z0.length := by omega
        subst hie
        obtain ⟨Y, hY⟩ : ∃ Y : Int, IntKind.u64.wrap a1 = Y := ⟨_, rfl⟩
        have y0 : 0 ≤ Y := by rw [← hY, IntKind.wrap_u64]; omega
        obtain ⟨s0, hs0⟩ : ∃ s0 : Int, Y % 200 = s0 := ⟨_, rfl⟩
        have s00 : 0 ≤ s0 := by omega
        have s01 : s0 < 200 := by omega
        have st := Lib.hid hst.out
        have sa : Hid (Au z0 z0.length (1 + s0) 0 0 (-1) (alls z0 z0.length)) := Lib.hid ⟨by rw [still_all _ _ (by omega)], by rw [alls_len]; omega, fun y hy => by
          obtain ⟨k, _, rfl⟩ := alls_mem hy
          have := tw0 (z0.getD k 0)
          simp only
          omega, by omega⟩
        clear hst
        go_wp2_with fail
        simp only [hs0]
        go_loopg [8, 9, 10, 11] 1400 (fun g u8 u9 u10 u11 wq => ∃ (cnt last was now : Int) (C : List Sl), 0 ≤ cnt ∧ u8 = .int .i64 cnt ∧ u9 = .int .i64 last ∧ u10 = .int .i64 was ∧ u11 = .int .i64 now ∧ 0 ≤ now ∧ now + g = 1400 ∧ Hid (Tl w wq p C z0.length) ∧ Hid (Au z0 z0.length (1 + s0) now cnt was C))
        case atStart => exact ⟨0, -1, -1, 0, _, by omega, rfl, rfl, rfl, rfl, by omega, by omega, st, sa⟩
        case round =>
          clear st sa
          obtain ⟨cnt, last, was, now, C, cnt0, rfl, rfl, rfl, rfl, now0, nowg, hT, hA⟩ := hrel
          by_cases hnow : now < 1200
          · have cd := tl_due hT.out now
            clear hT
            go_wp2_with fail
            with_reducible refine Calls.mono (cd) ?_
            rintro e w2 ⟨r, D, M, rfl, hi, hd, hd1, hd2, hT2⟩
            clear cd
            replace hT2 := Lib.hid hT2
            obtain ⟨ha1, ha2⟩ := hA.out.told hd hd1
            have ad0 : Hid (Ad now cnt last was D M z0.length 0) := Lib.hid (hA.out.due hd)
            have hnx : Hid (∀ cnt2 last was2, Ad now cnt2 last was2 D M z0.length D.length → Au z0 z0.length (1 + s0) (now + (1 + s0)) cnt2 was2 M) := Lib.hid fun cnt2 last was2 h => hA.out.next hd hd1 hd2 (by omega) h
            obtain ⟨sp2, cap2, rfl, hm2, hc2⟩ := hi
            rw [List.length_map] at hm2 hc2 ⊢
            clear hA hd hd1 hd2
            go_wp2_with fail
            go_loopg [8, 9, 10, 13] D.length (fun g u8 u9 u10 u13 wq => ∃ (cnt last was : Int) (k : Nat), 0 ≤ cnt ∧ u8 = .int .i64 cnt ∧ u9 = .int .i64 last ∧ u10 = .int .i64 was ∧ u13 = .int .i64 k ∧ k + g = D.length ∧ Below w2.heap.size w2 wq ∧ Hid (Ad now cnt last was D M z0.length k))
            case atStart => exact ⟨cnt, last, was, 0, cnt0, rfl, rfl, rfl, rfl, by omega, Below.refl _ _, ad0⟩
            case round =>
              clear ad0 cnt0 cnt last was
              obtain ⟨cnt, last, was, k, cnt0, rfl, rfl, rfl, rfl, hkg, hbq, had⟩ := hrel
              by_cases hk : k < D.length
              · obtain ⟨j, hj, he, hj1, hj2⟩ := ha1 k hk
                have hstep := Lib.hid (had.out.step hk he hj2 ha2)
                have haft := had.out.aft k (Nat.le_refl k) hk
                have hsum := had.out.sum
                rw [he] at haft
                simp only at haft
                obtain ⟨b2, off2, rfl, hbS2, hlt2, hcc2⟩ := hc2 k hk
                obtain ⟨b1, off1, rfl, hbS1, hlt1, hcc1⟩ := hc j hj
                have hgd : (D.map fun s => s.2.1).getD k 0 = (j : Int) := by
                  rw [List.getD_eq_getElem?_getD, List.getElem?_map, List.getElem?_eq_getElem hk]
                  rw [Hm.getD_at hk] at he
                  rw [he]
                  rfl
                rw [hgd] at hcc2
                replace hcc1 := cell_then (hT2.out.below hbq).bel hcc1
                replace hcc2 := cell_then hbq hcc2
                replace hbq := Lib.hid hbq
                obtain ⟨Y1, hY1⟩ : ∃ Y1 : Int, IntKind.u64.wrap (z0.getD j 0) = Y1 := ⟨_, rfl⟩
                have y10 : 0 ≤ Y1 := by rw [← hY1, IntKind.wrap_u64]; omega
                obtain ⟨T, hk1⟩ : ∃ T : Int, Y1 % 1000 = T := ⟨_, rfl⟩
                have k0 : 0 ≤ T := by omega
                have k1 : T < 1000 := by omega
                have htk : tw (z0.getD j 0) = T := by unfold tw; rw [hY1, hk1]
                rw [htk] at hj1 hj2 haft hstep
                generalize z0.getD j 0 = zj at *
                have hcu : cnt < 60 := by omega
                clear htk ha1 ha2 he hgd hc hc2 had hsum
                have e1 : ¬ (j : Int) < 0 := by omega
                have e2 : ¬ (j : Int) ≥ z0.length := by omega
                have e3 : ¬ T > now := by omega
                have e4 : ¬ T ≤ now - (1 + s0) := by omega
                have e5 : ¬ T < was := by omega
                rcases haft with hf | ⟨hf, hf2⟩
                · have e6 : ¬ T = was := by omega
                  go_wp2_with fail
                  go_region
                  all_goals
                    have hbz := below_drewN hbq.out 1
                    go_wp2_with fail
                    go_roundg (D.length - (k + 1))
                    case measure => omega
                    case rel => exact ⟨cnt + 1, j, T, k + 1, by omega, by simp, by simp, by simp, by simp, by omega, hbz, hstep⟩
                · obtain rfl : was = T := hf
                  have e6 : ¬ (j : Int) ≤ last := by omega
                  go_wp2_with fail
                  go_region
                  all_goals
                    have hbz := below_drewN hbq.out 1
                    go_wp2_with fail
                    go_roundg (D.length - (k + 1))
                    case measure => omega
                    case rel => exact ⟨cnt + 1, j, was, k + 1, by omega, by simp, by simp, by simp, by simp, by omega, hbz, hstep⟩
              · have hke : k = D.length := by omega
                subst hke
                have hAn := Lib.hid (hnx.out _ _ _ had.out)
                have hTn := Lib.hid (hT2.out.below hbq)
                clear ha1 ha2 had hnx hT2 hc2 hbq
                go_wp2_with fail
                go_roundg (1400 - (now + (1 + s0))).toNat
                case measure => omega
                case rel => exact ⟨cnt, last, was, now + (1 + s0), M, cnt0, by simp, by simp, by simp, by simp, by omega, by omega, hTn, hAn⟩
          · have hnil := hA.out.none (by omega) (by omega)
            subst hnil
            have hcn : cnt = z0.length := by
              have := hA.out.sum
              simp only [List.length_nil] at this
              omega
            clear hA
            have cx := tl_next_no hT.out
            go_wp2_with fail
            with_reducible refine Calls.mono (cx) ?_
            rintro e w3 ⟨rfl, rfl⟩
            clear cx
            go_wp2_with fail
            with_reducible refine Calls.mono (ct _) ?_
            rintro e w4 ⟨rfl, hb4⟩
            have hT4 := Lib.hid (hT.out.below hb4)
            have cl := tl_len hT4.out
            clear hT hb4
            go_wp2_with fail
            with_reducible refine Calls.mono (cl) ?_
            rintro e w5 ⟨rfl, rfl⟩
            go_wp2_with fail
            go_ret
            exact ⟨by simp, hT4.out.bel⟩

set_option maxRecDepth 100000 in
theorem lifted (os : Os) (started : os.Started) (H : Type) (enc : TypeId × Value → H) :
    ReturnsInHanded {} Try.checked os 5 .any (Rows.timerTimesSpec.pre6 enc Try.prog Try.f5 Rows.timerTimesRow.domain false) (Rows.timerTimesSpec.post enc Try.prog Try.f5 false true false false) := by
  refine returnsInHanded_of_change (C := Try.checked) own started (by kernel_rfl) Try.func5
    (ChangeSpec.witness6 (enc := enc) (C := Try.checked) false ⟨#[], #[.slice none 0 0, .int .i64 0], []⟩ 8 (by kernel_rfl) (by kernel_rfl) (by kernel_rfl) (by kernel_rfl)) ?_
  intro W base args ds gs before hval0 hW hcnd _
  have hval : ∀ (j : Nat) t v, Try.f5.params[j]? = some t → args[j]? = some v → Value.okWide Try.prog W .any base t v := hval0
  have hW' := hW
  obtain ⟨p, q, hA0, hV, rfl, hfz, hnd⟩ := hW
  have hA : DataW.TrodAll enc Try.prog W 0 (fun _ => true) true Try.f5.params.toList args.toList ds p := hA0
  rw [Try.params5] at hA hval
  obtain ⟨v0, vs0, d0, ds0, p0, q0, hargs, rfl, rfl, h0, r0⟩ := trodAll_cons hA
  obtain ⟨v1, vs1, d1, ds1, p1, q1, rfl, rfl, rfl, h1, r1⟩ := trodAll_cons r0
  obtain ⟨rfl, rfl, rfl⟩ := trodAll_nil r1
  obtain rfl : args = #[v0, v1] := by cases args; simp_all
  obtain ⟨rfl, rfl⟩ := trodVars_none hV
  obtain ⟨z0, i0⟩ := arg_ints (hval 0 30 v0 rfl rfl) h0
  obtain ⟨a1, rfl, rfl, rfl, w1⟩ := open_int Try.underlying3 (hval 1 3 v1 rfl rfl) h1
  clear hA0 hval0
  simp only [List.append_nil] at hW'
  have lt0 : ∀ x ∈ p0, x.block < W.heap.size := fun x hx => by have := hW'.lt x (by simp [hx]); simpa using this
  refine (walk v0 z0 a1 W i0 w1).mono fun e W' ⟨he, hg⟩ => ?_
  subst he
  exact ⟨_, rfl, post_of_kept (pa := _) (pv := []) hW' (fun _ _ _ => (trodAll_cons_mk (shut_bool Try.underlying4 _) trodAll_mk0)) (trodAll_cons_mk (Below.trod laidOut (by kernel_rfl) (of_decide_eq_true (by kernel_rfl)) h0 hg lt0) (trodAll_cons_mk (shut_int Try.underlying3 w1) trodAll_mk0)) (fun _ _ => rfl) (by simp) hg⟩

theorem over : Rows.timerTimesRow.holds Try.pinned (OpenSpec.ofChange Rows.timerTimesSpec) :=
  OpenClaim.holds_of_wide 5 Try.f5 rfl rfl rfl rfl rfl rfl rfl ⟨rfl, rfl, rfl, rfl, rfl⟩ rfl rfl rfl rfl rfl (by kernel_rfl) Try.func5 (by kernel_rfl)
    (of_decide_eq_true (by kernel_rfl)) (by unfold Func.isWrapper; first | (rw [if_pos (by decide +kernel)]; kernel_rfl) | (rw [if_neg (by decide +kernel)]; exact ⟨rfl, rfl⟩))
    (fun os started H enc _ => lifted os started H enc)

theorem proved : Rows.TimerTimesSaid :=
  over
#print axioms proved
end Go.Proofs.Ytinlbenifmcgaaa.timerTimes
