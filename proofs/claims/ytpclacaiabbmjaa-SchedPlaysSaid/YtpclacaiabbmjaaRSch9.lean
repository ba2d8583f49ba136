/- The document's own Sched: Pick out of the common queue, walked; out of a victim's ring. -/
import Derived.Test.YtpclacaiabbmjaaRSch7
import Derived.Deep.RegionHeld3
import Derived.Deep.LoopGhost
namespace Go.Proofs.Ytpclacaiabbmjaa
open Go.RowKit Go.Lib Fx Ho Gr Rw
set_option linter.unusedVariables false
namespace Dx
open Sd (Rg rg0 rAll ptrs ptrs_len ptrs_at rPut rRow rGet rSteal findR whereV find_some find_none qN getV turnS takeS pickS stealR stealR_len setT setT_len setT_get setT_more get_pair)
variable {S S' : Home} {w w' w1 W wr : World} {x i j k n q : Nat} {rv rv' lv lv' v : Value} {A A' : List Nat} {R R' : List Rg} {C C' L T : List Int} {H H' : Home} {g t u : Int} {zs : List Int}
set_option maxRecDepth 100000 in
set_option maxHeartbeats 2000000 in
theorem pick_in3 (h : IsX S w x rv lv A R C) (hi : i < R.length) (ht : t = 0 ∨ t.tmod 61 ≠ 0 ∨ C = []) (hn : R.length ≤ 64) (hl : C.length ≤ 800000) (hr : rAll (R.getD i rg0) = []) (hT : C.take (qN C R.length 64) = g :: T) : Calls Try.prog 19 #[.pointer (some ⟨x, 0, none⟩), .int .i64 i, .int .i64 t, .int .i64 u] w (XS S (.tuple #[.int .i64 g, .bool true]) w x rv A (setT R i T) (C.drop (qN C R.length 64))) := by
  obtain ⟨hrg, cg⟩ := ring_none h hi hr
  obtain ⟨n, hq⟩ : ∃ n, qN C R.length 64 = n := ⟨_, rfl⟩
  rw [hq] at hT ⊢
  have hn64 : n ≤ 64 := by unfold qN at hq; omega
  have hnC : n ≤ C.length := by unfold qN at hq; omega
  have hnT : n = T.length + 1 := by have := congrArg List.length hT; rw [List.length_take] at this; simp at this; omega
  have hCne : C ≠ [] := fun e => by rw [e] at hT; simp at hT
  have hcq : Hid (∀ V, Below w.heap.size w V → Calls Try.prog 68 #[.pointer (some ⟨x, 1, none⟩), .int .i64 R.length, .int .i64 64] V fun e w1 => ∃ s c, e = .returned (.slice s (T.length + 1) c) ∧ w1.cell? ⟨x, 0, none⟩ = some rv ∧ Hid (LS S w x rv A R (C.drop n) i T (.slice s (T.length + 1) c) g 0 w1)) := Lib.hid fun V hV => (queue_get (h.below hV) (by omega) hn (by omega) hq.symm).mono fun e w1 ⟨s, c, lv', he, hh⟩ => by
    obtain ⟨h1, h2, h3⟩ := hh.out
    rw [hT] at h3
    subst hnT
    refine ⟨s, c, he, h2.cs.1, Lib.hid ⟨S, lv', ?_, fun j hj => .inl hj, (Wrote.of_below hV).trans h1, h3⟩⟩
    rw [List.take_zero]; exact h2
  have hend : Hid (∀ wr l, LS S w x rv A R (C.drop n) i T l g T.length wr → XS S (.tuple #[.int .i64 g, .bool true]) w x rv A (setT R i T) (C.drop n) (.returned (.tuple #[.int .i64 g, .bool true])) wr) := Lib.hid fun wr l h => LS.end_ h
  have hcells : Hid (∀ wr s c k, LS S w x rv A R (C.drop n) i T (.slice s (T.length + 1) c) g k wr → wr.cell? ⟨x, 0, none⟩ = some rv ∧ (∃ b off cap, rv = .slice (some ⟨b, off, none⟩) R.length cap ∧ wr.cell? ⟨b, off + i, none⟩ = some (.pointer (some ⟨A.getD i 0, 0, none⟩))) ∧ (∃ b off, s = some ⟨b, off, none⟩ ∧ wr.cell? ⟨b, off, none⟩ = some (.int .i64 g) ∧ ∀ j, j < T.length → wr.cell? ⟨b, off + (j + 1), none⟩ = some (.int .i64 (T.getD j 0)))) := Lib.hid fun wr s c k ⟨Sk, lvk, h1, _, _, h4⟩ => by
    refine ⟨h1.cs.1, ?_, ?_⟩
    · obtain ⟨b, off, cap, e, _, _, c2, _⟩ := h1.place (i := i) (by rw [setT_len]; exact hi)
      rw [setT_len] at e
      exact ⟨b, off, cap, e, c2⟩
    · obtain ⟨sp, c', e, _, hc⟩ := h4
      cases e
      obtain ⟨b, off, rfl, _, _, h5⟩ := hc 0 (by simp)
      refine ⟨b, off, rfl, h5, fun j hj => ?_⟩
      obtain ⟨b2, off2, e2, _, _, h6⟩ := hc (j + 1) (by simp; omega)
      cases e2
      exact h6
  have hstep : Hid (∀ wr l k, LS S w x rv A R (C.drop n) i T l g k wr → k < T.length → LC x rv l (A.getD i 0) i T k wr ∧ ∀ V, Below wr.heap.size wr V → Calls Try.prog 62 #[.pointer (some ⟨A.getD i 0, 0, none⟩), .int .i64 (T.getD k 0), .bool false] V (fun e w1 => ∃ s c, e = .returned (.slice s 0 c) ∧ LC x rv l (A.getD i 0) i T k w1 ∧ Hid (∀ V, Below w1.heap.size w1 V → Calls Try.prog 17 #[.pointer (some ⟨x, 0, none⟩), .slice s 0 c] V (fun e w2 => e = .returned (.tuple #[]) ∧ LC x rv l (A.getD i 0) i T k w2 ∧ Hid (LS S w x rv A R (C.drop n) i T l g (k + 1) w2))))) := Lib.hid fun wr l k h2 hk => ⟨h2.lc hi hk, fun V hV => (h2.below hV).step hi hrg hk (by omega) (by rw [List.length_drop]; omega)⟩
  obtain ⟨c0, c1, f1⟩ := h.cs
  obtain ⟨b, off, cap, rfl, h1, h2, c2, _⟩ := h.place hi
  obtain ⟨s0, k0, e0, _⟩ := id h.com
  subst e0
  have i0 : (0 : Int) ≤ (i : Int) := by omega
  have i1 : ¬ (i : Int) < 0 := by omega
  have i2 : (i : Int) < (R.length : Int) := by omega
  have i3 : ¬ (R.length : Int) ≤ (i : Int) := by omega
  have hT63 : T.length ≤ 63 := by omega
  have hC0 : (0 : Int) < (C.length : Int) := by omega
  clear h hr h1 h2 hT hq hnC
  generalize A.getD i 0 = a at *
  generalize hm : R.length = m at *
  generalize hCl : C.length = cl at *
  generalize hTl : T.length = tl at *
  obtain ⟨n1, hn1⟩ : ∃ n1, tl + 1 = n1 := ⟨_, rfl⟩
  rw [hn1] at hcq
  simp only [hn1] at hcells
  have hjs : Hid (∀ j k, j = k + 1 → j < n1 → k < tl) := Lib.hid fun j k h1 h2 => by omega
  have hje : Hid (∀ j k, j = k + 1 → ¬ j < n1 → j ≤ n1 → k = tl) := Lib.hid fun j k h1 h2 h3 => by omega
  have hn0 : 0 < n1 := by omega
  have hnb : n1 ≤ 64 := by omega
  clear hm hCl hTl hn64 hnT hrg hn1
  rcases turn_facts ht with t0 | ⟨⟨b1, b2⟩, q, hq, ⟨b3, b4⟩ | ⟨_, e⟩⟩
  case inr.inr => exact absurd e hCne
  all_goals
    clear ht hCne
    try subst t0
    go_enter Try.func19, Try.ntmps19
    go_wp2_with fail
    with_reducible refine Calls.mono cg ?_
    rintro e w1 ⟨rfl, ew⟩
    subst ew
    clear cg
    have hbd : Below w.heap.size w w.drew := (Below.refl _ _).drew
    go_wp2_with fail
    go_region_held3 (fun W' => W'.cell? ⟨x, 0, none⟩ = some (.slice (some ⟨b, off, none⟩) m cap)) (first | exact c0 | go_keep | assumption) (first | (go_at_call 68; ((with_reducible refine (hcq.out _ (by repeat (first | assumption | exact Below.refl _ _ | refine below_drewN ?_ _ | refine below_alloc ?_ _ | refine below_then ?_ (by assumption)))).mono ?_); rintro e w2 ⟨s, c, rfl, cq, hL⟩)))
    all_goals
      have l0 : (0 : Int) < (n1 : Int) := by omega
      clear hcq hbd c0 c1 f1 c2 cq
      go_wp2_with fail
      go_loopw [14] (fun v wr => ∃ j k : Nat, v = .int .i64 j ∧ Hid (j = k + 1) ∧ j ≤ n1 ∧ Hid (LS S w x (.slice (some ⟨b, off, none⟩) m cap) A R (C.drop n) i T (.slice s n1 c) g k wr)) (fun v _ => (n1 - (RowKit.intOf v).toNat))
      case atStart => exact ⟨1, 0, rfl, Lib.hid rfl, by omega, hL⟩
      case round =>
        clear hL
        obtain ⟨j, k, rfl, hjk, j1, hR⟩ := hrel
        obtain ⟨c0, ⟨b', off', cap', e, c2⟩, bl, ol, rfl, cl0, clk⟩ := hcells.out wr s c k hR.out
        cases e
        have k0 : (0 : Int) ≤ (j : Int) := by omega
        by_cases hk : j < n1
        · have k2 : (j : Int) < (n1 : Int) := by omega
          have hkt := hjs.out j k hjk.out hk
          have hs2 := hstep.out wr (.slice (some ⟨bl, ol, none⟩) n1 c) k hR.out hkt
          have hlc := hs2.1
          replace hs2 := Lib.hid hs2.2
          have c3 := hlc.2.2 _ _ _ _ rfl
          have hcz : Hid (∀ W, LC x (.slice (some ⟨b, off, none⟩) m cap) (.slice (some ⟨bl, ol, none⟩) n1 c) a i T k W → W.cell? ⟨x, 0, none⟩ = some (.slice (some ⟨b, off, none⟩) m cap) ∧ W.cell? ⟨b, off + i, none⟩ = some (.pointer (some ⟨a, 0, none⟩)) ∧ W.cell? ⟨bl, ol + j, none⟩ = some (.int .i64 (T.getD k 0))) := Lib.hid fun W hh => ⟨hh.1, hh.2.1 _ _ _ _ rfl, by rw [hjk.out]; exact hh.2.2 _ _ _ _ rfl⟩
          rw [← hjk.out] at c3
          generalize T.getD k 0 = gk at *
          have hbd : Below wr.heap.size wr wr.drew := (Below.refl _ _).drew
          clear clk cl0 hcells hstep hR hend hlc hkt hjs hje
          go_wp2_with fail
          go_region_held3 (fun W' => W'.cell? ⟨x, 0, none⟩ = some (.slice (some ⟨b, off, none⟩) m cap) ∧ W'.cell? ⟨b, off + i, none⟩ = some (.pointer (some ⟨a, 0, none⟩)) ∧ W'.cell? ⟨bl, ol + j, none⟩ = some (.int .i64 gk)) (first | exact ⟨c0, c2, c3⟩ | go_keep | assumption | exact hcz.out _ hl4 | exact hcz.out _ hl3) (first | (go_at_call 17; ((with_reducible refine (hG.out _ (by repeat (first | assumption | exact Below.refl _ _ | refine below_drewN ?_ _ | refine below_alloc ?_ _ | refine below_then ?_ (by assumption)))).mono ?_); rintro e w4 ⟨rfl, hl4, hL2⟩)) | (go_at_call 62; ((with_reducible refine (hs2.out _ (by repeat (first | assumption | exact Below.refl _ _ | refine below_drewN ?_ _ | refine below_alloc ?_ _ | refine below_then ?_ (by assumption)))).mono ?_); rintro e w3 ⟨s3, c3', rfl, hl3, hG⟩)))
          all_goals
            go_wp2_with fail
            go_roundw
            case rel => exact ⟨j + 1, k + 1, by go_num, Lib.hid (by rw [hjk.out]), by omega, hL2⟩
            case measure => simp [RowKit.intOf]; omega
        · have k2 : ¬ (j : Int) < (n1 : Int) := by omega
          obtain rfl := hje.out j k hjk.out hk j1
          have hgo := Lib.hid (hend.out wr _ hR.out)
          clear clk hcells hstep hR hend
          go_wp2_with fail
          go_ret2
          exact hgo.out
theorem xs_after {S1 : Home} {e : Ending} (hw : Wrote (home x rv A) w (home x rv A) w1) (hs : ∀ k, S1 k → nS S w k) (h : XS S1 v w1 x rv A R' C' e w') : XS S v w x rv A R' C' e w' := by
  obtain ⟨he, S2, rv2, lv2, A2, h6, h4, h5⟩ := h
  exact ⟨he, S2, rv2, lv2, A2, ns_then hs hw.size h6, hw.trans h4, h5⟩
set_option maxRecDepth 100000 in
set_option maxHeartbeats 2000000 in
theorem pick_in4 (h : IsX S w x rv lv A R []) (hi : i < R.length) (t u : Int) (hn : R.length ≤ 64) (hr : rAll (R.getD i rg0) = []) : Calls Try.prog 19 #[.pointer (some ⟨x, 0, none⟩), .int .i64 i, .int .i64 t, .int .i64 u] w (XS S (getV (rGet ((stealR R i u).getD i rg0)).1) w x rv A ((stealR R i u).set i (rGet ((stealR R i u).getD i rg0)).2) []) := by
  obtain ⟨hrg, cg⟩ := ring_none h hi hr
  obtain ⟨r1, hr1⟩ : ∃ r1, (rGet ((stealR R i u).getD i rg0)).1 = r1 := ⟨_, rfl⟩
  obtain ⟨R2, hR2⟩ : ∃ R2, (stealR R i u).set i (rGet ((stealR R i u).getD i rg0)).2 = R2 := ⟨_, rfl⟩
  obtain ⟨ga, gb, hv⟩ := get_pair r1
  have hcq : Hid (∀ V, Below w.heap.size w V → Calls Try.prog 68 #[.pointer (some ⟨x, 1, none⟩), .int .i64 R.length, .int .i64 64] V fun e w1 => ∃ s c lv', e = .returned (.slice s 0 c) ∧ w1.cell? ⟨x, 0, none⟩ = some rv ∧ Hid (IsX S w1 x rv lv' A R [] ∧ Wrote (home x rv A) w (home x rv A) w1)) := Lib.hid fun V hV => (queue_get (h.below hV) (by omega) hn (by simp) (n := 0) (by unfold qN; simp)).mono fun e w1 ⟨s, c, lv', he, hh⟩ => by
    obtain ⟨h1, h2, h3⟩ := hh.out
    exact ⟨s, c, lv', he, h2.cs.1, Lib.hid ⟨h2, (Wrote.of_below hV).trans h1⟩⟩
  have hget : Hid (∀ w1 S1 lv', IsX S1 w1 x rv lv' A (stealR R i u) [] → Wrote (home x rv A) w (home x rv A) w1 → (∀ k, S1 k → nS S w k) → Calls Try.prog 67 #[.pointer (some ⟨A.getD i 0, 0, none⟩)] w1 fun e w3 => e = .returned (.tuple #[.int .i64 ga, .bool gb]) ∧ Hid (XS S (getV r1) w x rv A R2 [] (.returned (.tuple #[.int .i64 ga, .bool gb])) w3)) := Lib.hid fun w1 S1 lv' h1 h2 h3 => by
    have hg := ring_get h1 (i := i) (by rw [stealR_len]; exact hi)
    rw [hr1, hR2, hv] at hg
    refine hg.mono fun e w3 hh => ⟨hh.1, Lib.hid ?_⟩
    have := xs_after h2 h3 hh
    rw [hh.1] at this
    rw [hv]; exact this
  have hcells : Hid (∀ w1 S1 lv' R1, IsX S1 w1 x rv lv' A R1 [] → R1.length = R.length → w1.cell? ⟨x, 0, none⟩ = some rv ∧ ∃ b off cap, rv = .slice (some ⟨b, off, none⟩) R.length cap ∧ ∀ j, j < R.length → w1.cell? ⟨b, off + j, none⟩ = some (.pointer (some ⟨A.getD j 0, 0, none⟩))) := Lib.hid fun w1 S1 lv' R1 h1 hl => by
    refine ⟨h1.cs.1, ?_⟩
    obtain ⟨b, off, cap, e, _, _, c2, _⟩ := h1.place (i := i) (by rw [hl]; exact hi)
    rw [hl] at e
    refine ⟨b, off, cap, e, fun j hj => ?_⟩
    obtain ⟨b', off', cap', e', _, _, c3, _⟩ := h1.place (i := j) (by rw [hl]; exact hj)
    rw [hl, e] at e'
    cases e'
    exact c3
  obtain ⟨c0, c1, f1⟩ := h.cs
  obtain ⟨b, off, cap, hrv, h1, h2, c2, _⟩ := h.place hi
  obtain ⟨s0, k0, e0, _⟩ := id h.com
  subst e0
  have i0 : (0 : Int) ≤ (i : Int) := by omega
  have i1 : ¬ (i : Int) < 0 := by omega
  have i2 : (i : Int) < (R.length : Int) := by omega
  have i3 : ¬ (R.length : Int) ≤ (i : Int) := by omega
  have hsteal : Hid (0 ≤ u → u < (R.length : Int) → u ≠ (i : Int) → ∀ w1 lv', IsX S w1 x rv lv' A R [] → Wrote (home x rv A) w (home x rv A) w1 → ∀ V, Below w1.heap.size w1 V → Calls Try.prog 69 #[.pointer (some ⟨A.getD i 0, 0, none⟩), .pointer (some ⟨A.getD u.toNat 0, 0, none⟩)] V fun e w2 => ∃ z : Int, e = .returned (.int .i64 z) ∧ (∀ b off cap, rv = .slice (some ⟨b, off, none⟩) R.length cap → w2.cell? ⟨x, 0, none⟩ = some (.slice (some ⟨b, off, none⟩) R.length cap) ∧ w2.cell? ⟨b, off + i, none⟩ = some (.pointer (some ⟨A.getD i 0, 0, none⟩)) ∧ w2.cell? ⟨b, off + u.toNat, none⟩ = some (.pointer (some ⟨A.getD u.toNat 0, 0, none⟩))) ∧ Hid (∃ S1, IsX S1 w2 x rv lv' A (stealR R i u) [] ∧ Wrote (home x rv A) w (home x rv A) w2 ∧ ∀ k, S1 k → nS S w k)) := Lib.hid fun u0 u1 u2 w1 lv' g1 g2 V hV => by
    have e : stealR R i u = (R.set i (rSteal (R.getD i rg0) (R.getD u.toNat rg0)).1).set u.toNat (rSteal (R.getD i rg0) (R.getD u.toNat rg0)).2 := by
      unfold stealR
      rw [if_pos ⟨u0, u1, by omega⟩]
    rw [e]
    refine (ring_steal (g1.below hV) hi (k := u.toNat) (by omega) (by omega)).mono fun e w2 ⟨z, he, hw, hx⟩ => ⟨z, he, fun b off cap eb => ?_, Lib.hid ⟨_, hx, (g2.trans (Wrote.of_below hV)).trans hw, fun k hk => ?_⟩⟩
    · obtain ⟨d0, b2, off2, cap2, e2, dj⟩ := hcells.out _ _ _ _ hx (by simp)
      rw [eb] at e2
      cases e2
      rw [eb] at d0
      exact ⟨d0, dj i (by omega), dj u.toNat (by omega)⟩
    exact ns_then (fun k hk => .inl hk) ((g2.trans (Wrote.of_below hV)).size) (fun k hk => hk) k hk
  have hno : Hid (¬ (0 ≤ u ∧ u < (R.length : Int) ∧ u ≠ (i : Int)) → stealR R i u = R) := Lib.hid fun hh => by
    unfold stealR
    rw [if_neg (fun ⟨a, b, c⟩ => hh ⟨a, b, fun e => c (by omega)⟩)]
  rw [hr1, hR2, hv]
  clear h hr h1 h2 hrg hr1
  rw [hv] at hget
  clear hR2 hv
  subst hrv
  have hsl : Hid ((stealR R i u).length = R.length) := Lib.hid (stealR_len R i u)
  obtain ⟨a, ha⟩ : ∃ a, A.getD i 0 = a := ⟨_, rfl⟩
  rw [ha] at cg c2
  simp only [ha] at hget hsteal
  replace ha := Lib.hid ha
  generalize hm : R.length = m at *
  replace hm := Lib.hid hm
  by_cases hu : 0 ≤ u ∧ u < (m : Int) ∧ u ≠ (i : Int)
  · obtain ⟨u0, u1, u2⟩ := hu
    replace hsteal := Lib.hid (hsteal.out u0 u1 u2)
    have u3 : ¬ u < 0 := by omega
    have u4 : ¬ (m : Int) ≤ u := by omega
    have u5 : (u == (i : Int)) = false := by rw [beq_eq_false_iff_ne]; exact u2
    have u6 : (u != (i : Int)) = true := by simp [bne, u5]
    obtain ⟨uk, huk⟩ : ∃ uk : Nat, u.toNat = uk := ⟨_, rfl⟩
    rw [huk] at hsteal
    obtain ⟨a2, ha2⟩ : ∃ a2, A.getD uk 0 = a2 := ⟨_, rfl⟩
    rw [ha2] at hsteal
    replace ha2 := Lib.hid ha2
    have hui : u = (uk : Int) := by omega
    have ukm : uk < m := by omega
    clear hno huk
    rcases turn_facts (t := t) (C := []) (.inr (.inr rfl)) with t0 | ⟨⟨b1, b2⟩, q, hq, ⟨b3, b4⟩ | ⟨q0, _⟩⟩
    all_goals
      try subst t0
      try subst q0
      go_enter Try.func19, Try.ntmps19
      go_wp2_with fail
      with_reducible refine Calls.mono cg ?_
      rintro e w1 ⟨rfl, ew⟩
      subst ew
      clear cg
      have hbd : Below w.heap.size w w.drew := (Below.refl _ _).drew
      go_wp2_with fail
      go_region_held3 (fun W' => W'.cell? ⟨x, 0, none⟩ = some (.slice (some ⟨b, off, none⟩) m cap)) (first | exact c0 | go_keep | assumption) (first | (go_at_call 68; ((with_reducible refine (hcq.out _ (by repeat (first | assumption | exact Below.refl _ _ | refine below_drewN ?_ _ | refine below_alloc ?_ _ | refine below_then ?_ (by assumption)))).mono ?_); rintro e w2 ⟨s, c, lv2, rfl, cq, hX⟩)))
      all_goals
        clear hcq hbd c0 c1 f1 c2 cq
        obtain ⟨c0, b', off', cap', e, cj⟩ := hcells.out _ _ _ _ hX.out.1 hm.out
        cases e
        have c2 := cj i (by omega)
        have c3 := cj uk ukm
        rw [ha.out] at c2
        rw [ha2.out] at c3
        have hst := Lib.hid (hsteal.out _ _ hX.out.1 hX.out.2)
        clear cj hX hsteal
        subst hui
        have hbd : Below w2.heap.size w2 w2.drew := (Below.refl _ _).drew
        go_wp2_with fail
        go_region_held3 (fun W' => W'.cell? ⟨x, 0, none⟩ = some (.slice (some ⟨b, off, none⟩) m cap) ∧ W'.cell? ⟨b, off + i, none⟩ = some (.pointer (some ⟨a, 0, none⟩)) ∧ W'.cell? ⟨b, off + uk, none⟩ = some (.pointer (some ⟨a2, 0, none⟩))) (first | exact ⟨c0, c2, c3⟩ | exact hq3 b off cap rfl | exact (hq3 b off cap rfl).1 | exact (hq3 b off cap rfl).2.1 | exact (hq3 b off cap rfl).2.2 | go_keep | assumption) (first | (go_at_call 69; ((with_reducible refine (hst.out _ (by repeat (first | assumption | exact Below.refl _ _ | refine below_drewN ?_ _ | refine below_alloc ?_ _ | refine below_then ?_ (by assumption)))).mono ?_); rintro e w3 ⟨zz, rfl, hq3, hX⟩)))
        all_goals
          obtain ⟨S1, g1, g2, g3⟩ := hX.out
          obtain ⟨d0, b', off', cap', e, dj⟩ := hcells.out _ _ _ _ g1 hsl.out
          cases e
          have d2 := dj i (by omega)
          rw [ha.out] at d2
          have cg := hget.out _ _ _ g1 g2 g3
          clear dj g1 g2 g3 hX hst hcells hget hsl hbd c0 c2 c3
          go_wp2_with fail
          with_reducible refine Calls.mono cg ?_
          rintro e w4 ⟨rfl, hgo⟩
          clear cg
          go_wp2_with fail
          go_ret2
          exact hgo.out
  · have hRR := hno.out hu
    rw [hRR] at hget
    clear hsteal hno hsl hRR
    have hus : u < 0 ∨ (0 ≤ u ∧ ((m : Int) ≤ u ∨ (u < (m : Int) ∧ u = (i : Int)))) := by omega
    clear hu
    rcases hus with u0 | ⟨u0, u1 | ⟨u1, u2⟩⟩
    case' inr.inr => subst u2
    all_goals
      rcases turn_facts (t := t) (C := []) (.inr (.inr rfl)) with t0 | ⟨⟨b1, b2⟩, q, hq, ⟨b3, b4⟩ | ⟨q0, _⟩⟩
      all_goals
        try subst t0
        try subst q0
        go_enter Try.func19, Try.ntmps19
        go_wp2_with fail
        with_reducible refine Calls.mono cg ?_
        rintro e w1 ⟨rfl, ew⟩
        subst ew
        clear cg
        have hbd : Below w.heap.size w w.drew := (Below.refl _ _).drew
        go_wp2_with fail
        go_region_held3 (fun W' => W'.cell? ⟨x, 0, none⟩ = some (.slice (some ⟨b, off, none⟩) m cap)) (first | exact c0 | go_keep | assumption) (first | (go_at_call 68; ((with_reducible refine (hcq.out _ (by repeat (first | assumption | exact Below.refl _ _ | refine below_drewN ?_ _ | refine below_alloc ?_ _ | refine below_then ?_ (by assumption)))).mono ?_); rintro e w2 ⟨s, c, lv2, rfl, cq, hX⟩)))
        all_goals
          clear hcq hbd c0 c1 f1 c2 cq
          obtain ⟨c0, b', off', cap', e, cj⟩ := hcells.out _ _ _ _ hX.out.1 hm.out
          cases e
          have c2 := cj i (by omega)
          rw [ha.out] at c2
          have cg := hget.out _ _ _ hX.out.1 hX.out.2 (fun k hk => .inl hk)
          clear cj hX hget hcells
          go_wp2_with fail
          with_reducible refine Calls.mono cg ?_
          rintro e w4 ⟨rfl, hgo⟩
          clear cg
          go_wp2_with fail
          go_ret2
          exact hgo.out
/-- Pick, whatever comes. -/
theorem pick_any (h : IsX S w x rv lv A R C) (hi : i < R.length) (t u : Int) (hn : R.length ≤ 64) (hl : C.length ≤ 800000) : Calls Try.prog 19 #[.pointer (some ⟨x, 0, none⟩), .int .i64 i, .int .i64 t, .int .i64 u] w (XS S (getV (pickS R C i t u).1) w x rv A (pickS R C i t u).2.1 (pickS R C i t u).2.2) := by
  by_cases hT : t ≠ 0 ∧ t.tmod 61 = 0 ∧ C ≠ []
  · obtain ⟨h1, h2, h3⟩ := hT
    cases C with
    | nil => exact absurd rfl h3
    | cons g T =>
      rw [pick_first h1 h2 (by omega)]
      exact pick_in1 h hi h1 h2 hn
  · have ht : t = 0 ∨ t.tmod 61 ≠ 0 ∨ C = [] := by
      by_cases a : t = 0
      · exact .inl a
      · by_cases b : t.tmod 61 = 0
        · exact .inr (.inr (Classical.byContradiction fun c => hT ⟨a, b, c⟩))
        · exact .inr (.inl b)
    cases hr : rAll (R.getD i rg0) with
    | cons g L =>
      rw [pick_own ht hr]
      exact pick_in2 h hi ht hn hr
    | nil =>
      cases hq : C.take (qN C R.length 64) with
      | cons g T =>
        rw [pick_take ht hr hq]
        exact pick_in3 h hi ht hn hl hr hq
      | nil =>
        have hC : C = [] := by
          cases C with
          | nil => rfl
          | cons g T =>
            exfalso
            have h1 : 0 < qN (g :: T) R.length 64 := by
              unfold qN
              have h0 : 0 < (g :: T).length := by simp
              generalize (g :: T).length / R.length = d
              omega
            obtain ⟨k, hk⟩ : ∃ k, qN (g :: T) R.length 64 = k + 1 := ⟨qN (g :: T) R.length 64 - 1, by omega⟩
            rw [hk] at hq; simp at hq
        subst hC
        rw [pick_last hr]
        exact pick_in4 h hi t u hn hr
end Dx
end Go.Proofs.Ytpclacaiabbmjaa
