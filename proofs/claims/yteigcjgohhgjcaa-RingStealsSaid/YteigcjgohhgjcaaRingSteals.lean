/- For any two whole numbers and any bool the statement RingSteals answers true and leaves its arguments as they were: a thief takes the first half of a row, rounded up, in order, as far as there is room; who is next is left, unless it is all there is. No condition. -/
import Derived.Test.YteigcjgohhgjcaaRingTwo
import Derived.WalkKit
import Derived.ProofKit
import Derived.OpenShut
import Derived.Deep.RegionHeld3
import Derived.Deep.RegionWith
import Derived.Deep.Cut
import Derived.Deep.CutBlock
import Derived.Deep.CutRange
import Derived.Deep.DeepCutAuto
import Derived.RegionTactic
namespace Go.Proofs.Yteigcjgohhgjcaa.ringSteals
open Go.ChangeShapes Go.WideShapes Go.ChangeAt Go.WideElems Go.RowKit Go.Lib Fx Ho Ri
set_option linter.unusedVariables false

theorem own : ownKnob Try.prog.godebug = none := by kernel_rfl

set_option maxRecDepth 100000 in
set_option maxHeartbeats 4000000 in
theorem walk (a0 : Int) (a1 : Int) (a2 : Bool) (w : World) (w0 : (Lit.int .i64 a0).wf = true) (w1 : (Lit.int .i64 a1).wf = true) :
    Calls Try.prog 5 #[.int .i64 a0, .int .i64 a1, .bool a2] w fun e w' => e = .returned (.bool true) ∧ Below w.heap.size w w' := by
  have ct := fun w => told_any w
  obtain ⟨Y, hY⟩ : ∃ Y : Int, IntKind.u64.wrap a0 = Y := ⟨_, rfl⟩
  obtain ⟨Z, hZ⟩ : ∃ Z : Int, IntKind.u64.wrap a1 = Z := ⟨_, rfl⟩
  have y0 : 0 ≤ Y := by rw [← hY, IntKind.wrap_u64]; omega
  have z0 : 0 ≤ Z := by rw [← hZ, IntKind.wrap_u64]; omega
  obtain ⟨K, hK⟩ : ∃ K : Nat, Y % 257 = (K : Int) := ⟨(Y % 257).toNat, by omega⟩
  obtain ⟨m, hm⟩ : ∃ m : Nat, Z % 257 = (m : Int) := ⟨(Z % 257).toNat, by omega⟩
  have K1 : K ≤ 256 := by omega
  have m1 : m ≤ 256 := by omega
  obtain ⟨H, hH⟩ : ∃ H : Nat, (K + 1) / 2 = H := ⟨_, rfl⟩
  obtain ⟨W0, hW0⟩ : ∃ W0 : Nat, min H (256 - m) = W0 := ⟨_, rfl⟩
  have e1 : ((K : Int) + 1) / 2 = (H : Int) := by omega
  have e2 : (if 256 - (m : Int) < (H : Int) then 256 - (m : Int) else (H : Int)) = (W0 : Int) := by split <;> omega
  have hNN : W0 = min (K - K / 2) (256 - m) := by omega
  have hWK : W0 ≤ K := by omega
  have hWm : m + W0 ≤ 256 := by omega
  have hH2 : H ≤ 200 := by omega
  replace hH := Lib.hid hH
  replace hW0 := Lib.hid hW0
  have cn := rs_new w
  obtain ⟨p, hp⟩ : ∃ p, w.heap.size = p := ⟨_, rfl⟩
  rw [hp] at cn
  replace hp := Lib.hid hp
  have hstart : Hid (∀ w1 w2, Rs w w1 p none [] → Rs w1 w2 w1.heap.size none [] → Hid (Rt w w2 p w1.heap.size none [] none [])) := fun w1 w2 h1 h2 => by
    have hl := h1.r.lt
    exact ⟨h1.r.wrote (H := fun _ => False) (Wrote.of_below h2.bel) (fun h => h), h2.r, ⟨h1.lo, h1.bel.size⟩, by omega, h1.bel.trans (h2.bel.mono h1.bel.size)⟩
  have cn2 : Hid (∀ W, Calls Try.prog 15 #[] W fun e w' => e = .returned (.pointer (some ⟨W.heap.size, 0, none⟩)) ∧ Rs W w' W.heap.size none []) := fun W => rs_new W
  have hstl : Hid (∀ (q : Nat) (ny : Option Int), ¬ (K = 0 ∧ ny ≠ none ∧ m < 256) → ∀ W, Rt w W p q none (seqL 0 m) ny (seqL 1000 K) → Calls Try.prog 21 #[.pointer (some ⟨p, 0, none⟩), .pointer (some ⟨q, 0, none⟩)] W fun e w' => e = .returned (.int .i64 W0) ∧ Rt w w' p q none (seqL 0 m ++ (seqL 1000 K).take W0) ny ((seqL 1000 K).drop W0)) := fun q ny hc W h =>
    (steal_row W0 h.ne (by rw [seq_len, seq_len]; exact hNN) (by rw [seq_len, seq_len]; intro h0; by_cases e : ny = none
                                                                 · exact Or.inl e
                                                                 · right; have : ¬ m < 256 := fun h1 => hc ⟨h0, e, h1⟩
                                                                   omega) W h.r h.s).mono fun _ _ ⟨he, ht, h1, h2⟩ => ⟨he, h.two ht h1 h2⟩
  have hA : Hid (∀ (q : Nat), m < 256 → K = 0 → ∀ W, Rt w W p q none (seqL 0 m) (some 5000) (seqL 1000 K) → Calls Try.prog 21 #[.pointer (some ⟨p, 0, none⟩), .pointer (some ⟨q, 0, none⟩)] W fun e w' => e = .returned (.int .i64 1) ∧ Rt w w' p q none (seqL 0 m ++ [5000]) none []) := fun q hc h0 W h => by
    have hs : seqL 1000 K = [] := by rw [h0]; rfl
    rw [hs] at h
    exact (steal_next h.ne (by rw [seq_len]; exact hc) W h.r h.s).mono fun _ _ ⟨he, ht, h1, h2⟩ => ⟨he, h.two ht h1 h2⟩
  have hLlen : Hid ((seqL 0 m ++ (seqL 1000 K).take W0).length = m + W0) := by rw [List.length_append, List.length_take, seq_len, seq_len]; show _ = _; omega
  have hLget : Hid (∀ i, i < W0 → (seqL 0 m ++ (seqL 1000 K).take W0).getD (m + i) 0 = 1000 + (i : Int)) := fun i hi => by
    rw [List.getD_eq_getElem?_getD, List.getElem?_append_right (by rw [seq_len]; omega), seq_len, show m + i - m = i by omega, List.getElem?_take_of_lt hi, ← List.getD_eq_getElem?_getD, seq_get _ _ _ (by omega)]
  have hAlen : Hid ((seqL 0 m ++ [(5000 : Int)]).length = m + 1) := by rw [List.length_append, seq_len]; rfl
  have hAget : Hid (∀ i, i < 1 → (seqL 0 m ++ [(5000 : Int)]).getD (m + i) 0 = 5000) := fun i hi => by
    rw [List.getD_eq_getElem?_getD, List.getElem?_append_right (by rw [seq_len]; omega), seq_len, show m + i - m = 0 by omega]; rfl
  have hdlen : Hid (((seqL 1000 K).drop W0).length = K - W0) := by rw [List.length_drop, seq_len]; show _ = _; rfl
  cases a2 with
  | false =>
    by_cases hK0 : K = 0
    · skip
      have kz : ((K : Int) == 0) = true := by rw [beq_iff_eq]; omega
      have kp : decide ((0 : Int) < (K : Int)) = false := decide_eq_false (by omega)
      have kp2 : decide (0 < K) = false := decide_eq_false (by omega)
      have kp3 : (decide ((K : Int) = 0)) = true := decide_eq_true (by omega)
      have kp4 : decide (K = 0) = true := decide_eq_true (by omega)
      have hKz := Lib.hid hK0
      clear hK0 hNN
      go_enter Try.func5, Try.ntmps5
      go_wp2_with fail
      with_reducible refine Calls.mono (cn) ?_
      rintro e w1 ⟨rfl, hs1⟩
      clear cn
      go_wp2_with fail
      with_reducible refine Calls.mono (cn2.out _) ?_
      rintro e w2 ⟨rfl, hs2⟩
      have hT := hstart.out w1 w2 hs1 hs2
      clear hstart cn2 hs1 hs2
      generalize w1.heap.size = q at *
      go_wp2_with fail
      clear hY hZ hK hm
      go_loopw [11] (fun i wr => ∃ k : Nat, i = .int .i64 k ∧ k ≤ K ∧ Hid (Rt w wr p q none [] none (seqL 1000 k))) (fun i _ => (K - (intOf i).toNat))
      case atStart => exact ⟨0, rfl, by omega, hT⟩
      case round =>
        obtain ⟨k, rfl, k1, hS⟩ := hrel
        clear hT
        by_cases hk : k < K
        · have i2 : (k : Int) < (K : Int) := by omega
          have cs := rt_put_right (1000 + (k : Int)) hS.out (by rw [seq_len]; omega)
          go_wp2_with fail
          with_reducible refine Calls.mono (cs) ?_
          rintro e w3 ⟨rfl, hs3⟩
          replace hs3 := Lib.hid hs3
          clear cs hS
          go_wp2_with fail
          go_roundw
          case rel => exact ⟨k + 1, by go_num, by omega, hs3⟩
          case measure => simp [intOf]; omega
        · obtain rfl : k = K := by omega
          clear hk k1
          go_wp2_with fail
          have hS2 := hS
          go_loopw [12] (fun i wr => ∃ j : Nat, i = .int .i64 j ∧ j ≤ m ∧ Hid (Rt w wr p q none (seqL 0 j) none (seqL 1000 k))) (fun i _ => (m - (intOf i).toNat))
          case atStart => exact ⟨0, rfl, by omega, hS2⟩
          case round =>
            obtain ⟨j, rfl, j1, hS3⟩ := hrel
            clear hS2
            by_cases hj : j < m
            · have i2 : (j : Int) < (m : Int) := by omega
              have cs := rt_put_left (j : Int) hS3.out (by rw [seq_len]; omega)
              go_wp2_with fail
              with_reducible refine Calls.mono (cs) ?_
              rintro e w3 ⟨rfl, hs3⟩
              rw [show seqL 0 j ++ [(j : Int)] = seqL 0 (j + 1) by show _ = seqL 0 j ++ [0 + (j : Int)]; rw [Int.zero_add]] at hs3
              replace hs3 := Lib.hid hs3
              clear cs hS3
              go_wp2_with fail
              go_roundw
              case rel => exact ⟨j + 1, by go_num, by omega, hs3⟩
              case measure => simp [intOf]; omega
            · obtain rfl : j = m := by omega
              clear hj j1
              have cs := hstl.out q none (fun h => h.2.1 rfl) wr hS3.out
              go_wp2_with fail
              with_reducible refine Calls.mono (cs) ?_
              rintro e w4 ⟨rfl, hs4⟩
              have cal := rt_all_left hs4
              clear cs hS3 hstl hA
              go_wp2_with fail
              with_reducible refine Calls.mono (cal) ?_
              rintro e w5 ⟨v5, rfl, hs5, hi5, _⟩
              have car := rt_all_right hs5
              clear hs4 cal
              go_wp2_with fail
              with_reducible refine Calls.mono (car) ?_
              rintro e w6 ⟨v6, rfl, hs6, hi6, hb6⟩
              have hi5' := hi5.below hb6
              obtain ⟨sp5, cap5, rfl, _, hc5⟩ := hi5'
              obtain ⟨sp6, cap6, rfl, _, hc6⟩ := hi6
              rw [show (allOf none (seqL 0 j ++ (seqL 1000 k).take W0)).length = j + W0 from hLlen.out] at hc5 ⊢
              rw [show (allOf none ((seqL 1000 k).drop W0)).length = 0 from (by rw [show allOf none ((seqL 1000 k).drop W0) = (seqL 1000 k).drop W0 from rfl, hdlen.out]; have := hKz.out; omega)] at hc6 ⊢
              replace hc5 := Lib.hid hc5
              replace hc6 := Lib.hid hc6
              replace hs6 := Lib.hid hs6
              clear car hs5 hi5 hb6
              go_wp2_with fail
              go_loopw [17] (fun i wr => ∃ t : Nat, i = .int .i64 t ∧ t ≤ W0 ∧ wr = w6) (fun i _ => (W0 - (intOf i).toNat))
              case atStart => exact ⟨0, rfl, by omega, rfl⟩
              case round =>
                obtain ⟨t, rfl, t1, rfl⟩ := hrel
                by_cases ht : t < W0
                · exact absurd ht (by have := hKz.out; omega)
                · obtain rfl : t = W0 := by omega
                  clear ht t1 hc5
                  go_wp2_with fail
                  with_reducible refine Calls.mono (ct _) ?_
                  rintro e w7 ⟨rfl, hb7⟩
                  have hs7 := hs6.out.below hb7
                  have c1 := steal_same (p := p) w7
                  have c2 := steal_nil (p := p) w7
                  have hfin := Lib.hid hs7.bel
                  clear hs7 hs6 hb7
                  go_wp2_with fail
                  with_reducible refine Calls.mono (c1) ?_
                  rintro e w8 ⟨rfl, rfl⟩
                  go_wp2_with fail
                  with_reducible refine Calls.mono (c2) ?_
                  rintro e w9 ⟨rfl, rfl⟩
                  go_wp2_with fail
                  go_ret
                  exact ⟨rfl, hfin.out⟩
    · replace hK0 : 0 < K := by omega
      have kz : ((K : Int) == 0) = false := by rw [beq_eq_false_iff_ne]; omega
      have kp : decide ((0 : Int) < (K : Int)) = true := decide_eq_true (by omega)
      have kp2 : decide (0 < K) = true := decide_eq_true (by omega)
      have kp3 : (decide ((K : Int) = 0)) = false := decide_eq_false (by omega)
      have kp4 : decide (K = 0) = false := decide_eq_false (by omega)
      have hKz := Lib.hid hK0
      clear hK0 hNN
      go_enter Try.func5, Try.ntmps5
      go_wp2_with fail
      with_reducible refine Calls.mono (cn) ?_
      rintro e w1 ⟨rfl, hs1⟩
      clear cn
      go_wp2_with fail
      with_reducible refine Calls.mono (cn2.out _) ?_
      rintro e w2 ⟨rfl, hs2⟩
      have hT := hstart.out w1 w2 hs1 hs2
      clear hstart cn2 hs1 hs2
      generalize w1.heap.size = q at *
      go_wp2_with fail
      clear hY hZ hK hm
      go_loopw [11] (fun i wr => ∃ k : Nat, i = .int .i64 k ∧ k ≤ K ∧ Hid (Rt w wr p q none [] none (seqL 1000 k))) (fun i _ => (K - (intOf i).toNat))
      case atStart => exact ⟨0, rfl, by omega, hT⟩
      case round =>
        obtain ⟨k, rfl, k1, hS⟩ := hrel
        clear hT
        by_cases hk : k < K
        · have i2 : (k : Int) < (K : Int) := by omega
          have cs := rt_put_right (1000 + (k : Int)) hS.out (by rw [seq_len]; omega)
          go_wp2_with fail
          with_reducible refine Calls.mono (cs) ?_
          rintro e w3 ⟨rfl, hs3⟩
          replace hs3 := Lib.hid hs3
          clear cs hS
          go_wp2_with fail
          go_roundw
          case rel => exact ⟨k + 1, by go_num, by omega, hs3⟩
          case measure => simp [intOf]; omega
        · obtain rfl : k = K := by omega
          clear hk k1
          go_wp2_with fail
          have hS2 := hS
          go_loopw [12] (fun i wr => ∃ j : Nat, i = .int .i64 j ∧ j ≤ m ∧ Hid (Rt w wr p q none (seqL 0 j) none (seqL 1000 k))) (fun i _ => (m - (intOf i).toNat))
          case atStart => exact ⟨0, rfl, by omega, hS2⟩
          case round =>
            obtain ⟨j, rfl, j1, hS3⟩ := hrel
            clear hS2
            by_cases hj : j < m
            · have i2 : (j : Int) < (m : Int) := by omega
              have cs := rt_put_left (j : Int) hS3.out (by rw [seq_len]; omega)
              go_wp2_with fail
              with_reducible refine Calls.mono (cs) ?_
              rintro e w3 ⟨rfl, hs3⟩
              rw [show seqL 0 j ++ [(j : Int)] = seqL 0 (j + 1) by show _ = seqL 0 j ++ [0 + (j : Int)]; rw [Int.zero_add]] at hs3
              replace hs3 := Lib.hid hs3
              clear cs hS3
              go_wp2_with fail
              go_roundw
              case rel => exact ⟨j + 1, by go_num, by omega, hs3⟩
              case measure => simp [intOf]; omega
            · obtain rfl : j = m := by omega
              clear hj j1
              have cs := hstl.out q none (fun h => h.2.1 rfl) wr hS3.out
              go_wp2_with fail
              with_reducible refine Calls.mono (cs) ?_
              rintro e w4 ⟨rfl, hs4⟩
              have cal := rt_all_left hs4
              clear cs hS3 hstl hA
              go_wp2_with fail
              with_reducible refine Calls.mono (cal) ?_
              rintro e w5 ⟨v5, rfl, hs5, hi5, _⟩
              have car := rt_all_right hs5
              clear hs4 cal
              go_wp2_with fail
              with_reducible refine Calls.mono (car) ?_
              rintro e w6 ⟨v6, rfl, hs6, hi6, hb6⟩
              have hi5' := hi5.below hb6
              obtain ⟨sp5, cap5, rfl, _, hc5⟩ := hi5'
              obtain ⟨sp6, cap6, rfl, _, hc6⟩ := hi6
              rw [show (allOf none (seqL 0 j ++ (seqL 1000 k).take W0)).length = j + W0 from hLlen.out] at hc5 ⊢
              rw [show (allOf none ((seqL 1000 k).drop W0)).length = k - W0 from hdlen.out] at hc6 ⊢
              replace hc5 := Lib.hid hc5
              replace hc6 := Lib.hid hc6
              replace hs6 := Lib.hid hs6
              clear car hs5 hi5 hb6
              go_wp2_with fail
              go_loopw [17] (fun i wr => ∃ t : Nat, i = .int .i64 t ∧ t ≤ W0 ∧ wr = w6) (fun i _ => (W0 - (intOf i).toNat))
              case atStart => exact ⟨0, rfl, by omega, rfl⟩
              case round =>
                obtain ⟨t, rfl, t1, rfl⟩ := hrel
                by_cases ht : t < W0
                · have i2 : (t : Int) < (W0 : Int) := by omega
                  obtain ⟨b, off, rfl, _, _, hcell⟩ := hc5.out (j + t) (by omega)
                  rw [show (allOf none (seqL 0 j ++ (seqL 1000 k).take W0)).getD (j + t) 0 = 1000 + (t : Int) from (hLget.out t ht)] at hcell
                  have i3 : (0 : Int) ≤ (j : Int) + (t : Int) := by omega
                  have i4 : (j : Int) + (t : Int) < (j : Int) + (W0 : Int) := by omega
                  have i5 : ((j : Int) + (t : Int)).toNat = j + t := by omega
                  clear hc5 hc6
                  go_wp2_with fail
                  go_roundw
                  case rel => exact ⟨t + 1, by go_num, by omega, by first | rfl | trivial⟩
                  case measure => simp [intOf]; omega
                · obtain rfl : t = W0 := by omega
                  clear ht t1 hc5
                  have hn6 : (k : Int) - (t : Int) = ((k - t : Nat) : Int) := by omega
                  generalize k - t = n6 at *
                  go_wp2_with fail
                  with_reducible refine Calls.mono (ct _) ?_
                  rintro e w7 ⟨rfl, hb7⟩
                  have hs7 := hs6.out.below hb7
                  have c1 := steal_same (p := p) w7
                  have c2 := steal_nil (p := p) w7
                  have hfin := Lib.hid hs7.bel
                  clear hs7 hs6 hb7
                  go_wp2_with fail
                  with_reducible refine Calls.mono (c1) ?_
                  rintro e w8 ⟨rfl, rfl⟩
                  go_wp2_with fail
                  with_reducible refine Calls.mono (c2) ?_
                  rintro e w9 ⟨rfl, rfl⟩
                  go_wp2_with fail
                  go_ret
                  exact ⟨rfl, hfin.out⟩
  | true =>
    by_cases hK0 : 0 < K
    · skip
      have kz : ((K : Int) == 0) = false := by rw [beq_eq_false_iff_ne]; omega
      have kp : decide ((0 : Int) < (K : Int)) = true := decide_eq_true (by omega)
      have kp2 : decide (0 < K) = true := decide_eq_true (by omega)
      have kp3 : (decide ((K : Int) = 0)) = false := decide_eq_false (by omega)
      have kp4 : decide (K = 0) = false := decide_eq_false (by omega)
      have hKz := Lib.hid hK0
      clear hK0 hNN
      go_enter Try.func5, Try.ntmps5
      go_wp2_with fail
      with_reducible refine Calls.mono (cn) ?_
      rintro e w1 ⟨rfl, hs1⟩
      clear cn
      go_wp2_with fail
      with_reducible refine Calls.mono (cn2.out _) ?_
      rintro e w2 ⟨rfl, hs2⟩
      have hT := hstart.out w1 w2 hs1 hs2
      clear hstart cn2 hs1 hs2
      generalize w1.heap.size = q at *
      go_wp2_with fail
      clear hY hZ hK hm
      go_loopw [11] (fun i wr => ∃ k : Nat, i = .int .i64 k ∧ k ≤ K ∧ Hid (Rt w wr p q none [] none (seqL 1000 k))) (fun i _ => (K - (intOf i).toNat))
      case atStart => exact ⟨0, rfl, by omega, hT⟩
      case round =>
        obtain ⟨k, rfl, k1, hS⟩ := hrel
        clear hT
        by_cases hk : k < K
        · have i2 : (k : Int) < (K : Int) := by omega
          have cs := rt_put_right (1000 + (k : Int)) hS.out (by rw [seq_len]; omega)
          go_wp2_with fail
          with_reducible refine Calls.mono (cs) ?_
          rintro e w3 ⟨rfl, hs3⟩
          replace hs3 := Lib.hid hs3
          clear cs hS
          go_wp2_with fail
          go_roundw
          case rel => exact ⟨k + 1, by go_num, by omega, hs3⟩
          case measure => simp [intOf]; omega
        · obtain rfl : k = K := by omega
          clear hk k1
          have cs := rt_first_right 5000 hS.out
          go_wp2_with fail
          with_reducible refine Calls.mono (cs) ?_
          rintro e w3 ⟨rfl, hs3⟩
          have hS2 := Lib.hid hs3
          clear cs hS hs3
          go_wp2_with fail
          go_loopw [12] (fun i wr => ∃ j : Nat, i = .int .i64 j ∧ j ≤ m ∧ Hid (Rt w wr p q none (seqL 0 j) (some 5000) (seqL 1000 k))) (fun i _ => (m - (intOf i).toNat))
          case atStart => exact ⟨0, rfl, by omega, hS2⟩
          case round =>
            obtain ⟨j, rfl, j1, hS3⟩ := hrel
            clear hS2
            by_cases hj : j < m
            · have i2 : (j : Int) < (m : Int) := by omega
              have cs := rt_put_left (j : Int) hS3.out (by rw [seq_len]; omega)
              go_wp2_with fail
              with_reducible refine Calls.mono (cs) ?_
              rintro e w3 ⟨rfl, hs3⟩
              rw [show seqL 0 j ++ [(j : Int)] = seqL 0 (j + 1) by show _ = seqL 0 j ++ [0 + (j : Int)]; rw [Int.zero_add]] at hs3
              replace hs3 := Lib.hid hs3
              clear cs hS3
              go_wp2_with fail
              go_roundw
              case rel => exact ⟨j + 1, by go_num, by omega, hs3⟩
              case measure => simp [intOf]; omega
            · obtain rfl : j = m := by omega
              clear hj j1
              have cs := hstl.out q (some 5000) (fun h => by have := hKz.out; omega) wr hS3.out
              go_wp2_with fail
              with_reducible refine Calls.mono (cs) ?_
              rintro e w4 ⟨rfl, hs4⟩
              have cal := rt_all_left hs4
              clear cs hS3 hstl hA
              go_wp2_with fail
              with_reducible refine Calls.mono (cal) ?_
              rintro e w5 ⟨v5, rfl, hs5, hi5, _⟩
              have car := rt_all_right hs5
              clear hs4 cal
              go_wp2_with fail
              with_reducible refine Calls.mono (car) ?_
              rintro e w6 ⟨v6, rfl, hs6, hi6, hb6⟩
              have hi5' := hi5.below hb6
              obtain ⟨sp5, cap5, rfl, _, hc5⟩ := hi5'
              obtain ⟨sp6, cap6, rfl, _, hc6⟩ := hi6
              rw [show (allOf none (seqL 0 j ++ (seqL 1000 k).take W0)).length = j + W0 from hLlen.out] at hc5 ⊢
              rw [show (allOf (some 5000) ((seqL 1000 k).drop W0)).length = 1 + (k - W0) from (by show (([5000] : List Int) ++ (seqL 1000 k).drop W0).length = _; rw [List.length_append, hdlen.out]; rfl)] at hc6 ⊢
              replace hc5 := Lib.hid hc5
              replace hc6 := Lib.hid hc6
              replace hs6 := Lib.hid hs6
              clear car hs5 hi5 hb6
              go_wp2_with fail
              go_loopw [17] (fun i wr => ∃ t : Nat, i = .int .i64 t ∧ t ≤ W0 ∧ wr = w6) (fun i _ => (W0 - (intOf i).toNat))
              case atStart => exact ⟨0, rfl, by omega, rfl⟩
              case round =>
                obtain ⟨t, rfl, t1, rfl⟩ := hrel
                by_cases ht : t < W0
                · have i2 : (t : Int) < (W0 : Int) := by omega
                  obtain ⟨b, off, rfl, _, _, hcell⟩ := hc5.out (j + t) (by omega)
                  rw [show (allOf none (seqL 0 j ++ (seqL 1000 k).take W0)).getD (j + t) 0 = 1000 + (t : Int) from (hLget.out t ht)] at hcell
                  have i3 : (0 : Int) ≤ (j : Int) + (t : Int) := by omega
                  have i4 : (j : Int) + (t : Int) < (j : Int) + (W0 : Int) := by omega
                  have i5 : ((j : Int) + (t : Int)).toNat = j + t := by omega
                  clear hc5 hc6
                  go_wp2_with fail
                  go_roundw
                  case rel => exact ⟨t + 1, by go_num, by omega, by first | rfl | trivial⟩
                  case measure => simp [intOf]; omega
                · obtain rfl : t = W0 := by omega
                  clear ht t1 hc5
                  have hn6 : (k : Int) - (t : Int) = ((k - t : Nat) : Int) := by omega
                  obtain ⟨b, off, rfl, _, _, hcell⟩ := hc6.out 0 (by omega)
                  rw [show (allOf (some 5000) ((seqL 1000 k).drop t)).getD 0 0 = 5000 from rfl] at hcell
                  rw [Nat.add_zero] at hcell
                  generalize k - t = n6 at *
                  have hn7 : ((n6 : Int) + 1 == 0) = false := by rw [beq_eq_false_iff_ne]; omega
                  have hn8 : (1 + (n6 : Int) == 0) = false := by rw [beq_eq_false_iff_ne]; omega
                  have hn9 : (1 + (n6 : Int)) = (n6 : Int) + 1 := by omega
                  have hn10 : (0 : Int) < (n6 : Int) + 1 := by omega
                  clear hc6
                  go_wp2_with fail
                  with_reducible refine Calls.mono (ct _) ?_
                  rintro e w7 ⟨rfl, hb7⟩
                  have hs7 := hs6.out.below hb7
                  have c1 := steal_same (p := p) w7
                  have c2 := steal_nil (p := p) w7
                  have hfin := Lib.hid hs7.bel
                  clear hs7 hs6 hb7
                  go_wp2_with fail
                  with_reducible refine Calls.mono (c1) ?_
                  rintro e w8 ⟨rfl, rfl⟩
                  go_wp2_with fail
                  with_reducible refine Calls.mono (c2) ?_
                  rintro e w9 ⟨rfl, rfl⟩
                  go_wp2_with fail
                  go_ret
                  exact ⟨rfl, hfin.out⟩
    · by_cases hm0 : m < 256
      · replace hK0 : K = 0 ∧ m < 256 := ⟨by omega, hm0⟩
        clear hm0
        have kz : ((K : Int) == 0) = true := by rw [beq_iff_eq]; omega
        have kp : decide ((0 : Int) < (K : Int)) = false := decide_eq_false (by omega)
        have kp2 : decide (0 < K) = false := decide_eq_false (by omega)
        have kp3 : (decide ((K : Int) = 0)) = true := decide_eq_true (by omega)
        have kp4 : decide (K = 0) = true := decide_eq_true (by omega)
        have mz : decide ((m : Int) < 256) = true := decide_eq_true (by omega)
        have hKz := Lib.hid hK0
        clear hK0 hNN
        go_enter Try.func5, Try.ntmps5
        go_wp2_with fail
        with_reducible refine Calls.mono (cn) ?_
        rintro e w1 ⟨rfl, hs1⟩
        clear cn
        go_wp2_with fail
        with_reducible refine Calls.mono (cn2.out _) ?_
        rintro e w2 ⟨rfl, hs2⟩
        have hT := hstart.out w1 w2 hs1 hs2
        clear hstart cn2 hs1 hs2
        generalize w1.heap.size = q at *
        go_wp2_with fail
        clear hY hZ hK hm
        go_loopw [11] (fun i wr => ∃ k : Nat, i = .int .i64 k ∧ k ≤ K ∧ Hid (Rt w wr p q none [] none (seqL 1000 k))) (fun i _ => (K - (intOf i).toNat))
        case atStart => exact ⟨0, rfl, by omega, hT⟩
        case round =>
          obtain ⟨k, rfl, k1, hS⟩ := hrel
          clear hT
          by_cases hk : k < K
          · have i2 : (k : Int) < (K : Int) := by omega
            have cs := rt_put_right (1000 + (k : Int)) hS.out (by rw [seq_len]; omega)
            go_wp2_with fail
            with_reducible refine Calls.mono (cs) ?_
            rintro e w3 ⟨rfl, hs3⟩
            replace hs3 := Lib.hid hs3
            clear cs hS
            go_wp2_with fail
            go_roundw
            case rel => exact ⟨k + 1, by go_num, by omega, hs3⟩
            case measure => simp [intOf]; omega
          · obtain rfl : k = K := by omega
            clear hk k1
            have cs := rt_first_right 5000 hS.out
            go_wp2_with fail
            with_reducible refine Calls.mono (cs) ?_
            rintro e w3 ⟨rfl, hs3⟩
            have hS2 := Lib.hid hs3
            clear cs hS hs3
            go_wp2_with fail
            go_loopw [12] (fun i wr => ∃ j : Nat, i = .int .i64 j ∧ j ≤ m ∧ Hid (Rt w wr p q none (seqL 0 j) (some 5000) (seqL 1000 k))) (fun i _ => (m - (intOf i).toNat))
            case atStart => exact ⟨0, rfl, by omega, hS2⟩
            case round =>
              obtain ⟨j, rfl, j1, hS3⟩ := hrel
              clear hS2
              by_cases hj : j < m
              · have i2 : (j : Int) < (m : Int) := by omega
                have cs := rt_put_left (j : Int) hS3.out (by rw [seq_len]; omega)
                go_wp2_with fail
                with_reducible refine Calls.mono (cs) ?_
                rintro e w3 ⟨rfl, hs3⟩
                rw [show seqL 0 j ++ [(j : Int)] = seqL 0 (j + 1) by show _ = seqL 0 j ++ [0 + (j : Int)]; rw [Int.zero_add]] at hs3
                replace hs3 := Lib.hid hs3
                clear cs hS3
                go_wp2_with fail
                go_roundw
                case rel => exact ⟨j + 1, by go_num, by omega, hs3⟩
                case measure => simp [intOf]; omega
              · obtain rfl : j = m := by omega
                clear hj j1
                have cs := hA.out q (by have := hKz.out; omega) (by have := hKz.out; omega) wr hS3.out
                go_wp2_with fail
                with_reducible refine Calls.mono (cs) ?_
                rintro e w4 ⟨rfl, hs4⟩
                have cal := rt_all_left hs4
                clear cs hS3 hstl hA
                go_wp2_with fail
                with_reducible refine Calls.mono (cal) ?_
                rintro e w5 ⟨v5, rfl, hs5, hi5, _⟩
                have car := rt_all_right hs5
                clear hs4 cal
                go_wp2_with fail
                with_reducible refine Calls.mono (car) ?_
                rintro e w6 ⟨v6, rfl, hs6, hi6, hb6⟩
                have hi5' := hi5.below hb6
                obtain ⟨sp5, cap5, rfl, _, hc5⟩ := hi5'
                obtain ⟨sp6, cap6, rfl, _, hc6⟩ := hi6
                rw [show (allOf none (seqL 0 j ++ [5000])).length = j + 1 from hAlen.out] at hc5 ⊢
                rw [show (allOf none ([])).length = 0 from rfl] at hc6 ⊢
                replace hc5 := Lib.hid hc5
                replace hc6 := Lib.hid hc6
                replace hs6 := Lib.hid hs6
                clear car hs5 hi5 hb6
                go_wp2_with fail
                go_loopw [17] (fun i wr => ∃ t : Nat, i = .int .i64 t ∧ t ≤ 1 ∧ wr = w6) (fun i _ => (1 - (intOf i).toNat))
                case atStart => exact ⟨0, rfl, by omega, rfl⟩
                case round =>
                  obtain ⟨t, rfl, t1, rfl⟩ := hrel
                  by_cases ht : t < 1
                  · obtain rfl : t = 0 := by omega
                    obtain ⟨b, off, rfl, _, _, hcell⟩ := hc5.out (j + 0) (by omega)
                    rw [show (allOf none (seqL 0 j ++ [5000])).getD (j + 0) 0 = 5000 from (hAget.out 0 ht)] at hcell
                    rw [Nat.add_zero] at hcell
                    have i3 : (0 : Int) ≤ (j : Int) := by omega
                    have i4 : (j : Int) < (j : Int) + 1 := by omega
                    clear hc5 hc6
                    go_wp2_with fail
                    go_roundw
                    case rel => exact ⟨1, by first | rfl | go_num, by omega, by first | rfl | trivial⟩
                    case measure => simp [intOf]
                  · obtain rfl : t = 1 := by omega
                    clear ht t1 hc5
                    go_wp2_with fail
                    with_reducible refine Calls.mono (ct _) ?_
                    rintro e w7 ⟨rfl, hb7⟩
                    have hs7 := hs6.out.below hb7
                    have c1 := steal_same (p := p) w7
                    have c2 := steal_nil (p := p) w7
                    have hfin := Lib.hid hs7.bel
                    clear hs7 hs6 hb7
                    go_wp2_with fail
                    with_reducible refine Calls.mono (c1) ?_
                    rintro e w8 ⟨rfl, rfl⟩
                    go_wp2_with fail
                    with_reducible refine Calls.mono (c2) ?_
                    rintro e w9 ⟨rfl, rfl⟩
                    go_wp2_with fail
                    go_ret
                    exact ⟨rfl, hfin.out⟩
      · replace hK0 : K = 0 ∧ m = 256 := ⟨by omega, by omega⟩
        clear hm0
        have kz : ((K : Int) == 0) = true := by rw [beq_iff_eq]; omega
        have kp : decide ((0 : Int) < (K : Int)) = false := decide_eq_false (by omega)
        have kp2 : decide (0 < K) = false := decide_eq_false (by omega)
        have kp3 : (decide ((K : Int) = 0)) = true := decide_eq_true (by omega)
        have kp4 : decide (K = 0) = true := decide_eq_true (by omega)
        have mz : decide ((m : Int) < 256) = false := decide_eq_false (by omega)
        have hKz := Lib.hid hK0
        clear hK0 hNN
        go_enter Try.func5, Try.ntmps5
        go_wp2_with fail
        with_reducible refine Calls.mono (cn) ?_
        rintro e w1 ⟨rfl, hs1⟩
        clear cn
        go_wp2_with fail
        with_reducible refine Calls.mono (cn2.out _) ?_
        rintro e w2 ⟨rfl, hs2⟩
        have hT := hstart.out w1 w2 hs1 hs2
        clear hstart cn2 hs1 hs2
        generalize w1.heap.size = q at *
        go_wp2_with fail
        clear hY hZ hK hm
        go_loopw [11] (fun i wr => ∃ k : Nat, i = .int .i64 k ∧ k ≤ K ∧ Hid (Rt w wr p q none [] none (seqL 1000 k))) (fun i _ => (K - (intOf i).toNat))
        case atStart => exact ⟨0, rfl, by omega, hT⟩
        case round =>
          obtain ⟨k, rfl, k1, hS⟩ := hrel
          clear hT
          by_cases hk : k < K
          · have i2 : (k : Int) < (K : Int) := by omega
            have cs := rt_put_right (1000 + (k : Int)) hS.out (by rw [seq_len]; omega)
            go_wp2_with fail
            with_reducible refine Calls.mono (cs) ?_
            rintro e w3 ⟨rfl, hs3⟩
            replace hs3 := Lib.hid hs3
            clear cs hS
            go_wp2_with fail
            go_roundw
            case rel => exact ⟨k + 1, by go_num, by omega, hs3⟩
            case measure => simp [intOf]; omega
          · obtain rfl : k = K := by omega
            clear hk k1
            have cs := rt_first_right 5000 hS.out
            go_wp2_with fail
            with_reducible refine Calls.mono (cs) ?_
            rintro e w3 ⟨rfl, hs3⟩
            have hS2 := Lib.hid hs3
            clear cs hS hs3
            go_wp2_with fail
            go_loopw [12] (fun i wr => ∃ j : Nat, i = .int .i64 j ∧ j ≤ m ∧ Hid (Rt w wr p q none (seqL 0 j) (some 5000) (seqL 1000 k))) (fun i _ => (m - (intOf i).toNat))
            case atStart => exact ⟨0, rfl, by omega, hS2⟩
            case round =>
              obtain ⟨j, rfl, j1, hS3⟩ := hrel
              clear hS2
              by_cases hj : j < m
              · have i2 : (j : Int) < (m : Int) := by omega
                have cs := rt_put_left (j : Int) hS3.out (by rw [seq_len]; omega)
                go_wp2_with fail
                with_reducible refine Calls.mono (cs) ?_
                rintro e w3 ⟨rfl, hs3⟩
                rw [show seqL 0 j ++ [(j : Int)] = seqL 0 (j + 1) by show _ = seqL 0 j ++ [0 + (j : Int)]; rw [Int.zero_add]] at hs3
                replace hs3 := Lib.hid hs3
                clear cs hS3
                go_wp2_with fail
                go_roundw
                case rel => exact ⟨j + 1, by go_num, by omega, hs3⟩
                case measure => simp [intOf]; omega
              · obtain rfl : j = m := by omega
                clear hj j1
                have cs := hstl.out q (some 5000) (fun h => by have := hKz.out; omega) wr hS3.out
                go_wp2_with fail
                with_reducible refine Calls.mono (cs) ?_
                rintro e w4 ⟨rfl, hs4⟩
                have cal := rt_all_left hs4
                clear cs hS3 hstl hA
                go_wp2_with fail
                with_reducible refine Calls.mono (cal) ?_
                rintro e w5 ⟨v5, rfl, hs5, hi5, _⟩
                have car := rt_all_right hs5
                clear hs4 cal
                go_wp2_with fail
                with_reducible refine Calls.mono (car) ?_
                rintro e w6 ⟨v6, rfl, hs6, hi6, hb6⟩
                have hi5' := hi5.below hb6
                obtain ⟨sp5, cap5, rfl, _, hc5⟩ := hi5'
                obtain ⟨sp6, cap6, rfl, _, hc6⟩ := hi6
                rw [show (allOf none (seqL 0 j ++ (seqL 1000 k).take W0)).length = j + W0 from hLlen.out] at hc5 ⊢
                rw [show (allOf (some 5000) ((seqL 1000 k).drop W0)).length = 1 from (by show (([5000] : List Int) ++ (seqL 1000 k).drop W0).length = _; rw [List.length_append, hdlen.out]; have := hKz.out; show 1 + _ = _; omega)] at hc6 ⊢
                replace hc5 := Lib.hid hc5
                replace hc6 := Lib.hid hc6
                replace hs6 := Lib.hid hs6
                clear car hs5 hi5 hb6
                go_wp2_with fail
                go_loopw [17] (fun i wr => ∃ t : Nat, i = .int .i64 t ∧ t ≤ W0 ∧ wr = w6) (fun i _ => (W0 - (intOf i).toNat))
                case atStart => exact ⟨0, rfl, by omega, rfl⟩
                case round =>
                  obtain ⟨t, rfl, t1, rfl⟩ := hrel
                  by_cases ht : t < W0
                  · exact absurd ht (by have := hKz.out; omega)
                  · obtain rfl : t = W0 := by omega
                    clear ht t1 hc5
                    obtain ⟨b, off, rfl, _, _, hcell⟩ := hc6.out 0 (by omega)
                    rw [show (allOf (some 5000) ((seqL 1000 k).drop t)).getD 0 0 = 5000 from rfl] at hcell
                    rw [Nat.add_zero] at hcell
                    have ht0 : ((t : Int) == 0) = true := by rw [beq_iff_eq]; have := hKz.out; omega
                    clear hc6
                    go_wp2_with fail
                    with_reducible refine Calls.mono (ct _) ?_
                    rintro e w7 ⟨rfl, hb7⟩
                    have hs7 := hs6.out.below hb7
                    have c1 := steal_same (p := p) w7
                    have c2 := steal_nil (p := p) w7
                    have hfin := Lib.hid hs7.bel
                    clear hs7 hs6 hb7
                    go_wp2_with fail
                    with_reducible refine Calls.mono (c1) ?_
                    rintro e w8 ⟨rfl, rfl⟩
                    go_wp2_with fail
                    with_reducible refine Calls.mono (c2) ?_
                    rintro e w9 ⟨rfl, rfl⟩
                    go_wp2_with fail
                    go_ret
                    exact ⟨rfl, hfin.out⟩

set_option maxRecDepth 100000 in
theorem lifted (os : Os) (started : os.Started) (H : Type) (enc : TypeId × Value → H) :
    ReturnsInHanded {} Try.checked os 5 .any (Rows.ringStealsSpec.pre6 enc Try.prog Try.f5 Rows.ringStealsRow.domain false) (Rows.ringStealsSpec.post enc Try.prog Try.f5 false true false false) := by
  refine returnsInHanded_of_change (C := Try.checked) own started (by kernel_rfl) Try.func5
    (ChangeSpec.witness6 (enc := enc) (C := Try.checked) false ⟨#[], #[.int .i64 0, .int .i64 0, .bool false], []⟩ 8 (by kernel_rfl) (by kernel_rfl) (by kernel_rfl) (by kernel_rfl)) ?_
  intro W base args ds gs before hval0 hW hcnd _
  have hval : ∀ (j : Nat) t v, Try.f5.params[j]? = some t → args[j]? = some v → Value.okWide Try.prog W .any base t v := hval0
  have hW' := hW
  obtain ⟨p, q, hA0, hV, rfl, hfz, hnd⟩ := hW
  have hA : DataW.TrodAll enc Try.prog W 0 (fun _ => true) true Try.f5.params.toList args.toList ds p := hA0
  rw [Try.params5] at hA hval
  obtain ⟨v0, vs0, d0, ds0, p0, q0, hargs, rfl, rfl, h0, r0⟩ := trodAll_cons hA
  obtain ⟨v1, vs1, d1, ds1, p1, q1, rfl, rfl, rfl, h1, r1⟩ := trodAll_cons r0
  obtain ⟨v2, vs2, d2, ds2, p2, q2, rfl, rfl, rfl, h2, r2⟩ := trodAll_cons r1
  obtain ⟨rfl, rfl, rfl⟩ := trodAll_nil r2
  obtain rfl : args = #[v0, v1, v2] := by cases args; simp_all
  obtain ⟨rfl, rfl⟩ := trodVars_none hV
  obtain ⟨a0, rfl, rfl, rfl, w0⟩ := open_int Try.underlying3 (hval 0 3 v0 rfl rfl) h0
  obtain ⟨a1, rfl, rfl, rfl, w1⟩ := open_int Try.underlying3 (hval 1 3 v1 rfl rfl) h1
  obtain ⟨a2, rfl, rfl, rfl⟩ := open_bool Try.underlying4 (hval 2 4 v2 rfl rfl) h2
  clear hA0 hval0
  simp only [List.append_nil] at hW'
  refine (walk a0 a1 a2 W w0 w1).mono fun e W' ⟨he, hg⟩ => ?_
  subst he
  exact ⟨_, rfl, post_of_kept (pa := _) (pv := []) hW' (fun _ _ _ => (trodAll_cons_mk (shut_bool Try.underlying4 _) trodAll_mk0)) (trodAll_cons_mk (shut_int Try.underlying3 w0) (trodAll_cons_mk (shut_int Try.underlying3 w1) (trodAll_cons_mk (shut_bool Try.underlying4 _) trodAll_mk0))) (fun _ _ => rfl) (by simp) hg⟩

theorem over : Rows.ringStealsRow.holds Try.pinned (OpenSpec.ofChange Rows.ringStealsSpec) :=
  OpenClaim.holds_of_wide 5 Try.f5 rfl rfl rfl rfl rfl rfl rfl ⟨rfl, rfl, rfl, rfl, rfl⟩ rfl rfl rfl rfl rfl (by kernel_rfl) Try.func5 (by kernel_rfl)
    (of_decide_eq_true (by kernel_rfl)) (by unfold Func.isWrapper; first | (rw [if_pos (by decide +kernel)]; kernel_rfl) | (rw [if_neg (by decide +kernel)]; exact ⟨rfl, rfl⟩))
    (fun os started H enc _ => lifted os started H enc)

theorem proved : Rows.RingStealsSaid :=
  over
#print axioms proved
end Go.Proofs.Yteigcjgohhgjcaa.ringSteals
