/- A buffer's numbers come out last in, first out, up to 32; half of it, and what is left, are the whole: of any numbers (at most 40), beside a buffer that has some (up to 32). No condition. -/
import Derived.Test.YtgmcimhlkccfdaaBufMore
import Derived.WalkKit
import Derived.ProofKit
import Derived.OpenShut
import Derived.Deep.RegionHeld3
import Derived.Deep.RegionWith
import Derived.Deep.Cut
import Derived.Deep.CutBlock
import Derived.Deep.CutRange
import Derived.Deep.DeepCutAuto
import Derived.RegionTactic
namespace Go.Proofs.Ytgmcimhlkccfdaa.bufferStack
open Go.ChangeShapes Go.WideShapes Go.ChangeAt Go.WideElems Go.RowKit Go.Lib Fx Ho Bu Rw Qu
set_option linter.unusedVariables false

theorem own : ownKnob Try.prog.godebug = none := by kernel_rfl

set_option maxRecDepth 100000 in
set_option maxHeartbeats 4000000 in
theorem walk (v0 : Value) (z0 : List Int) (a1 : Int) (w : World) (h0 : Ints w (fun k => k < w.heap.size) v0 z0) (w1 : (Lit.int .i64 a1).wf = true) :
    Calls Try.prog 4 #[v0, .int .i64 a1] w fun e w' => e = .returned (.bool true) ∧ Below w.heap.size w w' := by
  have ct := fun w => told_any w
  obtain ⟨sp, cap, rfl, hmx, hc⟩ := h0
  obtain ⟨l, hl⟩ : ∃ l, z0.length = l := ⟨_, rfl⟩
  rw [hl] at hmx hc
  rw [hl]
  have hcell : Hid (∀ W, Below w.heap.size w W → ∀ i, i < l → ∃ b off, sp = some ⟨b, off, none⟩ ∧ W.cell? ⟨b, off + i, none⟩ = some (.int .i64 (z0.getD i 0))) := fun W hb i hi => by
    obtain ⟨b, off, e, _, _, k1⟩ := hc i hi
    exact ⟨b, off, e, cell_then hb k1⟩
  clear hc
  by_cases hgt : 40 < l
  · have g1 : (40 : Int) < (l : Int) := by omega
    go_enter Try.func4, Try.ntmps4
    go_wp2_with fail
    with_reducible refine Calls.mono (ct w) ?_
    rintro e w1 ⟨rfl, hb⟩
    go_wp2_with fail
    go_ret
    exact ⟨rfl, hb⟩
  have g1 : (l : Int) ≤ 40 := by omega
  have cn := bs_new w
  obtain ⟨p, hp⟩ : ∃ p, w.heap.size = p := ⟨_, rfl⟩
  rw [hp] at cn
  clear hp
  obtain ⟨Z, hZ⟩ : ∃ Z : Int, IntKind.u64.wrap a1 = Z := ⟨_, rfl⟩
  have z1 : 0 ≤ Z := by rw [← hZ, IntKind.wrap_u64]; omega
  obtain ⟨m, hm⟩ : ∃ m : Nat, Z % 33 = (m : Int) := ⟨(Z % 33).toNat, by omega⟩
  have m1 : m ≤ 32 := by omega
  obtain ⟨n, hn⟩ : ∃ n : Nat, min l 32 = n := ⟨_, rfl⟩
  have hmin : ∀ (ts : Array TypeId) (t : TypeId) (W : World), (Builtin.min_ ts t #[.int .i64 (l : Int), .int .i64 32]).run Try.prog W = .ok (.int .i64 (n : Int)) W := fun ts t W => by
    rw [run_min_int2]
    by_cases h : (32 : Int) < (l : Int)
    · rw [if_pos h]; congr 2; omega
    · rw [if_neg h]; congr 2; omega
  go_enter Try.func4, Try.ntmps4
  go_wp2_with fail
  with_reducible refine Calls.mono (cn) ?_
  rintro e w1 ⟨rfl, hs1⟩
  have cn2 := bs2_new hs1
  obtain ⟨q, hq⟩ : ∃ q, w1.heap.size = q := ⟨_, rfl⟩
  rw [hq] at cn2
  clear hq cn hs1
  go_wp2_with fail
  with_reducible refine Calls.mono (cn2) ?_
  rintro e w2 ⟨rfl, hs2⟩
  replace hs2 := Lib.hid hs2
  clear cn2
  go_wp2_with fail
  have n1 : n ≤ l := by omega
  have n2 : n ≤ 32 := by omega
  have n3 : n < l → n = 32 := by omega
  have hz0 : Hid (z0.length = l) := hl
  clear hmin hn hZ z1 hm
  have hs2' : Hid (Bs2 w w2 p q (z0.take (min 0 n)) []) := by rw [Nat.zero_min]; exact hs2.out
  clear hs2
  go_loopw [9] (fun i wr => ∃ j : Nat, i = .int .i64 j ∧ j ≤ l ∧ Hid (Bs2 w wr p q (z0.take (min j n)) [])) (fun i _ => (l - (intOf i).toNat))
  case atStart => exact ⟨0, rfl, by omega, hs2'⟩
  case round =>
    obtain ⟨j, rfl, j1, hS⟩ := hrel
    clear hs2'
    by_cases hj : j < l
    · have i2 : (j : Int) < (l : Int) := by omega
      have i0 : (0 : Int) ≤ (j : Int) := by omega
      obtain ⟨b, off, rfl, k1⟩ := hcell.out wr hS.out.bel j hj
      by_cases hj2 : j < n
      · have hmj : min j n = j := by omega
        have hS1 : Hid (Bs2 w wr p q (z0.take j) []) := by have := hS.out; rw [hmj] at this; exact this
        have cp := bs2_put (z0.getD j 0) (by rw [List.length_take]; omega) hS1.out
        have hj3 : (j : Int) < 32 := by omega
        have hnx : Hid (∀ W, Bs2 w W p q (z0.take j ++ [z0.getD j 0]) [] → Hid (Bs2 w W p q (z0.take (min (j + 1) n)) [])) := fun W h => by
          rw [show min (j + 1) n = j + 1 by omega, tk_more (by have := hz0.out; omega)]; exact h
        clear hmj hS hS1 hl
        generalize z0.getD j 0 = x at *
        go_wp2_with fail
        with_reducible refine Calls.mono (cp) ?_
        rintro e w3 ⟨rfl, h3⟩
        have h4 := hnx.out _ h3
        clear h3 cp hnx
        go_wp2_with fail
        go_roundw
        case rel => exact ⟨j + 1, by go_num, by omega, h4⟩
        case measure => simp [intOf]; omega
      · have hmj : min j n = n := by omega
        have hn32 : n = 32 := by omega
        have hS1 : Hid (Bs2 w wr p q (z0.take n) []) := by have := hS.out; rw [hmj] at this; exact this
        have cp := put_full (z0.getD j 0) (by rw [List.length_take]; have := hz0.out; omega) hS1.out.a
        have hj3 : ¬ ((j : Int) < 32) := by omega
        have h4 : Hid (Bs2 w wr p q (z0.take (min (j + 1) n)) []) := by
          rw [show min (j + 1) n = n by omega]; exact hS1.out
        clear hmj hS hS1 hl hn32
        generalize z0.getD j 0 = x at *
        go_wp2_with fail
        with_reducible refine Calls.mono (cp) ?_
        rintro e w3 ⟨rfl, rfl⟩
        clear cp
        go_wp2_with fail
        go_roundw
        case rel => exact ⟨j + 1, by go_num, by omega, h4⟩
        case measure => simp [intOf]; omega
    · obtain rfl : l = j := by omega
      have hS1 : Hid (Bs2 w wr p q (z0.take n) (seqI 1000 0)) := by have := hS.out; rw [show min l n = n by omega] at this; exact this
      clear hS hj j1
      go_wp2_with fail
      go_loopw [10] (fun i wr => ∃ j : Nat, i = .int .i64 j ∧ j ≤ m ∧ Hid (Bs2 w wr p q (z0.take n) (seqI 1000 j))) (fun i _ => (m - (intOf i).toNat))
      case atStart => exact ⟨0, rfl, by omega, hS1⟩
      case round =>
        obtain ⟨j, rfl, j1, hS⟩ := hrel
        clear hS1
        by_cases hj : j < m
        · have i2 : (j : Int) < (m : Int) := by omega
          have i0 : (0 : Int) ≤ (j : Int) := by omega
          have cp := bs2_put (1000 + (j : Int)) (by rw [seq_len]; omega) hS.out.swap
          clear hS hl
          go_wp2_with fail
          with_reducible refine Calls.mono (cp) ?_
          rintro e w3 ⟨rfl, h3⟩
          have h4 : Hid (Bs2 w w3 p q (z0.take n) (seqI 1000 (j + 1))) := h3.swap
          clear h3 cp
          go_wp2_with fail
          go_roundw
          case rel => exact ⟨j + 1, by go_num, by omega, h4⟩
          case measure => simp [intOf]; omega
        · obtain rfl : m = j := by omega
          clear hj j1
          have hAl : (z0.take n).length = n := by rw [List.length_take]; have := hz0.out; omega
          have hMl : (seqI 1000 m).length = m := seq_len _ _
          obtain ⟨A, hA⟩ : ∃ A, z0.take n = A := ⟨_, rfl⟩
          obtain ⟨M, hM⟩ : ∃ M, seqI 1000 m = M := ⟨_, rfl⟩
          have hAg : Hid (∀ u, u < n → A.getD u 0 = z0.getD u 0) := fun u hu => by rw [← hA, gd_take hu]
          rw [hA] at hAl hS
          rw [hM] at hMl hS
          clear hA hM
          obtain ⟨h, hh⟩ : ∃ h, n / 2 = h := ⟨_, rfl⟩
          have ch : Hid (∃ K r, K + r = n ∧ (K = h ∨ K = 0 ∧ 32 < h + m) ∧ Calls Try.prog 20 #[.pointer (some ⟨p, 0, none⟩), .pointer (some ⟨q, 0, none⟩)] wr fun e w' => e = .returned (.int .i64 K) ∧ Bs2 w w' p q (A.take r) (M ++ A.drop r)) := by
            by_cases hroom : h + m ≤ 32
            · exact ⟨h, n - h, by omega, Or.inl rfl, bs2_half (by rw [hAl]; exact hh) (by rw [hAl]; omega) (by rw [hMl]; exact hroom) hS.out⟩
            · refine ⟨0, n, by omega, Or.inr ⟨rfl, by omega⟩, (half_no (n := h) (by rw [hAl]; exact hh) (by rw [hMl]; omega) hS.out.ne hS.out.a hS.out.b).mono fun e w' ⟨he, hw⟩ => ⟨he, ?_⟩⟩
              rw [List.take_of_length_le (by omega), List.drop_eq_nil_of_le (by omega), List.append_nil, ← hw]; exact hS.out
          obtain ⟨K, r, hKr, hK, cp⟩ := ch.out
          clear ch hS hl
          have e1 : (n : Int) / 2 = (h : Int) := by omega
          have e2 : (n : Int) - (K : Int) = (r : Int) := by omega
          have hn0 : (0 : Int) ≤ (n : Int) := by omega
          have hn1 : (n : Int) ≤ 32 := by omega
          have hK0 : (0 : Int) ≤ (K : Int) := by omega
          have hK1 : (K : Int) ≤ 32 := by omega
          have hm0 : (0 : Int) ≤ (m : Int) := by omega
          have hm1 : (m : Int) ≤ 32 := by omega
          have hr0 : (0 : Int) ≤ (r : Int) := by omega
          have hr1 : (r : Int) ≤ 32 := by omega
          have hrn : r ≤ n := by omega
          have hKrn : Hid (K + r = n) := hKr
          have cl1 : Hid (∀ W, Bs2 w W p q (A.take r) (M ++ A.drop r) → Calls Try.prog 22 #[.pointer (some ⟨p, 0, none⟩)] W (Still (.int .i64 (r : Int)) W)) := fun W h => by
            have := len_any h.a
            rwa [List.length_take, hAl, show min r n = r by omega] at this
          have cl2 : Hid (∀ W, Bs2 w W p q (A.take r) (M ++ A.drop r) → Calls Try.prog 22 #[.pointer (some ⟨q, 0, none⟩)] W (Still (.int .i64 ((m : Int) + (K : Int))) W)) := fun W h => by
            have := len_any h.b
            rw [List.length_append, List.length_drop, hAl, hMl, show n - r = K by omega] at this
            rwa [show ((m + K : Nat) : Int) = (m : Int) + (K : Int) by omega] at this
          have cg2 : Hid (∀ W u, r ≤ u → u < n → Bs2 w W p q (A.take r) ((M ++ A.drop r).take (m + (u + 1) - r)) → Calls Try.prog 18 #[.pointer (some ⟨q, 0, none⟩)] W fun e w' => e = .returned (.tuple #[.int .i64 (z0.getD u 0), .bool true]) ∧ Bs2 w w' p q (A.take r) ((M ++ A.drop r).take (m + u - r))) := fun W u hu hu2 hS => by
            have hlen : (M ++ A.drop r).length = m + K := by rw [List.length_append, List.length_drop, hAl, hMl, show n - r = K by omega]
            have := bs2_get (n := m + u - r) (by rw [List.length_take, hlen]; omega) hS.swap
            rw [List.take_take, show min (m + u - r) (m + (u + 1) - r) = m + u - r by omega, gd_take (by omega), gd_right (by omega), hMl, gd_drop, show r + (m + u - r - m) = u by omega, hAg.out u hu2] at this
            exact this.mono fun e w' ⟨a, b⟩ => ⟨a, b.swap⟩
          have cg1 : Hid (∀ W u, u < r → Bs2 w W p q (A.take (u + 1)) M → Calls Try.prog 18 #[.pointer (some ⟨p, 0, none⟩)] W fun e w' => e = .returned (.tuple #[.int .i64 (z0.getD u 0), .bool true]) ∧ Bs2 w w' p q (A.take u) M) := fun W u hu hS => by
            have := bs2_get (n := u) (by rw [List.length_take, hAl]; omega) hS
            rw [List.take_take, show min u (u + 1) = u by omega, gd_take (by omega), hAg.out u (by omega)] at this
            exact this
          have hst : Hid (∀ W, Bs2 w W p q (A.take r) (M ++ A.drop r) → Hid (Bs2 w W p q (A.take r) ((M ++ A.drop r).take (m + n - r)))) := fun W h => by
            have ht : (M ++ A.drop r).take (m + n - r) = M ++ A.drop r := List.take_of_length_le (by rw [List.length_append, List.length_drop, hAl, hMl]; omega)
            show Bs2 w W p q (A.take r) ((M ++ A.drop r).take (m + n - r))
            rw [ht]; exact h
          have hmid : Hid (∀ W, Bs2 w W p q (A.take r) ((M ++ A.drop r).take (m + r - r)) → Hid (Bs2 w W p q (A.take r) M)) := fun W h => by
            rw [show m + r - r = M.length by omega, List.take_left] at h; exact h
          have hnil : Hid (A.take 0 = []) := rfl
          clear hAl hh hKr
          have hbs : Hid (((K : Int) != (h : Int)) = false ∨ ((K : Int) != (h : Int)) = true ∧ ((K : Int) != 0) = false ∧ decide ((h : Int) ≤ 32 - (m : Int)) = false) := by
            rcases hK with rfl | ⟨rfl, hlt⟩
            · exact Or.inl (by simp)
            · by_cases h0 : h = 0
              · subst h0; exact Or.inl (by simp)
              · exact Or.inr ⟨by simp [bne]; omega, by simp, by rw [decide_eq_false_iff_not]; omega⟩
          clear hK
          go_wp2_with fail
          with_reducible refine Calls.mono (cp) ?_
          rintro e w3 ⟨rfl, hS3⟩
          replace hS3 := Lib.hid hS3
          have c1 := cl1.out _ hS3.out
          have c2 := cl2.out _ hS3.out
          clear cp
          rcases hbs.out with g2 | ⟨g2, g3, g4⟩
          all_goals
            clear hbs
            go_wp2_with fail
            with_reducible refine Calls.mono c1 ?_
            rintro e w4 ⟨rfl, rfl⟩
            go_wp2_with fail
            with_reducible refine Calls.mono c2 ?_
            rintro e w4 ⟨rfl, rfl⟩
            go_wp2_with fail
            have hS4 := hst.out _ hS3.out
            clear c1 c2 hst hS3 g2 cl1 cl2
            go_loopw [12] (fun i wr => ∃ (x : Int) (t : Nat), i = .int .i64 x ∧ x = (t : Int) - 1 ∧ r ≤ t ∧ t ≤ n ∧ Hid (Bs2 w wr p q (A.take r) ((M ++ A.drop r).take (m + t - r)))) (fun i _ => (intOf i + 1).toNat)
            case atStart => exact ⟨_, n, rfl, rfl, hrn, Nat.le_refl _, hS4⟩
            case round =>
              obtain ⟨x, t, rfl, hx, t1, t2, hS⟩ := hrel
              clear hS4
              by_cases ht : r < t
              · obtain ⟨u, rfl⟩ : ∃ u, t = u + 1 := ⟨t - 1, by omega⟩
                obtain rfl : x = (u : Int) := by omega
                clear hx
                have j1 : (r : Int) ≤ (u : Int) := by omega
                have j0 : (0 : Int) ≤ (u : Int) := by omega
                have j2 : (u : Int) < (l : Int) := by omega
                obtain ⟨b, off, rfl, k1⟩ := hcell.out wr hS.out.bel u (by omega)
                have cg := cg2.out wr u (by omega) (by omega) hS.out
                have hk : Hid (∀ W, Bs2 w W p q (A.take r) ((M ++ A.drop r).take (m + u - r)) → W.cell? ⟨b, off + u, none⟩ = some (.int .i64 (z0.getD u 0))) := fun W h => by
                  obtain ⟨b', off', e, k⟩ := hcell.out W h.bel u (by omega)
                  cases e; exact k
                clear hS cg1 k1
                generalize z0.getD u 0 = y at *
                go_wp2_with fail
                with_reducible refine Calls.mono (cg) ?_
                rintro e w5 ⟨rfl, hS5⟩
                have k2 := hk.out w5 hS5
                replace hS5 := Lib.hid hS5
                clear cg hk
                go_wp2_with fail
                go_roundw
                case rel => exact ⟨_, u, rfl, rfl, by omega, by omega, hS5⟩
                case measure => simp [intOf]
              · obtain rfl : t = r := by omega
                have hS5 := hmid.out _ hS.out
                have j1 : ¬ ((t : Int) ≤ x) := by omega
                clear hS cg2 hmid
                go_wp2_with fail
                clear hx j1
                go_loopw [15] (fun i wr => ∃ (x : Int) (u : Nat), i = .int .i64 x ∧ x = (u : Int) - 1 ∧ u ≤ t ∧ Hid (Bs2 w wr p q (A.take u) M)) (fun i _ => (intOf i + 1).toNat)
                case atStart => exact ⟨_, t, rfl, rfl, Nat.le_refl _, hS5⟩
                case round =>
                  obtain ⟨x2, v, rfl, hx, v1, hS⟩ := hrel
                  clear hS5
                  by_cases hv : 0 < v
                  · obtain ⟨u, rfl⟩ : ∃ u, v = u + 1 := ⟨v - 1, by omega⟩
                    obtain rfl : x2 = (u : Int) := by omega
                    clear hx
                    have j0 : (0 : Int) ≤ (u : Int) := by omega
                    have j2 : (u : Int) < (l : Int) := by omega
                    obtain ⟨b, off, rfl, k1⟩ := hcell.out wr hS.out.bel u (by omega)
                    have cg := cg1.out wr u (by omega) hS.out
                    have hk : Hid (∀ W, Bs2 w W p q (A.take u) M → W.cell? ⟨b, off + u, none⟩ = some (.int .i64 (z0.getD u 0))) := fun W h => by
                      obtain ⟨b', off', e, k⟩ := hcell.out W h.bel u (by omega)
                      cases e; exact k
                    clear hS k1
                    generalize z0.getD u 0 = y at *
                    go_wp2_with fail
                    with_reducible refine Calls.mono (cg) ?_
                    rintro e w5 ⟨rfl, hS5⟩
                    have k2 := hk.out w5 hS5
                    replace hS5 := Lib.hid hS5
                    clear cg hk
                    go_wp2_with fail
                    go_roundw
                    case rel => exact ⟨_, u, rfl, rfl, by omega, hS5⟩
                    case measure => simp [intOf]
                  · obtain rfl : v = 0 := by omega
                    obtain rfl : x2 = -1 := by omega
                    have hS5 : Hid (Bs2 w wr p q [] M) := hS.out
                    have cg := get_none hS5.out.a
                    have cm := len_any hS5.out.b
                    rw [hMl] at cm
                    have cm2 : Hid (∀ W, Below wr.heap.size wr W → Calls Try.prog 22 #[.pointer (some ⟨q, 0, none⟩)] W (Still (.int .i64 (m : Int)) W)) := fun W h => by
                      have := len_any (hS5.out.below h).b
                      rwa [hMl] at this
                    clear hS hx
                    go_wp2_with fail
                    with_reducible refine Calls.mono (cg) ?_
                    rintro e w6 ⟨rfl, rfl⟩
                    clear cg
                    go_wp2_with fail
                    with_reducible refine Calls.mono (get_nil _) ?_
                    rintro e w6 ⟨rfl, rfl⟩
                    go_wp2_with fail
                    with_reducible refine Calls.mono (ct _) ?_
                    rintro e w7 ⟨rfl, hb7⟩
                    have cm3 := cm2.out _ hb7
                    have hfin := Lib.hid (hS5.out.below hb7).bel
                    clear cm2 cm hS5 hb7
                    go_wp2_with fail
                    with_reducible refine Calls.mono (cm3) ?_
                    rintro e w8 ⟨rfl, rfl⟩
                    go_wp2_with fail
                    with_reducible refine Calls.mono (put_nil _ _) ?_
                    rintro e w8 ⟨rfl, rfl⟩
                    go_wp2_with fail
                    with_reducible refine Calls.mono (len_nil _) ?_
                    rintro e w8 ⟨rfl, rfl⟩
                    go_wp2_with fail
                    go_ret
                    exact ⟨rfl, hfin.out⟩

set_option maxRecDepth 100000 in
theorem lifted (os : Os) (started : os.Started) (H : Type) (enc : TypeId × Value → H) :
    ReturnsInHanded {} Try.checked os 4 .any (Rows.bufferStackSpec.pre6 enc Try.prog Try.f4 Rows.bufferStackRow.domain false) (Rows.bufferStackSpec.post enc Try.prog Try.f4 false true false false) := by
  refine returnsInHanded_of_change (C := Try.checked) own started (by kernel_rfl) Try.func4
    (ChangeSpec.witness6 (enc := enc) (C := Try.checked) false ⟨#[], #[.slice none 0 0, .int .i64 0], []⟩ 8 (by kernel_rfl) (by kernel_rfl) (by kernel_rfl) (by kernel_rfl)) ?_
  intro W base args ds gs before hval0 hW hcnd _
  have hval : ∀ (j : Nat) t v, Try.f4.params[j]? = some t → args[j]? = some v → Value.okWide Try.prog W .any base t v := hval0
  have hW' := hW
  obtain ⟨p, q, hA0, hV, rfl, hfz, hnd⟩ := hW
  have hA : DataW.TrodAll enc Try.prog W 0 (fun _ => true) true Try.f4.params.toList args.toList ds p := hA0
  rw [Try.params4] at hA hval
  obtain ⟨v0, vs0, d0, ds0, p0, q0, hargs, rfl, rfl, h0, r0⟩ := trodAll_cons hA
  obtain ⟨v1, vs1, d1, ds1, p1, q1, rfl, rfl, rfl, h1, r1⟩ := trodAll_cons r0
  obtain ⟨rfl, rfl, rfl⟩ := trodAll_nil r1
  obtain rfl : args = #[v0, v1] := by cases args; simp_all
  obtain ⟨rfl, rfl⟩ := trodVars_none hV
  obtain ⟨z0, i0⟩ := arg_ints (hval 0 26 v0 rfl rfl) h0
  obtain ⟨a1, rfl, rfl, rfl, w1⟩ := open_int Try.underlying3 (hval 1 3 v1 rfl rfl) h1
  clear hA0 hval0
  simp only [List.append_nil] at hW'
  have lt0 : ∀ x ∈ p0, x.block < W.heap.size := fun x hx => by have := hW'.lt x (by simp [hx]); simpa using this
  refine (walk v0 z0 a1 W i0 w1).mono fun e W' ⟨he, hg⟩ => ?_
  subst he
  exact ⟨_, rfl, post_of_kept (pa := _) (pv := []) hW' (fun _ _ _ => (trodAll_cons_mk (shut_bool Try.underlying4 _) trodAll_mk0)) (trodAll_cons_mk (Below.trod laidOut (by kernel_rfl) (of_decide_eq_true (by kernel_rfl)) h0 hg lt0) (trodAll_cons_mk (shut_int Try.underlying3 w1) trodAll_mk0)) (fun _ _ => rfl) (by simp) hg⟩

theorem over : Rows.bufferStackRow.holds Try.pinned (OpenSpec.ofChange Rows.bufferStackSpec) :=
  OpenClaim.holds_of_wide 4 Try.f4 rfl rfl rfl rfl rfl rfl rfl ⟨rfl, rfl, rfl, rfl, rfl⟩ rfl rfl rfl rfl rfl (by kernel_rfl) Try.func4 (by kernel_rfl)
    (of_decide_eq_true (by kernel_rfl)) (by unfold Func.isWrapper; first | (rw [if_pos (by decide +kernel)]; kernel_rfl) | (rw [if_neg (by decide +kernel)]; exact ⟨rfl, rfl⟩))
    (fun os started H enc _ => lifted os started H enc)

theorem proved : Rows.BufferStackSaid :=
  over
#print axioms proved
end Go.Proofs.Ytgmcimhlkccfdaa.bufferStack
