/- What math/bits' Div64 answers, for every number of two words and every divisor that is greater than the upper word (which isn't 0): quotient and rest. -/
import Derived.Test.YtmngaedcckjfoaaFixDiv
namespace Go.Proofs.Ytmngaedcckjfoaa
open Go.RowKit Go.Lib Fx
set_option linter.unusedVariables false

theorem ret_pair {k : IntKind} {a b c : Int} (h : a = b) : Ending.returned (.tuple #[.int k a, .int k c]) = .returned (.tuple #[.int k b, .int k c]) := by rw [h]

set_option maxRecDepth 100000 in
set_option maxHeartbeats 2000000 in
theorem div64_high (hi lo y : Nat) (hh : 0 < hi) (h : hi < y) (hy : y < 18446744073709551616) (hlo : lo < 18446744073709551616) (w : World) :
    Calls Try.prog 116 #[.int .u64 hi, .int .u64 lo, .int .u64 y] w fun e w' => e = .returned (.tuple #[.int .u64 (((hi * 18446744073709551616 + lo) / y : Nat) : Int), .int .u64 (((hi * 18446744073709551616 + lo) % y : Nat) : Int)]) ∧ w = w' := by
  have hc := fun w => leading64_any (y : Int) w (by omega) (by omega)
  obtain ⟨b1, b2, b3, b4⟩ := bitLen_bounds y (by omega) hy
  rw [Int.toNat_natCast] at hc
  generalize Lib.bitLen y = L at *
  obtain ⟨Y, Hs, l2, U, D, A, B1, D1, D0, u, a, b, d1, d0, r1, r2, r3, r4, r5, r6, r7, r8, r9, p⟩ := pre_of h hlo b1 b2 b3 b4
  obtain ⟨Q, R, s1, s2, g, q0, q1, q2, q3⟩ := start_of p
  have A1 : 2147483648 ≤ A := by have := p.hA; have := p.ha; omega
  have A2 : A < 4294967296 := by have := p.hA; have := p.ha'; omega
  have P := Lib.hid p
  have G := Lib.hid g
  clear p g b3 b4 hy hlo
  obtain ⟨res1, hres1⟩ : ∃ z : Int, z = (((hi * 18446744073709551616 + lo) / y : Nat) : Int) := ⟨_, rfl⟩
  obtain ⟨res2, hres2⟩ : ∃ z : Int, z = (((hi * 18446744073709551616 + lo) % y : Nat) : Int) := ⟨_, rfl⟩
  rw [← hres1, ← hres2]
  have HR1 := Lib.hid hres1
  have HR2 := Lib.hid hres2
  clear hres1 hres2
  go_enter Try.func116, Try.ntmps116
  go_wp2_with (go_at_call 118; refine (hc _).mono ?_; rintro e w' ⟨rfl, rfl⟩)
  clear s1 s2
  go_loop [15, 16] (fun sq sr => ∃ q r : Int, sq = .int .u64 q ∧ sr = .int .u64 r ∧ 0 ≤ q ∧ q ≤ 4294967297 ∧ 0 ≤ r ∧ r < 4294967296 ∧ Hid (GuessI u d1 a b q r)) (fun sq _ => (intOf sq).toNat)
  case atStart => exact ⟨Q, R, rfl, rfl, q0, q1, q2, q3, G⟩
  case round =>
    clear q0 q1 q2 q3 G
    obtain ⟨q, r, rfl, rfl, q0, q1, q2, q3, G⟩ := hrel
    have p := P.out
    by_cases hc1 : 4294967296 ≤ q
    · obtain ⟨t1, t2, t3⟩ := step_of p.ha p.ha' p.hb p.hd1 p.hu q0 q2 G.out (Or.inl hc1)
      rw [← p.hA] at t2 t3
      by_cases hc3 : 4294967296 ≤ r + A
      · have T := t3 hc3
        clear t2 t3
        obtain ⟨qq, hqe⟩ : ∃ z : Int, q - 1 = z := ⟨_, rfl⟩
        rw [hqe] at T
        have hqq : 0 ≤ qq := by omega
        obtain ⟨U1, Q0, R0, u1, m1, m2, m3, g0, k0, k1, k2, k3, k4, hU1, hu1⟩ := mid_of p hqq T
        have G0 := Lib.hid g0
        have T1 := Lib.hid T
        have HU1 := Lib.hid hU1
        have Hu1 := Lib.hid hu1
        clear g0 T hU1 hu1 p
        go_wp2_with fail
        clear m1 m2 m3
        go_loop [18, 16] (fun sq sr => ∃ q r : Int, sq = .int .u64 q ∧ sr = .int .u64 r ∧ 0 ≤ q ∧ q ≤ 4294967297 ∧ 0 ≤ r ∧ r < 4294967296 ∧ Hid (GuessI u1 d0 a b q r)) (fun sq _ => (intOf sq).toNat)
        case atStart => exact ⟨Q0, R0, rfl, rfl, k0, k1, k2, k3, G0⟩
        case round =>
          clear k0 k1 k2 k3 G0
          obtain ⟨v, z, rfl, rfl, v0, v1, v2, v3, GG⟩ := hrel
          have p := P.out
          have hlt : u1 < a * 4294967296 + b := by have hu := Hu1.out; have := (digit_rest (u := u) (d := d1) (a := a) (b := b) (q := qq.toNat) p.hYB T1.out).2; rw [← hu] at this; exact this
          by_cases hd1 : 4294967296 ≤ v
          · obtain ⟨t1, t2, t3⟩ := step_of p.ha p.ha' p.hb p.hd0 hlt v0 v2 GG.out (Or.inl hd1)
            rw [← p.hA] at t2 t3
            by_cases hd3 : 4294967296 ≤ z + A
            · obtain ⟨f1, f2, f3⟩ := fin_of p hqq T1.out HU1.out Hu1.out (by omega) (t3 hd3)
              rw [← HR1.out] at f2
              rw [← HR2.out] at f3
              have F2 := Lib.hid f2
              clear t2 t3 p hlt f2
              go_wp2_with fail
              go_ret2
              first | exact ⟨rfl, rfl⟩ | exact ⟨ret_pair F2.out, rfl⟩
            · have T2 := Lib.hid (t2 (by omega))
              clear t2 t3 p hlt
              go_wp2_with fail
              go_round
              case rel => exact ⟨v - 1, z + A, rfl, rfl, by omega, by omega, by omega, by omega, T2⟩
              case measure => simp [intOf]; omega
          · obtain ⟨x1, x2, x3⟩ := test_of p.hb p.hd0 p.hB p.hD0 v0 (by omega) v2 v3
            obtain ⟨P1, hP1⟩ : ∃ z' : Int, z' = ((v.toNat * b : Nat) : Int) := ⟨_, rfl⟩
            obtain ⟨X1, hX1⟩ : ∃ z' : Int, z' = ((4294967296 * z.toNat + d0 : Nat) : Int) := ⟨_, rfl⟩
            rw [← hP1] at x1
            rw [← hX1] at x3
            by_cases hd2 : X1 < P1
            · obtain ⟨t1, t2, t3⟩ := step_of p.ha p.ha' p.hb p.hd0 hlt v0 v2 GG.out (Or.inr (by rw [← hP1, ← hX1]; exact hd2))
              rw [← p.hA] at t2 t3
              by_cases hd3 : 4294967296 ≤ z + A
              · obtain ⟨f1, f2, f3⟩ := fin_of p hqq T1.out HU1.out Hu1.out (by omega) (t3 hd3)
                rw [← HR1.out] at f2
                rw [← HR2.out] at f3
                have F2 := Lib.hid f2
                clear t2 t3 p hlt f2 hP1 hX1
                go_wp2_with fail
                go_ret2
                first | exact ⟨rfl, rfl⟩ | exact ⟨ret_pair F2.out, rfl⟩
              · have T2 := Lib.hid (t2 (by omega))
                clear t2 t3 p hlt hP1 hX1
                go_wp2_with fail
                go_round
                case rel => exact ⟨v - 1, z + A, rfl, rfl, by omega, by omega, by omega, by omega, T2⟩
                case measure => simp [intOf]; omega
            · have t3 := done_of (u := u1) (d := d0) (a := a) (b := b) v0 v2 GG.out (by rw [← hP1, ← hX1]; exact hd2)
              obtain ⟨f1, f2, f3⟩ := fin_of p hqq T1.out HU1.out Hu1.out v0 t3
              rw [← HR1.out] at f2
              rw [← HR2.out] at f3
              have F2 := Lib.hid f2
              clear t3 p hlt f2 hP1 hX1
              go_wp2_with fail
              go_ret2
              first | exact ⟨rfl, rfl⟩ | exact ⟨ret_pair F2.out, rfl⟩
      · have T := Lib.hid (t2 (by omega))
        clear t2 t3 p
        go_wp2_with fail
        go_round
        case rel => exact ⟨q - 1, r + A, rfl, rfl, by omega, by omega, by omega, by omega, T⟩
        case measure => simp [intOf]; omega
    · obtain ⟨y1, y2, y3⟩ := test_of p.hb p.hd1 p.hB p.hD1 q0 (by omega) q2 q3
      obtain ⟨P0, hP0⟩ : ∃ z : Int, z = ((q.toNat * b : Nat) : Int) := ⟨_, rfl⟩
      obtain ⟨X0, hX0⟩ : ∃ z : Int, z = ((4294967296 * r.toNat + d1 : Nat) : Int) := ⟨_, rfl⟩
      rw [← hP0] at y1
      rw [← hX0] at y3
      by_cases hc2 : X0 < P0
      · obtain ⟨t1, t2, t3⟩ := step_of p.ha p.ha' p.hb p.hd1 p.hu q0 q2 G.out (Or.inr (by rw [← hP0, ← hX0]; exact hc2))
        rw [← p.hA] at t2 t3
        clear hP0 hX0
        by_cases hc3 : 4294967296 ≤ r + A
        · have T := t3 hc3
          clear t2 t3
          obtain ⟨qq, hqe⟩ : ∃ z : Int, q - 1 = z := ⟨_, rfl⟩
          rw [hqe] at T
          have hqq : 0 ≤ qq := by omega
          obtain ⟨U1, Q0, R0, u1, m1, m2, m3, g0, k0, k1, k2, k3, k4, hU1, hu1⟩ := mid_of p hqq T
          have G0 := Lib.hid g0
          have T1 := Lib.hid T
          have HU1 := Lib.hid hU1
          have Hu1 := Lib.hid hu1
          clear g0 T hU1 hu1 p
          go_wp2_with fail
          clear m1 m2 m3
          go_loop [18, 16] (fun sq sr => ∃ q r : Int, sq = .int .u64 q ∧ sr = .int .u64 r ∧ 0 ≤ q ∧ q ≤ 4294967297 ∧ 0 ≤ r ∧ r < 4294967296 ∧ Hid (GuessI u1 d0 a b q r)) (fun sq _ => (intOf sq).toNat)
          case atStart => exact ⟨Q0, R0, rfl, rfl, k0, k1, k2, k3, G0⟩
          case round =>
            clear k0 k1 k2 k3 G0
            obtain ⟨v, z, rfl, rfl, v0, v1, v2, v3, GG⟩ := hrel
            have p := P.out
            have hlt : u1 < a * 4294967296 + b := by have hu := Hu1.out; have := (digit_rest (u := u) (d := d1) (a := a) (b := b) (q := qq.toNat) p.hYB T1.out).2; rw [← hu] at this; exact this
            by_cases hd1 : 4294967296 ≤ v
            · obtain ⟨t1, t2, t3⟩ := step_of p.ha p.ha' p.hb p.hd0 hlt v0 v2 GG.out (Or.inl hd1)
              rw [← p.hA] at t2 t3
              by_cases hd3 : 4294967296 ≤ z + A
              · obtain ⟨f1, f2, f3⟩ := fin_of p hqq T1.out HU1.out Hu1.out (by omega) (t3 hd3)
                rw [← HR1.out] at f2
                rw [← HR2.out] at f3
                have F2 := Lib.hid f2
                clear t2 t3 p hlt f2
                go_wp2_with fail
                go_ret2
                first | exact ⟨rfl, rfl⟩ | exact ⟨ret_pair F2.out, rfl⟩
              · have T2 := Lib.hid (t2 (by omega))
                clear t2 t3 p hlt
                go_wp2_with fail
                go_round
                case rel => exact ⟨v - 1, z + A, rfl, rfl, by omega, by omega, by omega, by omega, T2⟩
                case measure => simp [intOf]; omega
            · obtain ⟨x1, x2, x3⟩ := test_of p.hb p.hd0 p.hB p.hD0 v0 (by omega) v2 v3
              obtain ⟨P1, hP1⟩ : ∃ z' : Int, z' = ((v.toNat * b : Nat) : Int) := ⟨_, rfl⟩
              obtain ⟨X1, hX1⟩ : ∃ z' : Int, z' = ((4294967296 * z.toNat + d0 : Nat) : Int) := ⟨_, rfl⟩
              rw [← hP1] at x1
              rw [← hX1] at x3
              by_cases hd2 : X1 < P1
              · obtain ⟨t1, t2, t3⟩ := step_of p.ha p.ha' p.hb p.hd0 hlt v0 v2 GG.out (Or.inr (by rw [← hP1, ← hX1]; exact hd2))
                rw [← p.hA] at t2 t3
                by_cases hd3 : 4294967296 ≤ z + A
                · obtain ⟨f1, f2, f3⟩ := fin_of p hqq T1.out HU1.out Hu1.out (by omega) (t3 hd3)
                  rw [← HR1.out] at f2
                  rw [← HR2.out] at f3
                  have F2 := Lib.hid f2
                  clear t2 t3 p hlt f2 hP1 hX1
                  go_wp2_with fail
                  go_ret2
                  first | exact ⟨rfl, rfl⟩ | exact ⟨ret_pair F2.out, rfl⟩
                · have T2 := Lib.hid (t2 (by omega))
                  clear t2 t3 p hlt hP1 hX1
                  go_wp2_with fail
                  go_round
                  case rel => exact ⟨v - 1, z + A, rfl, rfl, by omega, by omega, by omega, by omega, T2⟩
                  case measure => simp [intOf]; omega
              · have t3 := done_of (u := u1) (d := d0) (a := a) (b := b) v0 v2 GG.out (by rw [← hP1, ← hX1]; exact hd2)
                obtain ⟨f1, f2, f3⟩ := fin_of p hqq T1.out HU1.out Hu1.out v0 t3
                rw [← HR1.out] at f2
                rw [← HR2.out] at f3
                have F2 := Lib.hid f2
                clear t3 p hlt f2 hP1 hX1
                go_wp2_with fail
                go_ret2
                first | exact ⟨rfl, rfl⟩ | exact ⟨ret_pair F2.out, rfl⟩
        · have T := Lib.hid (t2 (by omega))
          clear t2 t3 p
          go_wp2_with fail
          go_round
          case rel => exact ⟨q - 1, r + A, rfl, rfl, by omega, by omega, by omega, by omega, T⟩
          case measure => simp [intOf]; omega
      · have T := done_of (u := u) (d := d1) (a := a) (b := b) q0 q2 G.out (by rw [← hP0, ← hX0]; exact hc2)
        clear hP0 hX0
        obtain ⟨qq, hqe⟩ : ∃ z : Int, z = q := ⟨_, rfl⟩; subst hqe
        have hqq := q0
        obtain ⟨U1, Q0, R0, u1, m1, m2, m3, g0, k0, k1, k2, k3, k4, hU1, hu1⟩ := mid_of p hqq T
        have G0 := Lib.hid g0
        have T1 := Lib.hid T
        have HU1 := Lib.hid hU1
        have Hu1 := Lib.hid hu1
        clear g0 T hU1 hu1 p
        go_wp2_with fail
        clear m1 m2 m3
        go_loop [18, 16] (fun sq sr => ∃ q r : Int, sq = .int .u64 q ∧ sr = .int .u64 r ∧ 0 ≤ q ∧ q ≤ 4294967297 ∧ 0 ≤ r ∧ r < 4294967296 ∧ Hid (GuessI u1 d0 a b q r)) (fun sq _ => (intOf sq).toNat)
        case atStart => exact ⟨Q0, R0, rfl, rfl, k0, k1, k2, k3, G0⟩
        case round =>
          clear k0 k1 k2 k3 G0
          obtain ⟨v, z, rfl, rfl, v0, v1, v2, v3, GG⟩ := hrel
          have p := P.out
          have hlt : u1 < a * 4294967296 + b := by have hu := Hu1.out; have := (digit_rest (u := u) (d := d1) (a := a) (b := b) (q := qq.toNat) p.hYB T1.out).2; rw [← hu] at this; exact this
          by_cases hd1 : 4294967296 ≤ v
          · obtain ⟨t1, t2, t3⟩ := step_of p.ha p.ha' p.hb p.hd0 hlt v0 v2 GG.out (Or.inl hd1)
            rw [← p.hA] at t2 t3
            by_cases hd3 : 4294967296 ≤ z + A
            · obtain ⟨f1, f2, f3⟩ := fin_of p hqq T1.out HU1.out Hu1.out (by omega) (t3 hd3)
              rw [← HR1.out] at f2
              rw [← HR2.out] at f3
              have F2 := Lib.hid f2
              clear t2 t3 p hlt f2
              go_wp2_with fail
              go_ret2
              first | exact ⟨rfl, rfl⟩ | exact ⟨ret_pair F2.out, rfl⟩
            · have T2 := Lib.hid (t2 (by omega))
              clear t2 t3 p hlt
              go_wp2_with fail
              go_round
              case rel => exact ⟨v - 1, z + A, rfl, rfl, by omega, by omega, by omega, by omega, T2⟩
              case measure => simp [intOf]; omega
          · obtain ⟨x1, x2, x3⟩ := test_of p.hb p.hd0 p.hB p.hD0 v0 (by omega) v2 v3
            obtain ⟨P1, hP1⟩ : ∃ z' : Int, z' = ((v.toNat * b : Nat) : Int) := ⟨_, rfl⟩
            obtain ⟨X1, hX1⟩ : ∃ z' : Int, z' = ((4294967296 * z.toNat + d0 : Nat) : Int) := ⟨_, rfl⟩
            rw [← hP1] at x1
            rw [← hX1] at x3
            by_cases hd2 : X1 < P1
            · obtain ⟨t1, t2, t3⟩ := step_of p.ha p.ha' p.hb p.hd0 hlt v0 v2 GG.out (Or.inr (by rw [← hP1, ← hX1]; exact hd2))
              rw [← p.hA] at t2 t3
              by_cases hd3 : 4294967296 ≤ z + A
              · obtain ⟨f1, f2, f3⟩ := fin_of p hqq T1.out HU1.out Hu1.out (by omega) (t3 hd3)
                rw [← HR1.out] at f2
                rw [← HR2.out] at f3
                have F2 := Lib.hid f2
                clear t2 t3 p hlt f2 hP1 hX1
                go_wp2_with fail
                go_ret2
                first | exact ⟨rfl, rfl⟩ | exact ⟨ret_pair F2.out, rfl⟩
              · have T2 := Lib.hid (t2 (by omega))
                clear t2 t3 p hlt hP1 hX1
                go_wp2_with fail
                go_round
                case rel => exact ⟨v - 1, z + A, rfl, rfl, by omega, by omega, by omega, by omega, T2⟩
                case measure => simp [intOf]; omega
            · have t3 := done_of (u := u1) (d := d0) (a := a) (b := b) v0 v2 GG.out (by rw [← hP1, ← hX1]; exact hd2)
              obtain ⟨f1, f2, f3⟩ := fin_of p hqq T1.out HU1.out Hu1.out v0 t3
              rw [← HR1.out] at f2
              rw [← HR2.out] at f3
              have F2 := Lib.hid f2
              clear t3 p hlt f2 hP1 hX1
              go_wp2_with fail
              go_ret2
              first | exact ⟨rfl, rfl⟩ | exact ⟨ret_pair F2.out, rfl⟩
end Go.Proofs.Ytmngaedcckjfoaa
