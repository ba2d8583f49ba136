/- What the document's own answers for sum, difference, product, quotient, whole number and whole part are, for any numbers of 64 bits. -/
import Derived.Test.YtikpoldmpmmpiaaFixOpsK
namespace Go.Proofs.Ytikpoldmpmmpiaa
open Go.RowKit Go.Lib Fx
set_option linter.unusedVariables false

set_option maxRecDepth 100000 in
theorem rsize_any (a : Int) (ha : inI a) (w : World) :
    Calls Try.prog 64 #[.int .i64 a] w fun e w' => e = .returned (.int .u64 (a.natAbs : Int)) ∧ w = w' := by
  unfold inI at ha
  by_cases h : a < 0
  · have e0 : IntKind.i64.wrap (a + 1) = a + 1 := by rw [IntKind.wrap_i64]; omega
    have e1 : IntKind.i64.wrap (-(a + 1)) = -(a + 1) := by rw [IntKind.wrap_i64]; omega
    have e2 : IntKind.u64.wrap (-(a + 1)) = -(a + 1) := by rw [IntKind.wrap_u64]; omega
    have e3 : -(a + 1) + 1 = (a.natAbs : Int) := by omega
    have e : IntKind.u64.wrap (-(a + 1) + 1) = (a.natAbs : Int) := by rw [IntKind.wrap_u64]; omega
    go_enter Try.func64, Try.ntmps64
    go_wp2_with fail
    go_ret
    exact ⟨rfl, rfl⟩
  · have e : IntKind.u64.wrap a = (a.natAbs : Int) := by rw [IntKind.wrap_u64]; omega
    clear ha
    go_enter Try.func64, Try.ntmps64
    go_wp2_with fail
    go_ret
    exact ⟨rfl, rfl⟩

namespace Fx
def sgnI (minus : Bool) (H L : Int) (more : Bool) : Int := clampI (if minus then -(H * 18446744073709551616 + L) - (if more then 1 else 0) else H * 18446744073709551616 + L)
end Fx

set_option maxRecDepth 100000 in
set_option maxHeartbeats 1000000 in
theorem signed_any (minus : Bool) (H L : Int) (more : Bool) (h0 : 0 ≤ H) (h1 : H ≤ 9223372036854775807) (l0 : 0 ≤ L) (l1 : L ≤ 18446744073709551615) (w : World) :
    Calls Try.prog 66 #[.bool minus, .int .u64 H, .int .u64 L, .bool more] w (Ans (.int .i64 (sgnI minus H L more)) w) := by
  cases minus with
  | false =>
    by_cases c : 0 < H
    · rw [show sgnI false H L more = 9223372036854775807 from clampI_top (by simp; omega)]
      go_enter Try.func66, Try.ntmps66
      go_wp2_with fail
      go_ret
      exact ⟨rfl, 0, rfl⟩
    · obtain rfl : H = 0 := by omega
      by_cases d : 9223372036854775807 < L
      · rw [show sgnI false 0 L more = 9223372036854775807 from clampI_top (by simp; omega)]
        go_enter Try.func66, Try.ntmps66
        go_wp2_with fail
        go_ret
        exact ⟨rfl, 0, rfl⟩
      · rw [show sgnI false 0 L more = L from by unfold sgnI; rw [if_neg (by decide), Int.zero_mul, Int.zero_add, clampI_id (by unfold inI; omega)]]
        go_enter Try.func66, Try.ntmps66
        go_wp2_with fail
        go_ret
        exact ⟨rfl, 0, rfl⟩
  | true =>
    cases more with
    | true =>
      by_cases c : L = 18446744073709551615
      · have e1 : IntKind.u64.wrap (L + 1) = 0 := by rw [c]; rfl
        have e2 : IntKind.u64.wrap (H + 1) = H + 1 := by rw [IntKind.wrap_u64]; omega
        rw [show sgnI true H L true = -9223372036854775808 from clampI_low (by simp; omega)]
        clear c l1
        go_enter Try.func66, Try.ntmps66
        go_wp2_with fail
        go_ret
        exact ⟨rfl, 0, rfl⟩
      · have e1 : IntKind.u64.wrap (L + 1) = L + 1 := by rw [IntKind.wrap_u64]; omega
        have l2 : L ≤ 18446744073709551614 := by omega
        by_cases d : 0 < H
        · rw [show sgnI true H L true = -9223372036854775808 from clampI_low (by simp; omega)]
          clear c l1
          go_enter Try.func66, Try.ntmps66
          go_wp2_with fail
          go_ret
          exact ⟨rfl, 0, rfl⟩
        · obtain rfl : H = 0 := by omega
          by_cases e : 9223372036854775808 < L + 1
          · rw [show sgnI true 0 L true = -9223372036854775808 from clampI_low (by simp; omega)]
            clear c l1
            go_enter Try.func66, Try.ntmps66
            go_wp2_with fail
            go_ret
            exact ⟨rfl, 0, rfl⟩
          · rw [show sgnI true 0 L true = -L - 1 from by unfold sgnI; rw [if_pos rfl, if_pos rfl, Int.zero_mul, Int.zero_add, clampI_id (by unfold inI; omega)]]
            clear c l1
            go_enter Try.func66, Try.ntmps66
            go_wp2_with fail
            go_ret
            exact ⟨ret_i64 (by omega), 0, rfl⟩
    | false =>
      by_cases d : 0 < H
      · rw [show sgnI true H L false = -9223372036854775808 from clampI_low (by simp; omega)]
        go_enter Try.func66, Try.ntmps66
        go_wp2_with fail
        go_ret
        exact ⟨rfl, 0, rfl⟩
      · obtain rfl : H = 0 := by omega
        by_cases e : 9223372036854775808 < L
        · rw [show sgnI true 0 L false = -9223372036854775808 from clampI_low (by simp; omega)]
          go_enter Try.func66, Try.ntmps66
          go_wp2_with fail
          go_ret
          exact ⟨rfl, 0, rfl⟩
        · rw [show sgnI true 0 L false = -L from by unfold sgnI; rw [if_pos rfl, if_neg (by decide), Int.zero_mul, Int.zero_add, Int.sub_zero, clampI_id (by unfold inI; omega)]]
          by_cases f : L = 0
          · subst f
            go_enter Try.func66, Try.ntmps66
            go_wp2_with fail
            go_ret
            exact ⟨ret_i64 (by rw [IntKind.wrap_u64]; unfold wrap64; decide), 0, rfl⟩
          · have l2 : 1 ≤ L := by omega
            go_enter Try.func66, Try.ntmps66
            go_wp2_with fail
            go_ret
            exact ⟨ret_i64 (by omega), 0, rfl⟩

namespace Fx
theorem sgn_quo (n d : Nat) (hd : 0 < d) (minus : Bool) (H L : Nat) (h : n / d = H * 18446744073709551616 + L) (more : Bool) (hm : more = decide (0 < n % d)) :
    sgnI minus (H : Int) (L : Int) more = clampI ((if minus then -(n : Int) else (n : Int)) / (d : Int)) := by
  unfold sgnI
  have e : (H : Int) * 18446744073709551616 + (L : Int) = ((n / d : Nat) : Int) := by rw [h]; omega
  rw [e]
  cases minus with
  | true =>
    rw [if_pos rfl, if_pos rfl, neg_div_nat n d hd, hm]
    by_cases hz : 0 < n % d
    · rw [if_pos hz, if_pos (by simpa using hz)]
    · rw [if_neg hz, if_neg (by simpa using hz)]
  | false => rw [if_neg (by decide), if_neg (by decide)]; rfl
theorem mul_low (hi lo : Nat) (h1 : hi < 18446744073709551616) (h2 : lo < 18446744073709551616) :
    bits .or .u64 (IntKind.u64.wrap ((hi : Int) * 17592186044416)) ((lo : Int) / 1048576) = ((hi % 1048576 * 17592186044416 + lo / 1048576 : Nat) : Int) ∧
      bits .and .u64 (lo : Int) 1048575 = ((lo % 1048576 : Nat) : Int) ∧
      (hi * 18446744073709551616 + lo) / 1048576 = hi / 1048576 * 18446744073709551616 + (hi % 1048576 * 17592186044416 + lo / 1048576) ∧ (hi * 18446744073709551616 + lo) % 1048576 = lo % 1048576 := by
  have e1 : IntKind.u64.wrap ((hi : Int) * 17592186044416) = ((hi % 1048576 * 17592186044416 : Nat) : Int) := by rw [IntKind.wrap_u64]; omega
  have e2 : (lo : Int) / 1048576 = ((lo / 1048576 : Nat) : Int) := by omega
  refine ⟨?_, ?_, by omega, by omega⟩
  · rw [e1, e2, bits_or_u64_nat _ _ (by omega) (by omega), show (17592186044416 : Nat) = 2 ^ 44 from by decide, or_low (by rw [show (2 : Nat) ^ 44 = 17592186044416 from by decide]; omega)]
  · have h := bits_and_u64_nat lo 1048575 h2 (by omega)
    have e : lo &&& 1048575 = lo % 1048576 := Nat.and_two_pow_sub_one_eq_mod lo 20
    rw [e] at h
    exact h
theorem neg_mul_of {a b : Int} {m : Bool} (h : (decide (a < 0) != decide (b < 0)) = m) : (if m then -((a.natAbs * b.natAbs : Nat) : Int) else ((a.natAbs * b.natAbs : Nat) : Int)) = a * b := by
  cases m
  · rw [if_neg (by decide), mul_pos_of h]
  · rw [if_pos rfl, mul_neg_of h]
end Fx

set_option maxRecDepth 100000 in
set_option maxHeartbeats 2000000 in
theorem rmul_any (a b : Int) (ha : inI a) (hb : inI b) (w : World) :
    Calls Try.prog 48 #[.int .i64 a, .int .i64 b] w (Ans (.int .i64 (mulI a b)) w) := by
  have c1 := fun w => rsize_any a ha w
  have c2 := fun w => rsize_any b hb w
  have b1 : a.natAbs < 18446744073709551616 := by unfold inI at ha; omega
  have b2 : b.natAbs < 18446744073709551616 := by unfold inI at hb; omega
  have b3 : a.natAbs * b.natAbs ≤ 9223372036854775808 * 9223372036854775808 := Nat.mul_le_mul (by unfold inI at ha; omega) (by unfold inI at hb; omega)
  have c3 := fun w => mul64_any a.natAbs b.natAbs b1 b2 w
  obtain ⟨N, hN⟩ : ∃ N, N = a.natAbs * b.natAbs := ⟨_, rfl⟩
  have hz : ∀ m, (decide (a < 0) != decide (b < 0)) = m → (if m then -(N : Int) else (N : Int)) = a * b := fun m h => by rw [hN]; exact neg_mul_of h
  rw [← hN] at c3 b3
  have hH : N / 18446744073709551616 < 18446744073709551616 := by omega
  have hL : N % 18446744073709551616 < 18446744073709551616 := Nat.mod_lt _ (by decide)
  have hw := words N
  obtain ⟨m1, m2, m3, m4⟩ := mul_low _ _ hH hL
  rw [hw] at m3 m4
  have hb4 : N / 18446744073709551616 ≤ 4611686018427387904 := by omega
  obtain ⟨hi, hhi⟩ : ∃ hi : Int, hi = ((N / 18446744073709551616 : Nat) : Int) := ⟨_, rfl⟩
  obtain ⟨lo, hlo⟩ : ∃ lo : Int, lo = ((N % 18446744073709551616 : Nat) : Int) := ⟨_, rfl⟩
  obtain ⟨H, hHH⟩ : ∃ H : Int, hi / 1048576 = H := ⟨_, rfl⟩
  obtain ⟨L, hLL⟩ : ∃ L : Int, L = ((N / 18446744073709551616 % 1048576 * 17592186044416 + N % 18446744073709551616 / 1048576 : Nat) : Int) := ⟨_, rfl⟩
  obtain ⟨R, hRR⟩ : ∃ R : Int, R = ((N % 18446744073709551616 % 1048576 : Nat) : Int) := ⟨_, rfl⟩
  rw [← hhi, ← hlo] at c3 m1
  rw [← hlo, ← hRR] at m2
  rw [← hLL] at m1
  have hH' : H = ((N / 18446744073709551616 / 1048576 : Nat) : Int) := by rw [← hHH, hhi]; omega
  have r0 : 0 ≤ H ∧ H ≤ 9223372036854775807 := by omega
  have r1 : 0 ≤ L ∧ L ≤ 18446744073709551615 := by omega
  have q0 : 0 ≤ hi := by omega
  have q1 : 0 ≤ lo := by omega
  by_cases hzero : hi = 0 ∧ lo = 0
  · obtain ⟨z1, z2⟩ := hzero
    have hN0 : N = 0 := by omega
    have ab : a * b = 0 := by
      have h1 := hz (decide (a < 0) != decide (b < 0)) rfl
      rw [hN0] at h1
      rw [← h1]; split <;> rfl
    rw [show mulI a b = 0 from by unfold mulI; rw [ab]; rfl]
    rw [z1, z2] at c3
    clear hH hL hw m1 m2 m3 m4 hb4 hhi hlo hHH hLL hRR hH' r0 r1 q0 q1 z1 z2 hN0 ab hz b3 hN ha hb b1 b2
    generalize a.natAbs = na at *
    generalize b.natAbs = nb at *
    go_enter Try.func48, Try.ntmps48
    go_wp2_with (first | (go_at_call 64; ((with_reducible refine (c1 _).mono ?_); rintro e w' ⟨rfl, rfl⟩)) | (go_at_call 64; ((with_reducible refine (c2 _).mono ?_); rintro e w' ⟨rfl, rfl⟩)) | (go_at_call 51; ((with_reducible refine (c3 _).mono ?_); rintro e w' ⟨rfl, rfl⟩)))
    go_ret
    exact ⟨rfl, 0, rfl⟩
  · have hnz : (hi == 0) = false ∨ ((hi == 0) = true ∧ (lo == 0) = false) := by
      by_cases h : hi = 0
      · right; refine ⟨by simpa using h, ?_⟩
        have : ¬ lo = 0 := fun h2 => hzero ⟨h, h2⟩
        simpa using this
      · left; simpa using h
    obtain ⟨more, hmore⟩ : ∃ m : Bool, (R != 0) = m := ⟨_, rfl⟩
    obtain ⟨minus, hminus⟩ : ∃ m : Bool, (decide (a < 0) != decide (b < 0)) = m := ⟨_, rfl⟩
    have hmore' : more = decide (0 < N % 1048576) := by
      rw [← hmore, hRR, ← m4]
      by_cases h : 0 < N % 1048576
      · rw [decide_eq_true h, bne_iff_ne]; omega
      · rw [decide_eq_false h, show N % 1048576 = 0 by omega]; rfl
    have c4 : ∀ w, Calls Try.prog 66 #[.bool minus, .int .u64 H, .int .u64 L, .bool more] w (Ans (.int .i64 (mulI a b)) w) := fun w => by
      have h := signed_any minus H L more r0.1 r0.2 r1.1 r1.2 w
      rw [hH', hLL, sgn_quo N 1048576 (by decide) minus _ _ m3 more hmore', hz minus hminus, ← hH', ← hLL] at h
      exact h
    generalize mulI a b = z at *
    clear hH hL hw m3 m4 hb4 hhi hlo hLL hRR hH' r0 r1 hmore' hz b3 hN ha hb b1 b2 hzero
    generalize a.natAbs = na at *
    generalize b.natAbs = nb at *
    obtain ⟨s1, h1⟩ : ∃ s : Bool, decide (a < 0) = s := ⟨_, rfl⟩
    obtain ⟨s2, h2⟩ : ∃ s : Bool, decide (b < 0) = s := ⟨_, rfl⟩
    rw [h1, h2] at hminus
    subst hminus
    rcases hnz with hnz | ⟨hnz, hnz2⟩
    all_goals
      cases s1 <;> cases s2 <;> simp only [bne_self_eq_false, Bool.true_bne, Bool.false_bne, Bool.not_false] at c4
      all_goals
        go_enter Try.func48, Try.ntmps48
        go_wp2_with (first | (go_at_call 64; ((with_reducible refine (c1 _).mono ?_); rintro e w' ⟨rfl, rfl⟩)) | (go_at_call 64; ((with_reducible refine (c2 _).mono ?_); rintro e w' ⟨rfl, rfl⟩)) | (go_at_call 51; ((with_reducible refine (c3 _).mono ?_); rintro e w' ⟨rfl, rfl⟩)) | (go_at_call 66; ((with_reducible refine (c4 _).mono ?_); rintro e w' ⟨rfl, n, rfl⟩)))
        go_ret
        exact ⟨rfl, _, rfl⟩
set_option maxRecDepth 100000 in
theorem rwhole_any (n : Int) (hn : inI n) (w : World) :
    Calls Try.prog 46 #[.int .i64 n] w (Ans (.int .i64 (wholeI n)) w) := by
  unfold inI at hn
  unfold wholeI
  by_cases h1 : 8796093022208 ≤ n
  · rw [clampI_top (by omega)]
    clear hn
    go_enter Try.func46, Try.ntmps46
    go_wp2_with fail
    go_ret
    exact ⟨rfl, 0, rfl⟩
  · by_cases h2 : n < -8796093022208
    · rw [clampI_low (by omega)]
      clear hn
      go_enter Try.func46, Try.ntmps46
      go_wp2_with fail
      go_ret
      exact ⟨rfl, 0, rfl⟩
    · rw [clampI_id (by unfold inI; omega)]
      clear hn
      go_enter Try.func46, Try.ntmps46
      go_wp2_with fail
      go_ret
      exact ⟨rfl, 0, rfl⟩
namespace Fx
theorem div_split {h l d N : Nat} (hd : 0 < d) (e : N = h * 18446744073709551616 + l) : (h % d * 18446744073709551616 + l) / d + h / d * 18446744073709551616 = N / d ∧ (h % d * 18446744073709551616 + l) % d = N % d := by
  have e2 := Nat.div_add_mod h d
  obtain ⟨q, hq⟩ : ∃ q, q = h / d := ⟨_, rfl⟩
  obtain ⟨r, hr⟩ : ∃ r, r = h % d := ⟨_, rfl⟩
  rw [← hq, ← hr] at e2
  rw [← hq, ← hr]
  have e3 : N = r * 18446744073709551616 + l + d * (q * 18446744073709551616) := by
    rw [e, ← e2, Nat.add_mul (d * q) r 18446744073709551616, Nat.mul_assoc d q 18446744073709551616]
    clear e e2 hq hr
    obtain ⟨P, hP⟩ : ∃ P, P = d * (q * 18446744073709551616) := ⟨_, rfl⟩
    rw [← hP]
    omega
  rw [e3, Nat.add_mul_div_left _ _ hd, Nat.add_mul_mod_self_left]
  exact ⟨rfl, rfl⟩
theorem div_parts (n d : Nat) (hd : 0 < d) : (n / 17592186044416 % d * 18446744073709551616 + n * 1048576 % 18446744073709551616) / d + n / 17592186044416 / d * 18446744073709551616 = n * 1048576 / d ∧ (n / 17592186044416 % d * 18446744073709551616 + n * 1048576 % 18446744073709551616) % d = n * 1048576 % d :=
  div_split hd (by omega)
theorem quo_lt {u v d : Nat} (hu : u < d) (hv : v < 18446744073709551616) : (u * 18446744073709551616 + v) / d < 18446744073709551616 := by
  rw [Nat.div_lt_iff_lt_mul (by omega)]; omega
theorem neg_div_of {a b : Int} {m : Bool} (hb : b ≠ 0) (h : (decide (a < 0) != decide (b < 0)) = m) : clampI ((if m then -((a.natAbs * 1048576 : Nat) : Int) else ((a.natAbs * 1048576 : Nat) : Int)) / (b.natAbs : Int)) = divI a b := by
  have := div_quo a b hb
  unfold quoI at this
  rw [words, h] at this
  exact this
end Fx

set_option maxRecDepth 100000 in
set_option maxHeartbeats 2000000 in
theorem rdiv_any (a b : Int) (ha : inI a) (hb : inI b) (w : World) :
    Calls Try.prog 45 #[.int .i64 a, .int .i64 b] w (Ans (.int .i64 (divI a b)) w) := by
  by_cases ha0 : a = 0
  · subst ha0
    have z : divI 0 b = 0 := by
      unfold divI
      by_cases h : b = 0
      · rw [if_pos h]; rfl
      · rw [if_neg h, Int.zero_mul, Int.neg_zero, Int.zero_ediv, Int.zero_ediv, ite_self]; rfl
    rw [z]
    clear z ha hb
    go_enter Try.func45, Try.ntmps45
    go_wp2_with fail
    go_ret
    exact ⟨rfl, 0, rfl⟩
  have ha1 : (a == 0) = false := by simpa using ha0
  by_cases hb0 : b = 0
  · subst hb0
    by_cases hp : 0 < a
    · rw [show divI a 0 = 9223372036854775807 from by unfold divI endI; rw [if_pos rfl, if_pos hp]]
      clear ha hb ha0
      go_enter Try.func45, Try.ntmps45
      go_wp2_with fail
      go_ret
      exact ⟨rfl, 0, rfl⟩
    · rw [show divI a 0 = -9223372036854775808 from by unfold divI endI; rw [if_pos rfl, if_neg hp, if_pos (by omega)]]
      clear ha hb ha0
      go_enter Try.func45, Try.ntmps45
      go_wp2_with fail
      go_ret
      exact ⟨rfl, 0, rfl⟩
  have hb1 : (b == 0) = false := by simpa using hb0
  have c1 := fun w => rsize_any a ha w
  have c2 := fun w => rsize_any b hb w
  have b1 : a.natAbs ≤ 9223372036854775808 := by unfold inI at ha; omega
  have b2 : b.natAbs < 18446744073709551616 := by unfold inI at hb; omega
  have b3 : 0 < b.natAbs := by omega
  obtain ⟨minus, hminus⟩ : ∃ m : Bool, (decide (a < 0) != decide (b < 0)) = m := ⟨_, rfl⟩
  have hz := neg_div_of hb0 hminus
  generalize divI a b = z at *
  obtain ⟨n, hn⟩ : ∃ n, n = a.natAbs := ⟨_, rfl⟩
  obtain ⟨d, hd⟩ : ∃ d, d = b.natAbs := ⟨_, rfl⟩
  rw [← hn] at c1 b1 hz
  rw [← hd] at c2 b2 b3 hz
  obtain ⟨g1, g2⟩ := div_parts n d b3
  have c3 := fun w => div64_any (n / 17592186044416 % d) (n * 1048576 % 18446744073709551616) d (Nat.mod_lt _ b3) b2 (Nat.mod_lt _ (by decide)) w
  obtain ⟨q, hq⟩ : ∃ q, q = (n / 17592186044416 % d * 18446744073709551616 + n * 1048576 % 18446744073709551616) / d := ⟨_, rfl⟩
  obtain ⟨r, hr⟩ : ∃ r, r = (n / 17592186044416 % d * 18446744073709551616 + n * 1048576 % 18446744073709551616) % d := ⟨_, rfl⟩
  rw [← hq] at c3 g1
  rw [← hr] at c3 g2
  have hqlt : q < 18446744073709551616 := by
    rw [hq]; exact quo_lt (Nat.mod_lt _ b3) (Nat.mod_lt _ (by decide))
  have htop : n / 17592186044416 / d ≤ 524288 := Nat.le_trans (Nat.div_le_self _ _) (by omega)
  obtain ⟨more, hmore⟩ : ∃ m : Bool, ((r : Int) != 0) = m := ⟨_, rfl⟩
  have hmore' : more = decide (0 < n * 1048576 % d) := by
    rw [← hmore, ← g2]
    by_cases h : 0 < r
    · rw [decide_eq_true h, bne_iff_ne]; omega
    · rw [decide_eq_false h, show r = 0 by omega]; rfl
  have c4 : ∀ w, Calls Try.prog 66 #[.bool minus, .int .u64 ((n / 17592186044416 / d : Nat) : Int), .int .u64 (q : Int), .bool more] w (Ans (.int .i64 z) w) := fun w => by
    have h := signed_any minus ((n / 17592186044416 / d : Nat) : Int) (q : Int) more (by omega) (by omega) (by omega) (by omega) w
    rw [sgn_quo (n * 1048576) d b3 minus _ _ (by omega) more hmore', hz] at h
    exact h
  obtain ⟨hi, hhi⟩ : ∃ hi : Int, hi = ((n / 17592186044416 : Nat) : Int) := ⟨_, rfl⟩
  obtain ⟨N, hN⟩ : ∃ N : Int, N = (n : Int) := ⟨_, rfl⟩
  obtain ⟨D, hD⟩ : ∃ D : Int, D = (d : Int) := ⟨_, rfl⟩
  obtain ⟨T, hT⟩ : ∃ T : Int, T = ((n / 17592186044416 / d : Nat) : Int) := ⟨_, rfl⟩
  obtain ⟨M, hM⟩ : ∃ M : Int, M = ((n / 17592186044416 % d : Nat) : Int) := ⟨_, rfl⟩
  obtain ⟨lo, hlo⟩ : ∃ lo : Int, lo = ((n * 1048576 % 18446744073709551616 : Nat) : Int) := ⟨_, rfl⟩
  obtain ⟨Q, hQ⟩ : ∃ Q : Int, Q = (q : Int) := ⟨_, rfl⟩
  obtain ⟨R, hR⟩ : ∃ R : Int, R = (r : Int) := ⟨_, rfl⟩
  rw [← hN] at c1
  rw [← hD] at c2
  rw [← hM, ← hlo, ← hD, ← hQ, ← hR] at c3
  rw [← hT, ← hQ] at c4
  rw [← hR] at hmore
  have e1 : N / 17592186044416 = hi := by rw [hN, hhi]; omega
  have e2 : IntKind.u64.wrap (N * 1048576) = lo := by rw [hN, hlo, IntKind.wrap_u64]; omega
  have e3 : hi / D = T := by rw [hhi, hD, hT]; exact (Int.natCast_ediv _ _).symm
  have e4 : hi % D = M := by rw [hhi, hD, hM]; exact (Int.natCast_emod _ _).symm
  have e5 : 0 ≤ hi ∧ hi ≤ 524288 := by omega
  have e6 : 1 ≤ D := by omega
  clear g1 g2 hq hr hqlt htop hmore' hhi hN hD hT hM hlo hQ hR hz hn hd b1 b2 b3 ha hb ha0 hb0
  obtain ⟨s1, h1⟩ : ∃ s : Bool, decide (a < 0) = s := ⟨_, rfl⟩
  obtain ⟨s2, h2⟩ : ∃ s : Bool, decide (b < 0) = s := ⟨_, rfl⟩
  rw [h1, h2] at hminus
  subst hminus
  cases s1 <;> cases s2 <;> simp only [bne_self_eq_false, Bool.true_bne, Bool.false_bne, Bool.not_false] at c4
  all_goals
    go_enter Try.func45, Try.ntmps45
    go_wp2_with (first | (go_at_call 64; ((with_reducible refine (c1 _).mono ?_); rintro e w' ⟨rfl, rfl⟩)) | (go_at_call 64; ((with_reducible refine (c2 _).mono ?_); rintro e w' ⟨rfl, rfl⟩)) | (go_at_call 65; ((with_reducible refine (c3 _).mono ?_); rintro e w' ⟨rfl, n, rfl⟩)) | (go_at_call 66; ((with_reducible refine (c4 _).mono ?_); rintro e w' ⟨rfl, n, rfl⟩)))
    go_ret
    exact ⟨rfl, _, rfl⟩
end Go.Proofs.Ytikpoldmpmmpiaa
