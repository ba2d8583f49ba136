/- What New, Next and Count of a set answer: for every size, every number, every set. -/
import Derived.Test.YtoamabmnbldgkaaDoorSetObj
namespace Go.Proofs.YtoamabmnbldgkaaDoor
open Go.RowKit Go.Lib Fx Bm
set_option linter.unusedVariables false

theorem word_eq {M N : Nat → Bool} {j : Nat} (h : ∀ t, t < 64 → M (64 * j + t) = N (64 * j + t)) : word M j = word N j := by
  apply Nat.eq_of_testBit_eq
  intro t
  rw [word_bit, word_bit]
  by_cases ht : t < 64
  · rw [h t ht]
  · simp [ht]
theorem word_not (M : Nat → Bool) (j : Nat) : 18446744073709551615 ^^^ word M j = word (fun i => M i == false) j := by
  apply Nat.eq_of_testBit_eq
  intro t
  rw [Nat.testBit_xor, show (18446744073709551615 : Nat) = 2 ^ 64 - 1 from by decide, Nat.testBit_two_pow_sub_one, word_bit, word_bit]
  by_cases ht : t < 64
  · simp [ht]
  · simp [ht]

set_option maxRecDepth 100000 in
theorem wanted_any {p b n : Nat} {M : Nat → Bool} (j : Nat) (has : Bool) (w : World) (h : IsSet w p b n M) (hj : j < (n + 63) / 64) : Calls Tryd.prog 49 #[.pointer (some ⟨p, 0, none⟩), .int .i64 j, .bool has] w (Same (.int .u64 (word (fun i => M i == has) j : Nat)) w) := by
  have c1 := h.c1
  have hcell := h.row.cell hj
  have j1 : (j : Int) < (((n + 63) / 64 : Nat) : Int) := by omega
  have j2 : (j : Int) ≤ 16777216 := by have := h.small; omega
  cases has with
  | true =>
    have e : (fun i => M i == true) = M := by funext i; cases M i <;> rfl
    rw [e]
    generalize ((word M j : Nat) : Int) = X at *
    generalize (n + 63) / 64 = m at *
    clear h hj e
    go_enter Tryd.func49, Tryd.ntmps49
    go_wp2_with fail
    go_ret
    exact ⟨rfl, rfl⟩
  | false =>
    have hw := u64_xor_nat 18446744073709551615 (word M j) (by decide) (word_lt M j)
    rw [word_not] at hw
    have hw : bits .xor .u64 IntKind.u64.max (word M j : Int) = (word (fun i => M i == false) j : Nat) := hw
    have hsg : ¬ IntKind.u64.signed = true := by decide
    generalize ((word (fun i => M i == false) j : Nat) : Int) = Y at *
    generalize ((word M j : Nat) : Int) = X at *
    generalize (n + 63) / 64 = m at *
    clear h hj
    go_enter Tryd.func49, Tryd.ntmps49
    go_wp2_with fail
    go_ret
    exact ⟨rfl, rfl⟩
set_option maxRecDepth 100000 in
theorem found_any (p n : Nat) (i : Int) (w : World) (hc : w.cell? ⟨p, 0, none⟩ = some (.int .i64 n)) : Calls Tryd.prog 50 #[.pointer (some ⟨p, 0, none⟩), .int .i64 i] w (Same (.int .i64 (if 0 ≤ i ∧ i < n then i else -1)) w) := by
  have c := setmay_any p n i w hc
  by_cases h : 0 ≤ i ∧ i < (n : Int)
  · rw [decide_eq_true h] at c
    rw [if_pos h]
    go_enter Tryd.func50, Tryd.ntmps50
    go_wp2_with (go_at_call 47; ((with_reducible refine c.mono ?_); rintro e w' ⟨rfl, rfl⟩))
    go_ret
    exact ⟨rfl, rfl⟩
  · rw [decide_eq_false h] at c
    rw [if_neg h]
    go_enter Tryd.func50, Tryd.ntmps50
    go_wp2_with (go_at_call 47; ((with_reducible refine c.mono ?_); rintro e w' ⟨rfl, rfl⟩))
    go_ret
    exact ⟨rfl, rfl⟩
set_option maxRecDepth 100000 in
theorem setnext_nil (i : Int) (has : Bool) (w : World) : Calls Tryd.prog 16 #[.pointer none, .int .i64 i, .bool has] w (Same (.int .i64 (-1)) w) := by
  have c := fun i => setmay_nil i w
  go_enter Tryd.func16, Tryd.ntmps16
  go_wp2_with (go_at_call 47; ((refine (c _).mono ?_); rintro e w' ⟨rfl, rfl⟩))
  all_goals go_ret
  all_goals exact ⟨rfl, rfl⟩
set_option maxRecDepth 100000 in
theorem setcount_nil (w : World) : Calls Tryd.prog 20 #[.pointer none] w (Same (.int .i64 0) w) := by
  go_enter Tryd.func20, Tryd.ntmps20
  go_wp2_with fail
  go_ret
  exact ⟨rfl, rfl⟩
set_option maxRecDepth 100000 in
set_option maxHeartbeats 1000000 in
theorem setcount_any {p b n : Nat} {M : Nat → Bool} (w : World) (h : IsSet w p b n M) : Calls Tryd.prog 20 #[.pointer (some ⟨p, 0, none⟩)] w (Ans (.int .i64 (cnt M n)) w) := by
  have c1 := h.c1
  have hs := h.small
  have hm : cnt M (64 * ((n + 63) / 64)) = cnt M n := by
    rw [show 64 * ((n + 63) / 64) = n + (64 * ((n + 63) / 64) - n) by omega]
    exact cnt_false h.out _
  rw [← hm]
  have hcell : Hid (∀ k, k < (n + 63) / 64 → w.cell? ⟨b, k, none⟩ = some (.int .u64 (word M k : Nat))) := fun k hk => h.row.cell hk
  have m1 : (n + 63) / 64 ≤ 262144 := by omega
  clear h hm hs
  generalize (n + 63) / 64 = m at *
  go_enter Tryd.func20, Tryd.ntmps20
  go_wp2_with fail
  go_loopw [3, 12] (fun c i wr => ∃ k : Nat, i = .int .i64 k ∧ k ≤ m ∧ c = .int .i64 (cnt M (64 * k) : Nat) ∧ ∃ d, wr = w.drewN d) (fun _ i _ => (m - (intOf i).toNat))
  case atStart => exact ⟨0, rfl, by omega, rfl, 0, rfl⟩
  case round =>
    obtain ⟨k, rfl, k1, rfl, d, rfl⟩ := hrel
    by_cases hk : k < m
    · have hc := hcell.out k hk
      have co := fun w' => ones_any (word M k) (word_lt _ _) w'
      have e1 : cnt (fun t => (word M k).testBit t) 64 = cnt (fun t => M (64 * k + t)) 64 := cnt_congr fun t ht => by rw [word_bit, decide_eq_true ht, Bool.true_and]
      have e2 := cnt_add M (64 * k) 64
      rw [show 64 * k + 64 = 64 * (k + 1) by omega, ← e1] at e2
      have l1 := cnt_le M (64 * k)
      have l2 := cnt_le (fun t => (word M k).testBit t) 64
      have e3 : ((cnt M (64 * (k + 1)) : Nat) : Int) = (cnt M (64 * k) : Int) + (cnt (fun t => (word M k).testBit t) 64 : Int) := by rw [e2]; exact Int.natCast_add _ _
      have l3 : (cnt M (64 * k) : Int) ≤ 16777216 := by omega
      have l4 : (0 : Int) ≤ (cnt M (64 * k) : Int) := Int.natCast_nonneg _
      have l5 : (0 : Int) ≤ (cnt (fun t => (word M k).testBit t) 64 : Int) := Int.natCast_nonneg _
      have l6 : (cnt (fun t => (word M k).testBit t) 64 : Int) ≤ 64 := by omega
      have e3 := e3
      clear e1 e2 l1 l2
      have e4 : Hid (((cnt M (64 * (k + 1)) : Nat) : Int) = (cnt M (64 * k) : Int) + (cnt (fun t => (word M k).testBit t) 64 : Int)) := e3
      clear e3
      generalize (cnt (fun t => (word M k).testBit t) 64 : Int) = P at *
      generalize ((word M k : Nat) : Int) = X at *
      generalize (cnt M (64 * k) : Int) = C at *
      go_wp2_with (go_at_call 52; ((with_reducible refine (co _).mono ?_); rintro e w' ⟨rfl, a, rfl⟩))
      go_roundw
      case rel => exact ⟨k + 1, by go_num, by omega, by rw [e4.out], _, rfl⟩
      case measure => simp [intOf]; omega
    · obtain rfl : k = m := by omega
      go_wp2_with fail
      go_ret
      exact ⟨rfl, _, rfl⟩

/-- What Next knows at a round's head: word j's bits from place q on, and that nothing stands before the word. -/
def AtWord (N : Nat → Bool) (q x j : Nat) : Prop := x < 18446744073709551616 ∧ (∀ t, t < 64 → x.testBit t = (decide (q ≤ 64 * j + t) && N (64 * j + t))) ∧ ∀ r, q ≤ r → r < 64 * j → N r = false
theorem atWord_first (N : Nat → Bool) (q : Nat) : AtWord N q (word N (q / 64) &&& (18446744073709551615 - (2 ^ (q % 64) - 1))) (q / 64) := by
  refine ⟨Nat.lt_of_le_of_lt Nat.and_le_left (word_lt _ _), fun t ht => ?_, fun r h1 h2 => by omega⟩
  rw [mask_bit _ _ _ (Nat.mod_lt _ (by decide)), word_bit, decide_eq_true ht]
  have : decide (q ≤ 64 * (q / 64) + t) = decide (q % 64 ≤ t) := decide_eq_decide.2 (by omega)
  rw [this]
  cases N (64 * (q / 64) + t) <;> cases decide (q % 64 ≤ t) <;> rfl
theorem AtWord.zero {N : Nat → Bool} {q j : Nat} (h : AtWord N q 0 j) : ∀ r, q ≤ r → r < 64 * (j + 1) → N r = false := fun r h1 h2 => by
  by_cases h3 : r < 64 * j
  · exact h.2.2 r h1 h3
  · have := h.2.1 (r - 64 * j) (by omega)
    rw [Nat.zero_testBit, show 64 * j + (r - 64 * j) = r by omega, decide_eq_true h1, Bool.true_and] at this
    exact this.symm
theorem AtWord.next {N : Nat → Bool} {q j : Nat} (h : AtWord N q 0 j) (hq : q ≤ 64 * (j + 1)) : AtWord N q (word N (j + 1)) (j + 1) :=
  ⟨word_lt _ _, fun t ht => by rw [word_bit, decide_eq_true ht, decide_eq_true (by omega)], h.zero⟩
theorem AtWord.found {M : Nat → Bool} {has : Bool} {n q x j : Nat} (h : AtWord (fun i => M i == has) q x j) (hx : x ≠ 0) :
    (if (0 : Int) ≤ (j : Int) * 64 + (Lib.ctz 64 x : Nat) ∧ (j : Int) * 64 + (Lib.ctz 64 x : Nat) < (n : Int) then (j : Int) * 64 + (Lib.ctz 64 x : Nat) else -1) = nextI M n q has := by
  obtain ⟨k1, k2, k3⟩ := ctz_bit x hx h.1
  generalize Lib.ctz 64 x = k at *
  have b1 := h.2.1 k k1
  rw [k2] at b1
  have b2 : q ≤ 64 * j + k ∧ M (64 * j + k) = has := by
    have := b1.symm
    rw [Bool.and_eq_true, decide_eq_true_iff] at this
    exact ⟨this.1, by simpa using this.2⟩
  have b3 : ∀ r, q ≤ r → r < 64 * j + k → M r ≠ has := fun r h1 h2 => by
    have : (M r == has) = false := by
      by_cases h3 : r < 64 * j
      · exact h.2.2 r h1 h3
      · have h4 := h.2.1 (r - 64 * j) (by omega)
        rw [k3 (r - 64 * j) (by omega), show 64 * j + (r - 64 * j) = r by omega, decide_eq_true h1, Bool.true_and] at h4
        exact h4.symm
    simpa using this
  by_cases hn : 64 * j + k < n
  · rw [if_pos (by omega), next_is b2.1 hn b2.2 b3]; omega
  · rw [if_neg (by omega), next_not fun r h1 h2 => b3 r h1 (by omega)]

set_option maxRecDepth 100000 in
set_option maxHeartbeats 2000000 in
theorem setnext_pos {p b n : Nat} {M : Nat → Bool} (q : Nat) (has : Bool) (w : World) (h : IsSet w p b n M) (hT : TabAt w) : Calls Tryd.prog 16 #[.pointer (some ⟨p, 0, none⟩), .int .i64 q, .bool has] w (Same (.int .i64 (nextI M n q has)) w) := by
  have c0 := h.c0
  have cm := setmay_any p n q w c0
  by_cases hn : q < n
  · rw [decide_eq_true (by omega)] at cm
    have hs := h.small
    have c1 := h.c1
    have cb := bit_any q (by omega) w
    have cw := wanted_any (q / 64) has w h (by omega)
    have cw' : Hid (∀ j, j < (n + 63) / 64 → Calls Tryd.prog 49 #[.pointer (some ⟨p, 0, none⟩), .int .i64 j, .bool has] w (Same (.int .u64 (word (fun i => M i == has) j : Nat)) w)) := fun j hj => wanted_any j has w h hj
    have hfirst : Hid (AtWord (fun i => M i == has) q _ _) := atWord_first (fun i => M i == has) q
    have hpow : 1 ≤ 2 ^ (q % 64) := Nat.two_pow_pos _
    have hpow2 : 2 ^ (q % 64) < 18446744073709551616 := (Nat.pow_lt_pow_right (by decide) (Nat.mod_lt _ (by decide)) : 2 ^ (q % 64) < 2 ^ 64)
    have hand := u64_andNot_nat (word (fun i => M i == has) (q / 64)) (2 ^ (q % 64) - 1) (word_lt _ _) (by omega)
    rw [Int.natCast_sub hpow, Int.natCast_one] at hand
    have b1 : (1 : Int) ≤ ((2 ^ (q % 64) : Nat) : Int) := by omega
    have b2 : ((2 ^ (q % 64) : Nat) : Int) ≤ 18446744073709551615 := by omega
    have hj : q / 64 < (n + 63) / 64 := by omega
    have hmn : n ≤ 64 * ((n + 63) / 64) := by omega
    have hrm : (n + 63) / 64 ≤ 262144 := by omega
    have hqj : q ≤ 64 * (q / 64 + 1) := by omega
    have hT : Hid (TabAt w) := hT
    have hdiv : (q : Int) / 64 = ((q / 64 : Nat) : Int) := by omega
    have hq0 : (0 : Int) ≤ q := Int.natCast_nonneg q
    clear hpow hpow2 h hn
    generalize ((2 ^ (q % 64) : Nat) : Int) = B at *
    generalize (word (fun i => M i == has) (q / 64) &&& (18446744073709551615 - (2 ^ (q % 64) - 1))) = f at *
    generalize ((word (fun i => M i == has) (q / 64) : Nat) : Int) = X at *
    generalize (n + 63) / 64 = m at *
    generalize q / 64 = j0 at *
    go_enter Tryd.func16, Tryd.ntmps16
    go_wp2_with (first | (go_at_call 47; ((with_reducible refine cm.mono ?_); rintro e w' ⟨rfl, rfl⟩)) | (go_at_call 49; ((with_reducible refine cw.mono ?_); rintro e w' ⟨rfl, rfl⟩)) | (go_at_call 48; ((with_reducible refine cb.mono ?_); rintro e w' ⟨rfl, rfl⟩)))
    go_loopw [7, 8] (fun u v wr => ∃ j x : Nat, u = .int .i64 j ∧ v = .int .u64 x ∧ j < m ∧ m ≤ 262144 ∧ q ≤ 64 * (j + 1) ∧ Hid (AtWord (fun i => M i == has) q x j) ∧ wr = w) (fun u _ _ => (m - (intOf u).toNat))
    case atStart => exact ⟨j0, f, rfl, rfl, hj, hrm, hqj, hfirst, rfl⟩
    case round =>
      obtain ⟨j, x, rfl, rfl, hj, hrm, hq', hw, rfl⟩ := hrel
      by_cases hx : x = 0
      · subst hx
        have hz := hw.out.zero
        by_cases hl : j + 1 = m
        · have hf := next_not (M := M) (n := n) (i := q) (has := has) fun r h1 h2 => by have := hz r h1 (by rw [hl]; have := hmn; omega); simpa using this
          have he : ((j : Int) + 1 == (m : Int)) = true := by rw [beq_iff_eq]; omega
          clear hz hw
          go_wp2_with fail
          go_ret
          exact ⟨by rw [hf]; rfl, rfl⟩
        · have he : ((j : Int) + 1 == (m : Int)) = false := by rw [beq_eq_false_iff_ne]; omega
          have hn := hw.out.next (by omega)
          have cw := cw'.out (j + 1) (by omega)
          rw [Int.natCast_succ] at cw
          have hn : Hid (AtWord (fun i => M i == has) q (word (fun i => M i == has) (j + 1)) (j + 1)) := hn
          clear hz hw
          go_wp2_with (go_at_call 49; ((with_reducible refine cw.mono ?_); rintro e w' ⟨rfl, rfl⟩))
          go_roundw
          case rel => exact ⟨j + 1, _, by go_num, rfl, by omega, by omega, by omega, hn, by first | rfl | trivial⟩
          case measure => simp [intOf]; omega
      · have hf := hw.out.found (n := n) hx
        have ct := tz_any x hx hw.out.1 wr hT.out
        have k1 := (ctz_bit x hx hw.out.1).1
        have cf := found_any p n ((j : Int) * 64 + (Lib.ctz 64 x : Nat)) wr c0
        rw [hf] at cf
        have x0 : ((x : Int) == 0) = false := by rw [beq_eq_false_iff_ne]; omega
        have k0 : (0 : Int) ≤ (Lib.ctz 64 x : Nat) := Int.natCast_nonneg _
        have k2 : ((Lib.ctz 64 x : Nat) : Int) < 64 := by omega
        generalize ((Lib.ctz 64 x : Nat) : Int) = K at *
        generalize nextI M n q has = R at *
        generalize (x : Int) = X at *
        clear hf hw k1
        go_wp2_with (first | (go_at_call 51; ((with_reducible refine ct.mono ?_); rintro e w' ⟨rfl, rfl⟩)) | (go_at_call 50; ((with_reducible refine cf.mono ?_); rintro e w' ⟨rfl, rfl⟩)))
        go_ret
        exact ⟨rfl, rfl⟩
  · have hf := next_not (M := M) (n := n) (i := q) (has := has) fun r h1 h2 => by omega
    rw [decide_eq_false (by omega)] at cm
    rw [hf]
    go_enter Tryd.func16, Tryd.ntmps16
    go_wp2_with (first | (go_at_call 47; ((with_reducible refine cm.mono ?_); rintro e w' ⟨rfl, rfl⟩)))
    go_ret
    exact ⟨rfl, rfl⟩
set_option maxRecDepth 100000 in
set_option maxHeartbeats 2000000 in
theorem setnext_neg {p b n : Nat} {M : Nat → Bool} (i : Int) (hi : i < 0) (has : Bool) (w : World) (h : IsSet w p b n M) (hT : TabAt w) : Calls Tryd.prog 16 #[.pointer (some ⟨p, 0, none⟩), .int .i64 i, .bool has] w (Same (.int .i64 (nextI M n 0 has)) w) := by
  have c0 := h.c0
  have cm := setmay_any p n 0 w c0
  by_cases hn : 0 < n
  · rw [decide_eq_true (by omega)] at cm
    have hs := h.small
    have c1 := h.c1
    have cb : Calls Tryd.prog 48 #[.int .i64 0] w (Same (.int .u64 1) w) := bit_any 0 (by omega) w
    have cw : Calls Tryd.prog 49 #[.pointer (some ⟨p, 0, none⟩), .int .i64 0, .bool has] w (Same (.int .u64 (word (fun i => M i == has) 0 : Nat)) w) := wanted_any 0 has w h (by omega)
    have cw' : Hid (∀ j, j < (n + 63) / 64 → Calls Tryd.prog 49 #[.pointer (some ⟨p, 0, none⟩), .int .i64 j, .bool has] w (Same (.int .u64 (word (fun i => M i == has) j : Nat)) w)) := fun j hj => wanted_any j has w h hj
    have hfirst : Hid (AtWord (fun i => M i == has) 0 (word (fun i => M i == has) 0 &&& (18446744073709551615 - 0)) 0) := atWord_first (fun i => M i == has) 0
    have hand := u64_andNot_nat (word (fun i => M i == has) 0) 0 (word_lt _ _) (by omega)
    rw [Int.natCast_zero] at hand
    have hj : 0 < (n + 63) / 64 := by omega
    have hmn : n ≤ 64 * ((n + 63) / 64) := by omega
    have hrm : (n + 63) / 64 ≤ 262144 := by omega
    have hT : Hid (TabAt w) := hT
    clear h hn
    obtain ⟨f, hf⟩ : ∃ f, word (fun i => M i == has) 0 &&& (18446744073709551615 - 0) = f := ⟨_, rfl⟩
    rw [hf] at hand hfirst
    clear hf
    generalize ((word (fun i => M i == has) 0 : Nat) : Int) = X at *
    generalize (n + 63) / 64 = m at *
    go_enter Tryd.func16, Tryd.ntmps16
    go_wp2_with (first | (go_at_call 47; ((with_reducible refine cm.mono ?_); rintro e w' ⟨rfl, rfl⟩)) | (go_at_call 49; ((with_reducible refine cw.mono ?_); rintro e w' ⟨rfl, rfl⟩)) | (go_at_call 48; ((with_reducible refine cb.mono ?_); rintro e w' ⟨rfl, rfl⟩)))
    go_loopw [7, 8] (fun u v wr => ∃ j x : Nat, u = .int .i64 j ∧ v = .int .u64 x ∧ j < m ∧ m ≤ 262144 ∧ Hid (AtWord (fun i => M i == has) 0 x j) ∧ wr = w) (fun u _ _ => (m - (intOf u).toNat))
    case atStart => exact ⟨0, f, rfl, rfl, hj, hrm, hfirst, rfl⟩
    case round =>
      obtain ⟨j, x, rfl, rfl, hj, hrm, hw, rfl⟩ := hrel
      by_cases hx : x = 0
      · subst hx
        have hz := hw.out.zero
        by_cases hl : j + 1 = m
        · have hf := next_not (M := M) (n := n) (i := 0) (has := has) fun r h1 h2 => by have := hz r h1 (by rw [hl]; have := hmn; omega); simpa using this
          have he : ((j : Int) + 1 == (m : Int)) = true := by rw [beq_iff_eq]; omega
          clear hz hw
          go_wp2_with fail
          go_ret
          exact ⟨by rw [hf]; rfl, rfl⟩
        · have he : ((j : Int) + 1 == (m : Int)) = false := by rw [beq_eq_false_iff_ne]; omega
          have hn := hw.out.next (by omega)
          have cw := cw'.out (j + 1) (by omega)
          rw [Int.natCast_succ] at cw
          have hn : Hid (AtWord (fun i => M i == has) 0 (word (fun i => M i == has) (j + 1)) (j + 1)) := hn
          clear hz hw
          go_wp2_with (go_at_call 49; ((with_reducible refine cw.mono ?_); rintro e w' ⟨rfl, rfl⟩))
          go_roundw
          case rel => exact ⟨j + 1, _, by go_num, rfl, by omega, by omega, hn, by first | rfl | trivial⟩
          case measure => simp [intOf]; omega
      · have hf := hw.out.found (n := n) hx
        have ct := tz_any x hx hw.out.1 wr hT.out
        have k1 := (ctz_bit x hx hw.out.1).1
        have cf := found_any p n ((j : Int) * 64 + (Lib.ctz 64 x : Nat)) wr c0
        rw [hf] at cf
        have x0 : ((x : Int) == 0) = false := by rw [beq_eq_false_iff_ne]; omega
        have k0 : (0 : Int) ≤ (Lib.ctz 64 x : Nat) := Int.natCast_nonneg _
        have k2 : ((Lib.ctz 64 x : Nat) : Int) < 64 := by omega
        generalize ((Lib.ctz 64 x : Nat) : Int) = K at *
        generalize nextI M n 0 has = R at *
        generalize (x : Int) = X at *
        clear hf hw k1
        go_wp2_with (first | (go_at_call 51; ((with_reducible refine ct.mono ?_); rintro e w' ⟨rfl, rfl⟩)) | (go_at_call 50; ((with_reducible refine cf.mono ?_); rintro e w' ⟨rfl, rfl⟩)))
        go_ret
        exact ⟨rfl, rfl⟩
  · have hf := next_not (M := M) (n := n) (i := 0) (has := has) fun r h1 h2 => by omega
    rw [decide_eq_false (by omega)] at cm
    rw [hf]
    go_enter Tryd.func16, Tryd.ntmps16
    go_wp2_with (first | (go_at_call 47; ((with_reducible refine cm.mono ?_); rintro e w' ⟨rfl, rfl⟩)))
    go_ret
    exact ⟨rfl, rfl⟩

/-- The least number from i on that is in the set (is not, if not has). -/
theorem setnext_any {p b n : Nat} {M : Nat → Bool} (i : Int) (has : Bool) (w : World) (h : IsSet w p b n M) (hT : TabAt w) : Calls Tryd.prog 16 #[.pointer (some ⟨p, 0, none⟩), .int .i64 i, .bool has] w (Same (.int .i64 (nextI M n i.toNat has)) w) := by
  by_cases hi : i < 0
  · rw [show i.toNat = 0 by omega]; exact setnext_neg i hi has w h hT
  · obtain ⟨q, rfl⟩ : ∃ q : Nat, i = q := ⟨i.toNat, by omega⟩
    rw [Int.toNat_natCast]; exact setnext_pos q has w h hT
end Go.Proofs.YtoamabmnbldgkaaDoor
