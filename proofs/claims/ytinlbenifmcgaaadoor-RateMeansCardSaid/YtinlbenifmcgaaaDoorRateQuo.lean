/- The quotient of two whole numbers lies between the whole numbers that it lies between. -/
import Derived.Test.YtinlbenifmcgaaaDoorRateSum
namespace Go.Proofs.YtinlbenifmcgaaaDoor
open Go.RowKit Go.Lib Fx Ho Gr Ieee
set_option linter.unusedVariables false
namespace Pr
open Fk Fl
theorem cut_even_any (neg : Bool) (n d : Nat) (hd : d ≤ n.log2 + 2) : Toward.even.cut neg n d = n / 2 ^ d ∨ Toward.even.cut neg n d = n / 2 ^ d + 1 := by
  unfold Toward.cut
  simp only [Nat.min_eq_left hd, Nat.shiftLeft_eq, Nat.one_mul]
  cases (decide (2 ^ d < 2 * (n % 2 ^ d)) || 2 ^ d == 2 * (n % 2 ^ d) && n / 2 ^ d % 2 == 1)
  · exact Or.inl rfl
  · exact Or.inr rfl
/-- Rounded between two multiples of the last place. -/
theorem cut_between (neg : Bool) {n d W U : Nat} (hd : d ≤ n.log2 + 2) (h1 : W * 2 ^ d ≤ n) (h2 : n ≤ U * 2 ^ d) : W ≤ Toward.even.cut neg n d ∧ Toward.even.cut neg n d ≤ U := by
  have hp := Nat.two_pow_pos d
  have l1 : W ≤ n / 2 ^ d := (Nat.le_div_iff_mul_le hp).2 h1
  have l2 : n / 2 ^ d ≤ U := Nat.div_le_of_le_mul (by rw [Nat.mul_comm]; exact h2)
  rcases Nat.lt_or_ge (n / 2 ^ d) U with h | h
  · rcases cut_even_any neg n d hd with e | e <;> rw [e] <;> omega
  · have hu : n / 2 ^ d = U := by omega
    have hm := Nat.div_mul_le_self n (2 ^ d)
    rw [hu] at hm
    have hn : n = U * 2 ^ d := by omega
    have : 2 ^ d ∣ n := ⟨U, by rw [hn, Nat.mul_comm]⟩
    rw [cut_even_exact neg n d hd this]
    omega
/-- A word whose significand may have carried. -/
theorem read_carry (neg : Bool) (K : Nat) (last : Int) (h1 : -1074 < last) (h2 : last ≤ 900) (hK : K ≤ 9007199254740992) (hn : 4503599627370496 ≤ K) :
    ∃ m i, double.read (double.word neg (min ((last + 1074).toNat * 4503599627370496 + K) 9218868437227405312)) = .number neg m i ∧ m * 2 ^ (i + 1200).toNat = K * 2 ^ (last + 1200).toNat := by
  rcases Nat.lt_or_ge K 9007199254740992 with h | h
  · exact ⟨K, last, read_kept neg K last (by omega) (by omega) h (fun _ => hn), rfl⟩
  · obtain rfl : K = 9007199254740992 := by omega
    refine ⟨4503599627370496, last + 1, ?_, ?_⟩
    · have := read_kept neg 4503599627370496 (last + 1) (by omega) (by omega) (by omega) (fun _ => Nat.le_refl _)
      rw [show (last + 1074).toNat * 4503599627370496 + 9007199254740992 = (last + 1 + 1074).toNat * 4503599627370496 + 4503599627370496 by omega]
      exact this
    · rw [show (last + 1 + 1200).toNat = (last + 1200).toNat + 1 by omega, Nat.pow_succ, Nat.mul_comm (2 ^ _) 2, ← Nat.mul_assoc]
theorem near_between (neg : Bool) {mag L E : Nat} {lo hi : Nat} (h0 : mag ≠ 0) (hL : mag.log2 = L) (hL1 : 52 ≤ L) (hE : L - 52 ≤ E) (hE2 : E ≤ 900) (h1 : lo * 2 ^ E ≤ mag) (h2 : mag ≤ hi * 2 ^ E) :
    ∃ m i, double.read (double.nearest neg mag (-(E : Int))) = .number neg m i ∧ lo * TT ≤ m * 2 ^ (i + 1200).toNat ∧ m * 2 ^ (i + 1200).toNat ≤ hi * TT := by
  obtain ⟨d, hd⟩ : ∃ d, L - 52 = d := ⟨_, rfl⟩
  obtain ⟨q, hq⟩ : ∃ q, E - d = q := ⟨_, rfl⟩
  have hEq : E = q + d := by omega
  have hb := cut_between neg (n := mag) (d := d) (W := lo * 2 ^ q) (U := hi * 2 ^ q) (by omega) (by rw [Nat.mul_assoc, ← Nat.pow_add, ← hEq]; exact h1) (by rw [Nat.mul_assoc, ← Nat.pow_add, ← hEq]; exact h2)
  have hs1 := Nat.log2_self_le h0
  have hs2 := @Nat.lt_log2_self mag
  rw [hL] at hs1 hs2
  have hc := cut_between neg (n := mag) (d := d) (W := 2 ^ 52) (U := 2 ^ 53) (by omega) (by rw [← Nat.pow_add, show 52 + d = L by omega]; exact hs1) (by rw [← Nat.pow_add, show 53 + d = L + 1 by omega]; exact Nat.le_of_lt hs2)
  obtain ⟨K, hK⟩ : ∃ K, Toward.even.cut neg mag d = K := ⟨_, rfl⟩
  rw [hK] at hb hc
  have hlast : max (-(E : Int) + (L : Int) - 52) (-1074) = -(q : Int) := by omega
  have hx : double.nearest neg mag (-(E : Int)) = double.word neg (min ((-(q : Int) + 1074).toNat * 4503599627370496 + K) 9218868437227405312) := by
    unfold Format.nearest
    rw [if_neg h0]
    simp only [leastPlace_eq, binade_eq, infRung_eq, fraction_eq, hL]
    rw [show -(E : Int) + (L : Int) - (52 : Nat) = -(E : Int) + (L : Int) - 52 from rfl, hlast, show (-(E : Int) - -(q : Int)).toNat = 0 by omega, show (-(q : Int) - -(E : Int)).toNat = d by omega, Nat.shiftLeft_zero, hK]
    rw [show -(q : Int) - -1074 = -(q : Int) + 1074 by omega]
  obtain ⟨m, i, hr, hv⟩ := read_carry neg K (-(q : Int)) (by omega) (by omega) (by have := hc.2; omega) (by have := hc.1; omega)
  refine ⟨m, i, by rw [hx]; exact hr, ?_⟩
  rw [hv]
  have e : ∀ A : Nat, A * TT = A * 2 ^ q * 2 ^ (-(q : Int) + 1200).toNat := fun A => by
    rw [Nat.mul_assoc, ← Nat.pow_add, ← pow_TT]
    congr 2
    omega
  rw [e lo, e hi]
  exact ⟨Nat.mul_le_mul_right _ hb.1, Nat.mul_le_mul_right _ hb.2⟩
theorem norm_log {m e c : Nat} (hm : m < 9007199254740992) (hn : 0 < e → 4503599627370496 ≤ m) (hc : c ≠ 0) (h : m * 2 ^ (e + 126) = c * TT) : 4503599627370496 ≤ m ∧ m.log2 = 52 := by
  have he : 0 < e := by
    rcases Nat.eq_zero_or_pos e with h0 | h0
    · subst h0
      have a1 : m * 2 ^ (0 + 126) < 2 ^ 53 * 2 ^ (0 + 126) := Nat.mul_lt_mul_of_pos_right (by omega) (Nat.two_pow_pos _)
      have a2 : 1 * TT ≤ c * TT := Nat.mul_le_mul_right _ (by omega)
      have a3 : (2 : Nat) ^ (53 + 126) ≤ TT := by unfold TT; exact Nat.pow_le_pow_right (by decide) (by decide)
      rw [← Nat.pow_add] at a1
      rw [h] at a1
      omega
    · exact h0
  have h1 := hn he
  refine ⟨h1, ?_⟩
  exact (Nat.log2_eq_iff (by omega)).2 ⟨by omega, by omega⟩
theorem exp_bd {m e c : Nat} (hm : m < 9007199254740992) (h1 : 4503599627370496 ≤ m) (hc0 : c ≠ 0) (hc : c < 1048576) (h : m * 2 ^ (e + 126) = c * TT) : 1022 ≤ e ∧ e < 1042 := by
  have hT : TT = 2 ^ NN := rfl
  have hN : NN = 1200 := rfl
  constructor
  · refine Nat.not_lt.1 fun hlt => ?_
    have a1 : m * 2 ^ (e + 126) < 2 ^ 53 * 2 ^ (e + 126) := Nat.mul_lt_mul_of_pos_right (by omega) (Nat.two_pow_pos _)
    have a2 : 1 * TT ≤ c * TT := Nat.mul_le_mul_right _ (by omega)
    have a3 : (2 : Nat) ^ (53 + (e + 126)) ≤ TT := by rw [hT]; exact Nat.pow_le_pow_right (by decide) (by omega)
    rw [← Nat.pow_add, h] at a1
    omega
  · refine Nat.not_le.1 fun hle => ?_
    have a1 : 2 ^ 52 * 2 ^ (e + 126) ≤ m * 2 ^ (e + 126) := Nat.mul_le_mul_right _ (by omega)
    have a2 : c * TT < 2 ^ 20 * TT := Nat.mul_lt_mul_of_pos_right (by omega) TT_pos
    have a3 : 2 ^ 20 * TT ≤ (2 : Nat) ^ (52 + (e + 126)) := by rw [hT, ← Nat.pow_add]; exact Nat.pow_le_pow_right (by decide) (by omega)
    rw [← Nat.pow_add, h] at a1
    omega
/-- The quotient's digits and the whole numbers on both sides. -/
theorem digits {S n m k e f G : Nat} (hn0 : n ≠ 0) (hk0 : 0 < k) (hG : G + e = f + 54) (h1 : m * 2 ^ (e + 126) = S * TT) (h2 : k * 2 ^ (f + 126) = n * TT) (A : Nat) :
    (A * n ≤ S → A * 2 ^ (G + 1) ≤ 2 * (m * 2 ^ 54 / k) + (m * 2 ^ 54 % k != 0).toNat) ∧ (S ≤ A * n → 2 * (m * 2 ^ 54 / k) + (m * 2 ^ 54 % k != 0).toNat ≤ A * 2 ^ (G + 1)) := by
  have hp := Nat.two_pow_pos 126
  have hpe := Nat.two_pow_pos e
  have c1 : m * 2 ^ e * n = k * 2 ^ f * S := by
    refine Nat.eq_of_mul_eq_mul_right hp ?_
    have e1 : m * 2 ^ e * n * 2 ^ 126 = m * 2 ^ (e + 126) * n := by rw [Nat.pow_add]; generalize (2 : Nat) ^ 126 = P; ac_rfl
    have e2 : k * 2 ^ f * S * 2 ^ 126 = k * 2 ^ (f + 126) * S := by rw [Nat.pow_add]; generalize (2 : Nat) ^ 126 = P; ac_rfl
    rw [e1, e2, h1, h2]
    generalize TT = T
    ac_rfl
  obtain ⟨D, hD⟩ : ∃ D, m * 2 ^ 54 = D := ⟨_, rfl⟩
  have c2 : D * n = k * S * 2 ^ G := by
    refine Nat.eq_of_mul_eq_mul_right hpe ?_
    have e1 : D * n * 2 ^ e = m * 2 ^ e * n * 2 ^ 54 := by rw [← hD]; generalize (2 : Nat) ^ 54 = P; ac_rfl
    have e2 : k * S * 2 ^ G * 2 ^ e = k * 2 ^ f * S * 2 ^ 54 := by rw [Nat.mul_assoc (k * S), ← Nat.pow_add, hG, Nat.pow_add]; generalize (2 : Nat) ^ 54 = P; ac_rfl
    rw [e1, e2, c1]
  rw [hD]
  have hdm := Nat.div_add_mod D k
  have hml := Nat.mod_lt D hk0
  obtain ⟨Q, hQ⟩ : ∃ Q, D / k = Q := ⟨_, rfl⟩
  obtain ⟨R, hR⟩ : ∃ R, D % k = R := ⟨_, rfl⟩
  rw [hQ, hR] at hdm
  rw [hR] at hml
  rw [hQ, hR]
  obtain ⟨X, hX⟩ : ∃ X, A * 2 ^ G = X := ⟨_, rfl⟩
  have hX2 : A * 2 ^ (G + 1) = 2 * X := by rw [← hX, Nat.pow_succ]; ac_rfl
  rw [hX2]
  constructor
  · intro h
    have g1 : X * k * n ≤ D * n := by
      rw [c2, ← hX]
      have := Nat.mul_le_mul_right (k * 2 ^ G) h
      calc A * 2 ^ G * k * n = A * n * (k * 2 ^ G) := by ac_rfl
        _ ≤ S * (k * 2 ^ G) := this
        _ = k * S * 2 ^ G := by ac_rfl
    have g2 : X * k ≤ D := Nat.le_of_mul_le_mul_right g1 (by omega)
    have g3 : X ≤ Q := by rw [← hQ]; exact (Nat.le_div_iff_mul_le hk0).2 g2
    omega
  · intro h
    have g1 : D * n ≤ X * k * n := by
      rw [c2, ← hX]
      have := Nat.mul_le_mul_right (k * 2 ^ G) h
      calc k * S * 2 ^ G = S * (k * 2 ^ G) := by ac_rfl
        _ ≤ A * n * (k * 2 ^ G) := this
        _ = A * 2 ^ G * k * n := by ac_rfl
    have g2 : D ≤ X * k := Nat.le_of_mul_le_mul_right g1 (by omega)
    have g3 : Q ≤ X := by rw [← hQ]; exact Nat.div_le_of_le_mul (by rw [Nat.mul_comm]; exact g2)
    have hb : (R != 0).toNat ≤ 1 := by cases (R != 0) <;> decide
    rcases Nat.lt_or_ge Q X with hl | hl
    · omega
    · obtain rfl : Q = X := by omega
      have hc : k * Q = Q * k := Nat.mul_comm _ _
      have hR0 : R = 0 := by omega
      subst hR0
      show 2 * Q + 0 ≤ 2 * Q
      omega
/-- Two whole numbers' quotient. -/
theorem quo_between {S n lo hi : Nat} (neg : Bool) {m k e f : Nat} (hS0 : S ≠ 0) (hn0 : n ≠ 0) (hS : S < 1048576) (hn : n < 1048576) (hm : m < 9007199254740992) (hk : k < 9007199254740992) (hme : 0 < e → 4503599627370496 ≤ m) (hkf : 0 < f → 4503599627370496 ≤ k)
    (h1 : m * 2 ^ (e + 126) = S * TT) (h2 : k * 2 ^ (f + 126) = n * TT) (h3 : lo * n ≤ S) (h4 : S ≤ hi * n) :
    ∃ r m' i', (Datum.number neg m (-1074 + (e : Int))).quotient 54 (.number false k (-1074 + (f : Int))) = some r ∧ double.read (double.write r) = .number neg m' i' ∧ lo * TT ≤ m' * 2 ^ (i' + 1200).toNat ∧ m' * 2 ^ (i' + 1200).toNat ≤ hi * TT := by
  obtain ⟨hm1, hml⟩ := norm_log hm hme hS0 h1
  obtain ⟨hk1, hkl⟩ := norm_log hk hkf hn0 h2
  obtain ⟨he1, he2⟩ := exp_bd hm hm1 hS0 hS h1
  obtain ⟨hf1, hf2⟩ := exp_bd hk hk1 hn0 hn h2
  obtain ⟨G, hG⟩ : ∃ G, G + e = f + 54 := ⟨f + 54 - e, by omega⟩
  have dg := digits hn0 (by omega) hG h1 h2
  obtain ⟨mag, hmag⟩ : ∃ mag, 2 * (m * 2 ^ 54 / k) + (m * 2 ^ 54 % k != 0).toNat = mag := ⟨_, rfl⟩
  rw [hmag] at dg
  have hge : 2 ^ 54 ≤ mag := by
    have g1 : 2 ^ 53 * k ≤ m * 2 ^ 54 := by
      have a1 : 2 ^ 53 * k ≤ 2 ^ 53 * 2 ^ 53 := Nat.mul_le_mul_left _ (by omega)
      have a2 : 2 ^ 52 * 2 ^ 54 ≤ m * 2 ^ 54 := Nat.mul_le_mul_right _ (by omega)
      have a3 : (2 : Nat) ^ 53 * 2 ^ 53 = 2 ^ 52 * 2 ^ 54 := by rw [← Nat.pow_add]
      exact Nat.le_trans a1 (Nat.le_trans (Nat.le_of_eq a3) a2)
    have g2 : 2 ^ 53 ≤ m * 2 ^ 54 / k := (Nat.le_div_iff_mul_le (by omega)).2 g1
    omega
  have h0 : mag ≠ 0 := by
    have := Nat.two_pow_pos 54
    omega
  have hle : mag < 2 ^ (20 + (G + 1)) := by
    have a1 := (dg S).2 (Nat.le_mul_of_pos_right S (by omega))
    have a2 : S * 2 ^ (G + 1) < 2 ^ 20 * 2 ^ (G + 1) := Nat.mul_lt_mul_of_pos_right (by omega) (Nat.two_pow_pos _)
    rw [← Nat.pow_add] at a2
    omega
  have hL1 : 54 ≤ mag.log2 := (Nat.le_log2 h0).2 hge
  have hL2 : mag.log2 < 20 + (G + 1) := (Nat.log2_lt h0).2 hle
  obtain ⟨m', i', k1, k2, k3⟩ := near_between neg (E := G + 1) h0 rfl (by omega) (by omega) (by omega) ((dg lo).1 h3) ((dg hi).2 h4)
  refine ⟨.number neg mag (-((G + 1 : Nat) : Int)), m', i', ?_, k1, k2, k3⟩
  unfold Datum.quotient
  simp only [hml, hkl]
  rw [if_neg (show ¬ k = 0 by omega)]
  simp only [Nat.shiftLeft_eq, Nat.add_sub_cancel, Bool.xor_false, hmag]
  have hpl : -1074 + (e : Int) - (-1074 + (f : Int)) - ((54 : Nat) : Int) - 1 = -((G + 1 : Nat) : Int) := by omega
  rw [hpl]
end Pr
end Go.Proofs.YtinlbenifmcgaaaDoor
