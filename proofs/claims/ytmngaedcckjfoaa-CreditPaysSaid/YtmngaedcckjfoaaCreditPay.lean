/- What is banked and stolen; how many words more are wanted at the most. -/
import Derived.Test.YtmngaedcckjfoaaSearch
namespace Go.Proofs.Ytmngaedcckjfoaa
open Go.RowKit Go.Lib Fx Ho Mp
set_option linter.unusedVariables false
namespace Cr
variable {w w' W W0 : World} {p n : Nat} {mp : Option Nat} {ratio bank : Int} {m : Int → Sm} {H H' : Home}
theorem least (P : Nat → Bool) : ∀ N, P N = true → ∃ L, L ≤ N ∧ P L = true ∧ ∀ x, x < L → P x = false
  | 0, h => ⟨0, Nat.le_refl _, h, fun x hx => by omega⟩
  | N + 1, h => by
    by_cases e : ∃ x, x ≤ N ∧ P x = true
    · obtain ⟨x, hx, hp⟩ := e
      obtain ⟨L, h1, h2, h3⟩ := least (fun k => P (k + (x - x))) x (by simpa using hp) |> fun ⟨L, a, b, c⟩ => (⟨L, a, by simpa using b, fun y hy => by simpa using c y hy⟩ : ∃ L, L ≤ x ∧ P L = true ∧ ∀ y, y < L → P y = false)
      exact ⟨L, by omega, h2, h3⟩
    · exact ⟨N + 1, Nat.le_refl _, h, fun x hx => by
        cases hq : P x with
        | false => rfl
        | true => exact absurd ⟨x, by omega, hq⟩ e⟩
  termination_by N => N
  decreasing_by omega
/-- Within bounds nothing is cut. -/
theorem cov_in {r s : Int} (hr : 131072 ≤ r) (s0 : 0 ≤ s) (s1 : s ≤ 8000000) : cov r s = s * 1048576 / r := by
  have h0 : ¬ r = 0 := by omega
  have h1 : 0 < r := by omega
  have e1 : wholeI s = s * 1048576 := clampI_id (by unfold inI; omega)
  unfold cov intI divI
  rw [if_neg h0, if_pos h1, e1]
  have q0 : 0 ≤ s * 1048576 * 1048576 / r := Int.ediv_nonneg (by omega) (by omega)
  have q1 : s * 1048576 * 1048576 / r ≤ s * 1048576 * 1048576 / 131072 := by
    refine Int.ediv_le_of_le_mul h1 ?_
    have : s * 1048576 * 1048576 / 131072 * 131072 = s * 1048576 * 1048576 := by omega
    calc s * 1048576 * 1048576 = s * 1048576 * 1048576 / 131072 * 131072 := this.symm
      _ ≤ s * 1048576 * 1048576 / 131072 * r := Int.mul_le_mul_of_nonneg_left hr (by omega)
  rw [clampI_id (by unfold inI; omega), Int.ediv_ediv_of_nonneg (by omega)]
  rw [Int.mul_ediv_mul_of_pos_left _ _ (by omega)]
theorem cov_more {r s : Int} (hr : 131072 ≤ r) (hr2 : r < 68157440) (s0 : 0 ≤ s) (s1 : s ≤ 7900000) : cov r s + 1 ≤ cov r (s + 65) := by
  rw [cov_in hr s0 (by omega), cov_in hr (by omega) (by omega)]
  have h1 : 0 < r := by omega
  have : (s * 1048576 + r) / r ≤ (s + 65) * 1048576 / r := Int.ediv_le_ediv h1 (by omega)
  rwa [Int.add_ediv_of_dvd_right (Int.dvd_refl r), Int.ediv_self (by omega)] at this
theorem cov_ge {r : Int} {k : Int} (hr : 131072 ≤ r) (hr2 : r < 68157440) (k0 : 0 ≤ k) (k1 : k ≤ 100000) : k ≤ cov r (70 * k) := by
  rw [cov_in hr (by omega) (by omega)]
  have h1 : 0 < r := by omega
  refine Int.le_ediv_of_mul_le h1 ?_
  calc k * r ≤ k * 68157440 := Int.mul_le_mul_of_nonneg_left (by omega) k0
    _ ≤ 70 * k * 1048576 := by omega
theorem owes {r s : Int} (hr : 131072 ≤ r) (hr2 : r < 68157440) (s0 : 0 ≤ s) (s1 : s ≤ 7900000) : ∃ L : Nat, 1 ≤ L ∧ L ≤ 65 ∧ cov r s + 1 ≤ cov r (s + L) ∧ ∀ x : Nat, x < L → cov r (s + x) < cov r s + 1 := by
  obtain ⟨L, h1, h2, h3⟩ := least (fun x => decide (cov r s + 1 ≤ cov r (s + x))) 65 (decide_eq_true (cov_more hr hr2 s0 s1))
  refine ⟨L, ?_, h1, of_decide_eq_true h2, fun x hx => by have := of_decide_eq_false (h3 x hx); omega⟩
  rcases Nat.eq_zero_or_pos L with rfl | h
  · have := of_decide_eq_true h2; simp at this; omega
  · exact h
/-- The bank is another one. -/
theorem IsC.banked (h : IsC w p ratio bank mp n m) (b : Int) : IsC (w.setCell ⟨p, 1, none⟩ (.int .i64 b)) p ratio b mp n m ∧ Wrote (home p mp) w (home p mp) (w.setCell ⟨p, 1, none⟩ (.int .i64 b)) := by
  have hw : Wrote (fun k => k = p) w (fun k => k = p) (w.setCell ⟨p, 1, none⟩ (.int .i64 b)) := wrote_setCell (H := fun k => k = p) (a := ⟨p, 1, none⟩) (u := .int .i64 b) rfl rfl rfl rfl rfl
  refine ⟨⟨by rw [heap_setCell_same _ p 1 _ _ _ h.head]; rfl, h.none_, fun b' e => ⟨(h.some_ b' e).1, (h.some_ b' e).2.wrote hw (fun e2 => (h.some_ b' e).1 e2)⟩, h.rt, h.val⟩, ⟨hw.os, hw.tape, hw.output, hw.size, fun k hk hn => hw.block k hk (fun e => hn (.inl e)), fun k hk => .inl hk⟩⟩
theorem Sc.rebank (h : Sc W0 W p H ratio bank n m) (b : Int) : Sc W0 (W.setCell ⟨p, 1, none⟩ (.int .i64 b)) p H ratio b n m ∧ Wrote H W H (W.setCell ⟨p, 1, none⟩ (.int .i64 b)) := by
  obtain ⟨mp, h1, hl, hb0, rfl⟩ := h
  obtain ⟨k1, k2⟩ := h1.banked b
  exact ⟨⟨mp, k1, hl, hb0.trans (Rw.below_of_wrote k2 hl hb0.size), rfl⟩, k2⟩
set_option maxRecDepth 100000 in
set_option maxHeartbeats 1000000 in
theorem bank_any (h : Sc W0 W p H ratio 0 n m) (k : Int) (hk : 0 < k) (hk2 : inI k) : Calls Try.prog 24 #[.pointer (some ⟨p, 0, none⟩), .int .i64 k] W fun e W' => e = .returned (.tuple #[]) ∧ Sc W0 W' p H ratio k n m := by
  have ca := fun w => add_any 0 k (by unfold inI; omega) hk2 w
  rw [show addI 0 k = k from by unfold addI; rw [Int.zero_add]; exact clampI_id hk2] at ca
  have h0 := Lib.hid h
  obtain ⟨mp, h1, hl, hb0, hH⟩ := h
  have c1 := cell_of h1.head (j := 1) rfl
  have f1 := frozen_of_row _ p 1 _ _ h1.head
  have hfin : Hid (∀ q, Sc W0 ((W.drewN q).setCell ⟨p, 1, none⟩ (.int .i64 k)) p H ratio k n m) := Lib.hid fun q => ((h0.out.below (below_drewN (Below.refl _ _) q)).rebank k).1
  clear h1 hl hb0 h0 hk2
  go_enter Try.func24, Try.ntmps24
  go_wp2_with fail
  with_reducible refine Calls.mono (ca _) ?_
  rintro e w1 ⟨rfl, q, rfl⟩
  have hf := hfin.out q
  clear ca hfin
  go_wp2_with fail
  go_end0
  exact ⟨rfl, hf⟩
set_option maxRecDepth 100000 in
set_option maxHeartbeats 1000000 in
theorem steal_any (h : Sc W0 W p H ratio bank n m) (hr : 0 < ratio) {g : Int} (hg : (Lit.int .i64 g).wf = true) {a s : Int} (hm : m g = (a, s)) (ha : 64 < a) (L : Nat) (hL : L ≤ 1000) (hL0 : 1 ≤ L) (hno : ∀ x : Nat, x < L → cov ratio (addI s x) < a - 64 + 1) (hy : a - 64 + 1 ≤ cov ratio (addI s L)) (hbk : (L : Int) ≤ bank) (hbI : inI bank) (hn : n ≤ 100000) :
    Calls Try.prog 25 #[.pointer (some ⟨p, 0, none⟩), .int .i64 g] W fun e W' => e = .returned (.int .i64 L) ∧ ∃ H', Sc W0 W' p H' ratio (bank - L) (n + 1) (up m g (a, addI s L)) := by
  have co := owed_any h hr hg hm ha L hL hno hy
  have hmin := fun ts t w => run_min2 (P := Try.prog) (show min (L : Int) bank = L by omega) ts t w
  unfold inI at hbI
  have ew : wrap64 (bank - L) = bank - L := IntWalk.wrap64_in _ ⟨by omega, by omega⟩
  have h0 := Lib.hid h
  have l0 : (0 : Int) < (L : Int) := by omega
  clear h hno hy
  go_enter Try.func25, Try.ntmps25
  go_wp2_with fail
  with_reducible refine Calls.mono co ?_
  rintro e w1 ⟨rfl, hb⟩
  have h1 := h0.out.below hb
  have cb := banked_any h1
  replace h1 := Lib.hid h1
  clear co h0 hb
  go_wp2_with fail
  with_reducible refine Calls.mono cb ?_
  rintro e w2 ⟨rfl, e2⟩
  subst e2
  clear cb
  obtain ⟨h2, hw2⟩ := h1.out.rebank (bank - L)
  obtain ⟨mp, hI, _⟩ := h1.out
  have c1 := cell_of hI.head (j := 1) rfl
  have f1 := frozen_of_row _ p 1 _ _ hI.head
  have ca := add_to h2 hg (L : Int) (by unfold inI; omega) hn
  rw [show (m g).1 = a from by rw [hm], show (m g).2 = s from by rw [hm]] at ca
  clear hI h1 h2 hw2
  go_wp2_with fail
  with_reducible refine Calls.mono ca ?_
  rintro e w4 ⟨rfl, H4, -, hs⟩
  replace hs := Lib.hid hs
  clear ca
  go_wp2_with fail
  go_ret
  exact ⟨rfl, H4, hs.out⟩
end Cr
end Go.Proofs.Ytmngaedcckjfoaa
