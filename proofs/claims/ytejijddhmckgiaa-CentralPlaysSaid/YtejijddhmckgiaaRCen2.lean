/- The document's own Central: what Take, TakeFull, Unswept, Any and Del answer and make. -/
import Derived.Test.YtejijddhmckgiaaRCen
namespace Go.Proofs.Ytejijddhmckgiaa
open Go.RowKit Go.Lib Fx Ho Rw Qu
set_option linter.unusedVariables false
namespace Dc
open Ce (upd upd_same upd_ne delQ putQ begQ begT uns urow srow takeA takeQ takeFA takeFQ anyF anyA anyQ anyF_some anyF_none inQ inQ_yes inQ_no inQ_at Apart size_set)
variable {S S' : Home} {w w' w1 W : World} {x r k n : Nat} {Q Q' : Qs} {v u : Value} {H H' : Home} {id i y : Int} {P L : List Int}
theorem DS.then_ {v u : Value} {e1 e2 : Ending} {w2 : World} {Q2 : Qs} (h : DS S v w x Q' e1 w1) (h2 : DS (nS S w) u w1 x Q2 e2 w2) : DS S u w x Q2 e2 w2 := by
  obtain ⟨_, h3, h4⟩ := h
  obtain ⟨h5, h6, h7⟩ := h2
  refine ⟨h5, h3.trans h6, h7.wider (fun k hk _ => hk.elim id (fun h8 => .inr (Nat.le_trans h3.size h8))) (fun hx => h7.sx (.inl hx))⟩
theorem DS.bel {e : Ending} (h : DS S v w x Q' e w1) {lo : Nat} (hx : lo ≤ x) (hs : lo ≤ w.heap.size) : Below lo w w1 := below_of_wrote h.2.1 (fun k hk => by rw [show k = x from hk]; exact hx) hs
set_option maxRecDepth 100000 in
theorem take_no (h : IsD S w x Q) (hi : i < 0 ∨ 16 ≤ i) : Calls Try.prog 29 #[.pointer (some ⟨x, 0, none⟩), .int .i64 i] w (DS S (.tuple #[.int .i64 0, .bool false, .bool false]) w x Q) := by
  have c1 := last_no h hi 0
  have c2 : Hid (∀ w1 e, DS S (.tuple #[.int .i64 0, .bool false]) w x Q e w1 → Calls Try.prog 65 #[.pointer (some ⟨x, 0, none⟩), .int .i64 i, .int .i64 2] w1 fun e2 w2 => e2 = .returned (.tuple #[.int .i64 0, .bool false]) ∧ Hid (DS S (.tuple #[.int .i64 0, .bool false, .bool false]) w x Q (.returned (.tuple #[.int .i64 0, .bool false, .bool false])) w2)) := Lib.hid fun w1 e h1 => (last_no h1.2.2 hi 2).mono fun e2 w2 h2 => ⟨h2.1, Lib.hid ((h1.then_ h2).2 |> fun h3 => ⟨rfl, h3⟩)⟩
  clear h hi
  go_enter Try.func29, Try.ntmps29
  go_wp2_with fail
  with_reducible refine Calls.mono c1 ?_
  rintro e w1 h1
  obtain rfl := h1.1
  have c3 := c2.out w1 _ h1
  clear c1 c2 h1
  go_wp2_with fail
  with_reducible refine Calls.mono c3 ?_
  rintro e w2 ⟨rfl, h2⟩
  clear c3
  go_wp2_with fail
  go_ret3
  exact h2.out
theorem lastA_false {L : List Int} {y : Int} (h : lastA L = (y, false)) : L = [] ∧ y = 0 := by
  unfold lastA at h
  cases hl : L.getLast? with
  | none => rw [hl] at h; exact ⟨by simpa using hl, by injection h with h _; exact h.symm⟩
  | some z => rw [hl] at h; injection h with _ h; cases h
theorem lastA_true {L : List Int} {y : Int} (h : lastA L = (y, true)) : L.getLast? = some y := by
  unfold lastA at h
  cases hl : L.getLast? with
  | none => rw [hl] at h; injection h with _ h; cases h
  | some z => rw [hl] at h; injection h with h _; rw [h]
set_option maxRecDepth 100000 in
set_option maxHeartbeats 1000000 in
theorem take_any (h : IsD S w x Q) (hk : k < 16) (hs : ∀ r, (Q r).length ≤ 100000) : Calls Try.prog 29 #[.pointer (some ⟨x, 0, none⟩), .int .i64 k] w (DS S (.tuple #[.int .i64 (takeA Q k).1, .bool (takeA Q k).2.1, .bool (takeA Q k).2.2]) w x (takeQ Q k)) := by
  have c1 := last_any h hk (j := 0) (by omega) (J := 0) rfl (hs _)
  replace c1 : Calls Try.prog 65 #[.pointer (some ⟨x, 0, none⟩), .int .i64 k, .int .i64 0] w (DS S (.tuple #[.int .i64 (lastA (Q (k * 4))).1, .bool (lastA (Q (k * 4))).2]) w x (upd Q (k * 4) (Q (k * 4)).dropLast)) := c1
  obtain ⟨y, b, hy⟩ : ∃ y b, lastA (Q (k * 4)) = (y, b) := ⟨_, _, rfl⟩
  rw [hy] at c1
  cases b with
  | true =>
    have e := lastA_true hy
    have hfin : Hid (∀ w1, DS S (.tuple #[.int .i64 y, .bool true]) w x (upd Q (k * 4) (Q (k * 4)).dropLast) (.returned (.tuple #[.int .i64 y, .bool true])) w1 → DS S (.tuple #[.int .i64 (takeA Q k).1, .bool (takeA Q k).2.1, .bool (takeA Q k).2.2]) w x (takeQ Q k) (.returned (.tuple #[.int .i64 y, .bool false, .bool true])) w1) := Lib.hid fun w1 h1 => by
      unfold takeA takeQ
      rw [e]
      exact ⟨rfl, h1.2⟩
    clear h hs hy e
    go_enter Try.func29, Try.ntmps29
    go_wp2_with fail
    with_reducible refine Calls.mono c1 ?_
    rintro e w1 h1
    obtain rfl := h1.1
    have hgo := Lib.hid (hfin.out w1 h1)
    clear c1 h1 hfin
    go_wp2_with fail
    go_ret3
    exact hgo.out
  | false =>
    obtain ⟨e0, rfl⟩ := lastA_false hy
    have hq : upd Q (k * 4) (Q (k * 4)).dropLast = Q := upd_id (by rw [e0]; rfl)
    rw [hq] at c1
    obtain ⟨y2, b2, hy2⟩ : ∃ y b, lastA (Q (k * 4 + 2)) = (y, b) := ⟨_, _, rfl⟩
    have c2 : Hid (∀ w1 e, DS S (.tuple #[.int .i64 0, .bool false]) w x Q e w1 → Calls Try.prog 65 #[.pointer (some ⟨x, 0, none⟩), .int .i64 k, .int .i64 2] w1 fun e2 w2 => e2 = .returned (.tuple #[.int .i64 y2, .bool b2]) ∧ Hid (DS S (.tuple #[.int .i64 (takeA Q k).1, .bool (takeA Q k).2.1, .bool (takeA Q k).2.2]) w x (takeQ Q k) (.returned (.tuple #[.int .i64 y2, .bool b2, .bool b2])) w2)) := Lib.hid fun w1 e h1 => by
      have c := last_any h1.2.2 hk (j := 2) (by omega) (J := 2) rfl (hs _)
      rw [hy2] at c
      refine c.mono fun e2 w2 h2 => ⟨h2.1, Lib.hid ?_⟩
      have h3 := h1.then_ h2
      have e1 : (Q (k * 4)).getLast? = none := by rw [e0]; rfl
      unfold takeA takeQ
      rw [e1]
      cases b2 with
      | true => rw [lastA_true hy2]; exact ⟨rfl, h3.2⟩
      | false =>
        obtain ⟨e3, rfl⟩ := lastA_false hy2
        have h4 := h3.2
        rw [upd_id (by rw [e3]; rfl)] at h4
        rw [show (Q (k * 4 + 2)).getLast? = none by rw [e3]; rfl]
        exact ⟨rfl, h4⟩
    clear h hs hy hq e0 hy2
    go_enter Try.func29, Try.ntmps29
    go_wp2_with fail
    with_reducible refine Calls.mono c1 ?_
    rintro e w1 h1
    obtain rfl := h1.1
    have c3 := c2.out w1 _ h1
    clear c1 c2 h1
    go_wp2_with fail
    with_reducible refine Calls.mono c3 ?_
    rintro e w2 ⟨rfl, h2⟩
    clear c3
    go_wp2_with fail
    go_ret3
    exact h2.out
set_option maxRecDepth 100000 in
theorem takef_no (h : IsD S w x Q) (hi : i < 0 ∨ 16 ≤ i) : Calls Try.prog 30 #[.pointer (some ⟨x, 0, none⟩), .int .i64 i] w (DS S (.tuple #[.int .i64 0, .bool false]) w x Q) := by
  have c1 := last_no h hi 3
  clear h hi
  go_enter Try.func30, Try.ntmps30
  go_wp2_with fail
  with_reducible refine Calls.mono c1 ?_
  rintro e w1 h1
  obtain rfl := h1.1
  replace h1 := Lib.hid h1
  clear c1
  go_wp2_with fail
  go_ret2
  exact h1.out
set_option maxRecDepth 100000 in
theorem takef_any (h : IsD S w x Q) (hk : k < 16) (hs : ∀ r, (Q r).length ≤ 100000) : Calls Try.prog 30 #[.pointer (some ⟨x, 0, none⟩), .int .i64 k] w (DS S (.tuple #[.int .i64 (takeFA Q k).1, .bool (takeFA Q k).2]) w x (takeFQ Q k)) := by
  have c1 := last_any h hk (j := 3) (by omega) (J := 3) rfl (hs _)
  have e : lastA (Q (k * 4 + 3)) = takeFA Q k := rfl
  have e2 : upd Q (k * 4 + 3) (Q (k * 4 + 3)).dropLast = takeFQ Q k := rfl
  rw [e, e2] at c1
  clear h hs e e2
  generalize takeFQ Q k = Q1 at *
  generalize takeFA Q k = a at *
  go_enter Try.func30, Try.ntmps30
  go_wp2_with fail
  with_reducible refine Calls.mono c1 ?_
  rintro e w1 h1
  obtain rfl := h1.1
  replace h1 := Lib.hid h1
  clear c1
  go_wp2_with fail
  go_ret2
  exact h1.out
set_option maxRecDepth 100000 in
set_option maxHeartbeats 1000000 in
theorem unswept_any (h : IsD S w x Q) (hs : ∀ r, (Q r).length ≤ 100000) : Calls Try.prog 34 #[.pointer (some ⟨x, 0, none⟩)] w (Ans (.int .i64 (uns Q 32)) w) := by
  have hc : Hid (∀ k, k < 16 → ∃ s1 k1 s2 k2 a b : _, w.cell? ⟨x, k * 4 + 2, none⟩ = some (.slice s1 (Q (k * 4 + 2)).length k1) ∧ w.cell? ⟨x, k * 4 + 3, none⟩ = some (.slice s2 (Q (k * 4 + 3)).length k2) ∧ a = (Q (k * 4 + 2)).length ∧ b = (Q (k * 4 + 3)).length ∧ uns Q ((k + 1) * 2) = uns Q (k * 2) + a + b ∧ a ≤ 100000 ∧ b ≤ 100000 ∧ uns Q (k * 2) ≤ 3200000) := Lib.hid fun k hk => by
    obtain ⟨s1, k1, c1, _, _⟩ := h.row (r := k * 4 + 2) (by omega)
    obtain ⟨s2, k2, c2, _, _⟩ := h.row (r := k * 4 + 3) (by omega)
    refine ⟨s1, k1, s2, k2, _, _, c1, c2, rfl, rfl, ?_, hs _, hs _, ?_⟩
    · rw [show (k + 1) * 2 = k * 2 + 1 + 1 by omega]
      show uns Q (k * 2) + (Q (urow (k * 2))).length + (Q (urow (k * 2 + 1))).length = _
      rw [show urow (k * 2) = k * 4 + 2 by unfold urow; omega, show urow (k * 2 + 1) = k * 4 + 3 by unfold urow; omega]
    · refine Nat.le_trans (Ce.uns_le hs _) ?_
      calc k * 2 * 100000 ≤ 32 * 100000 := Nat.mul_le_mul (by omega) (Nat.le_refl _)
        _ = 3200000 := rfl
  clear h hs
  go_enter Try.func34, Try.ntmps34
  go_wp2_with fail
  go_loopw [3, 4] (fun u v wr => ∃ k c : Nat, u = .int .i64 (uns Q (k * 2)) ∧ v = .int .i64 k ∧ k ≤ 16 ∧ wr = w.drewN c) (fun _ v _ => (16 - (RowKit.intOf v).toNat))
  case atStart => exact ⟨0, 0, rfl, rfl, by omega, rfl⟩
  case round =>
    obtain ⟨k, c, rfl, rfl, k1, rfl⟩ := hrel
    by_cases hk : k < 16
    · obtain ⟨s1, k1, s2, k2, a, b, c1, c2, ha, hb, hu, a1, b1, u1⟩ := hc.out k hk
      rw [← ha] at c1
      rw [← hb] at c2
      have i2 : (k : Int) < 16 := by omega
      have i0 : (0 : Int) ≤ (k : Int) := by omega
      have b2 : (b : Int) ≤ 100000 := by omega
      have a2 : (a : Int) ≤ 100000 := by omega
      have a0 : (0 : Int) ≤ (a : Int) := by omega
      have b0 : (0 : Int) ≤ (b : Int) := by omega
      have hu2 : Hid (((uns Q ((k + 1) * 2) : Nat) : Int) = (uns Q (k * 2) : Int) + (a : Int) + (b : Int)) := Lib.hid (by omega)
      generalize uns Q (k * 2) = d at *
      have d1 : (d : Int) ≤ 3200000 := by omega
      have d0 : (0 : Int) ≤ (d : Int) := by omega
      clear ha hb hu hc
      go_wp2_with fail
      go_quiet (fail)
      go_wp2_with fail
      go_roundw
      case rel => exact ⟨k + 1, _, by rw [hu2.out], by go_num, by omega, rfl⟩
      case measure => simp [RowKit.intOf]; omega
    · obtain rfl : k = 16 := by omega
      go_wp2_with fail
      go_ret
      exact ⟨rfl, c, rfl⟩
end Dc
end Go.Proofs.Ytejijddhmckgiaa
