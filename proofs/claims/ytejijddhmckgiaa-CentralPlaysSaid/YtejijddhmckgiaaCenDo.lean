/- Spans in common: what New, Take, TakeFull and Put answer and make. -/
import Derived.Test.YtejijddhmckgiaaCen
import Derived.BigQuiet
import Derived.Deep.RegionLaw
import Derived.Deep.RegionHeld3
namespace Go.Proofs.Ytejijddhmckgiaa
open Go.RowKit Go.Lib Fx Ho Rw Mp
set_option linter.unusedVariables false
namespace Ce
variable {w w' W : World} {p R z n r N o k : Nat} {Q : Rows} {sp : Int → Nat} {H H' : Home} {x y i : Int} {P S : List Int}
set_option maxRecDepth 100000 in
theorem may_no (h : IsC w p R z n Q sp) (hi : i < 0 ∨ 16 ≤ i) : Calls Try.prog 62 #[.pointer (some ⟨p, 0, none⟩), .int .i64 i] w (Still (.bool false) w) := by
  have c0 := h.c0
  clear h
  by_cases h0 : i < 0
  · have h1 : ¬ 0 ≤ i := by omega
    go_enter Try.func62, Try.ntmps62
    go_wp2_with fail
    go_ret
    exact ⟨rfl, rfl⟩
  · have h1 : 0 ≤ i := by omega
    have h2 : ¬ i < 16 := by omega
    clear hi h0
    go_enter Try.func62, Try.ntmps62
    go_wp2_with fail
    go_ret
    exact ⟨rfl, rfl⟩
set_option maxRecDepth 100000 in
theorem may_yes (h : IsC w p R z n Q sp) (hk : k < 16) : Calls Try.prog 62 #[.pointer (some ⟨p, 0, none⟩), .int .i64 k] w (Still (.bool true) w) := by
  have c0 := h.c0
  clear h
  have h1 : (0 : Int) ≤ (k : Int) := by omega
  have h2 : (k : Int) < 16 := by omega
  go_enter Try.func62, Try.ntmps62
  go_wp2_with fail
  go_ret
  exact ⟨rfl, rfl⟩
set_option maxRecDepth 100000 in
theorem may_nil (i : Int) (w : World) : Calls Try.prog 62 #[.pointer none, .int .i64 i] w (Still (.bool false) w) := by
  go_enter Try.func62, Try.ntmps62
  go_wp2_with fail
  go_ret
  exact ⟨rfl, rfl⟩
set_option maxRecDepth 100000 in
theorem take_nil (i : Int) (w : World) : Calls Try.prog 24 #[.pointer none, .int .i64 i] w (Still (.tuple #[.int .i64 0, .bool false, .bool false]) w) := by
  have cm := may_nil i w
  go_enter Try.func24, Try.ntmps24
  go_wp2_with fail
  with_reducible refine Calls.mono cm ?_
  rintro e w1 ⟨rfl, e1⟩
  subst e1
  go_wp2_with fail
  go_ret3
  exact ⟨rfl, rfl⟩
set_option maxRecDepth 100000 in
theorem take_no (h : IsC w p R z n Q sp) (hi : i < 0 ∨ 16 ≤ i) : Calls Try.prog 24 #[.pointer (some ⟨p, 0, none⟩), .int .i64 i] w (Still (.tuple #[.int .i64 0, .bool false, .bool false]) w) := by
  have cm := may_no h hi
  clear h hi
  go_enter Try.func24, Try.ntmps24
  go_wp2_with fail
  with_reducible refine Calls.mono cm ?_
  rintro e w1 ⟨rfl, e1⟩
  subst e1
  go_wp2_with fail
  go_ret3
  exact ⟨rfl, rfl⟩
/-- The call answers v, and the row r is P now. -/
def Takes (v : Value) (w : World) (p R z n : Nat) (Q : Rows) (sp : Int → Nat) (r : Nat) (P : List Int) (e : Ending) (w' : World) : Prop :=
  e = .returned v ∧ Wrote (CH p R z Q sp) w (CH p R z (upd Q r P) sp) w' ∧ IsC w' p R z n (upd Q r P) sp
def Taken (w : World) (p R z n : Nat) (Q : Rows) (sp : Int → Nat) (k : Nat) (e : Ending) (w' : World) : Prop :=
  (∃ s P x, s < 2 ∧ (s = 1 → Q (k * 4) = []) ∧ Q (k * 4 + s * 2) = P ++ [x] ∧ Takes (.tuple #[.int .i64 x, .bool (decide (s = 1)), .bool true]) w p R z n Q sp (k * 4 + s * 2) P e w') ∨ (Q (k * 4) = [] ∧ Q (k * 4 + 2) = [] ∧ Still (.tuple #[.int .i64 0, .bool false, .bool false]) w e w')
theorem del_last (h : IsC w p R z n Q sp) (hn : n ≤ 1000000) (hr : r < 64) (e : Q r = P ++ [x]) : Calls Try.prog 22 #[.pointer (some ⟨p, 0, none⟩), .int .i64 x] w fun e w' => e = .returned (.bool true) ∧ w'.cell? ⟨sp x, 0, none⟩ = some (.int .i64 x) ∧ Hid (Wrote (CH p R z Q sp) w (CH p R z (upd Q r P) sp) w' ∧ IsC w' p R z n (upd Q r P) sp) := by
  have cd := del_some h hn hr e
  rw [List.append_nil] at cd
  refine cd.mono fun e1 w1 ⟨he, hw, hc, hx⟩ => ⟨he, ?_, Lib.hid ⟨hw, hc⟩⟩
  exact cell_of (hx.trans (h.rows.spot r hr P x [] e)) rfl
theorem del_first (h : IsC w p R z n Q sp) (hn : n ≤ 1000000) (hr : r < 64) (e : Q r = x :: S) : Calls Try.prog 22 #[.pointer (some ⟨p, 0, none⟩), .int .i64 x] w fun e w' => e = .returned (.bool true) ∧ w'.cell? ⟨sp x, 0, none⟩ = some (.int .i64 x) ∧ Hid (Wrote (CH p R z Q sp) w (CH p R z (upd Q r S) sp) w' ∧ IsC w' p R z n (upd Q r S) sp) := by
  have cd := del_some (P := []) h hn hr e
  refine cd.mono fun e1 w1 ⟨he, hw, hc, hx⟩ => ⟨he, ?_, Lib.hid ⟨hw, hc⟩⟩
  exact cell_of (hx.trans (h.rows.spot r hr [] x S e)) rfl
set_option maxRecDepth 100000 in
set_option maxHeartbeats 1000000 in
theorem take_any (h : IsC w p R z n Q sp) (hn : n ≤ 1000000) (hk : k < 16) : Calls Try.prog 24 #[.pointer (some ⟨p, 0, none⟩), .int .i64 k] w (Taken w p R z n Q sp k) := by
  have cm := may_yes h hk
  have c0 := h.c0
  have h1 : (0 : Int) ≤ (k : Int) := by omega
  have h2 : (k : Int) < 16 := by omega
  have hst : Hid (∀ s, s < 2 → (Q (k * 4 + s * 2) = [] ∧ w.cell? ⟨R, k * 12 + s * 6 + 1, none⟩ = some (.pointer none)) ∨ ∃ P x, Q (k * 4 + s * 2) = P ++ [x] ∧ w.cell? ⟨R, k * 12 + s * 6 + 1, none⟩ = some (.pointer (some ⟨sp x, 0, none⟩)) ∧ w.cell? ⟨sp x, 0, none⟩ = some (.int .i64 x) ∧ Calls Try.prog 22 #[.pointer (some ⟨p, 0, none⟩), .int .i64 x] w fun e w' => e = .returned (.bool true) ∧ w'.cell? ⟨sp x, 0, none⟩ = some (.int .i64 x) ∧ Hid (Wrote (CH p R z Q sp) w (CH p R z (upd Q (k * 4 + s * 2) P) sp) w' ∧ IsC w' p R z n (upd Q (k * 4 + s * 2) P) sp)) := Lib.hid fun s hs => by
    have hr : k * 4 + s * 2 < 64 := by omega
    have l0 := (h.rows.cells hr).2.1
    rw [show (k * 4 + s * 2) * 3 + 1 = k * 12 + s * 6 + 1 by omega] at l0
    rcases List.eq_nil_or_concat (Q (k * 4 + s * 2)) with he | ⟨P, x, he⟩
    · rw [he] at l0; exact .inl ⟨he, l0⟩
    · rw [List.concat_eq_append] at he
      refine .inr ⟨P, x, he, ?_, (h.rows.spotC hr he).1, del_last h hn hr he⟩
      rw [l0, he]; simp [ptr]
  have hfin : Hid (∀ s P x e w', s < 2 → (∀ t, t < s → Q (k * 4 + t * 2) = []) → Q (k * 4 + s * 2) = P ++ [x] → e = .returned (.tuple #[.int .i64 x, .bool ((s : Int) == 1), .bool true]) → (Wrote (CH p R z Q sp) w (CH p R z (upd Q (k * 4 + s * 2) P) sp) w' ∧ IsC w' p R z n (upd Q (k * 4 + s * 2) P) sp) → Taken w p R z n Q sp k e w') := Lib.hid fun s P x e w' hs h0 he h4 h5 => by
    refine .inl ⟨s, P, x, hs, fun e => h0 0 (by omega), he, ?_, h5⟩
    rw [h4]
    obtain rfl | rfl : s = 0 ∨ s = 1 := by omega
    · rfl
    · rfl
  have hfin2 : Hid ((∀ t, t < 2 → Q (k * 4 + t * 2) = []) → Taken w p R z n Q sp k (.returned (.tuple #[.int .i64 0, .bool false, .bool false])) w) := Lib.hid fun h0 => .inr ⟨h0 0 (by omega), h0 1 (by omega), rfl, rfl⟩
  clear h
  go_enter Try.func24, Try.ntmps24
  go_wp2_with fail
  with_reducible refine Calls.mono cm ?_
  rintro e w1 ⟨rfl, e1⟩
  subst e1
  clear cm
  go_wp2_with fail
  go_loopw [13] (fun u wr => ∃ s : Nat, u = .int .i64 s ∧ s ≤ 2 ∧ Hid (∀ t, t < s → Q (k * 4 + t * 2) = []) ∧ wr = w) (fun u _ => (2 - (RowKit.intOf u).toNat))
  case atStart => exact ⟨0, rfl, by omega, Lib.hid (fun t ht => by omega), rfl⟩
  case round =>
    obtain ⟨s, rfl, s1, h0, rfl⟩ := hrel
    by_cases hs : s < 2
    · have s2 : (s : Int) < 2 := by omega
      have s0 : (0 : Int) ≤ (s : Int) := by omega
      rcases hst.out s hs with ⟨he, l0⟩ | ⟨P, x, he, l0, l1, cd⟩
      · have h02 : Hid (∀ t, t < s + 1 → Q (k * 4 + t * 2) = []) := Lib.hid fun t ht => by
          by_cases e : t = s
          · subst e; exact he
          · exact h0.out t (by omega)
        clear he h0
        go_wp2_with fail
        go_roundw
        case rel => exact ⟨s + 1, by go_num, by omega, h02, by first | rfl | trivial⟩
        case measure => simp [RowKit.intOf]; omega
      · have hend := Lib.hid (fun e w' a b => hfin.out s P x e w' hs h0.out he a b)
        clear hfin hfin2 hst h0 he
        go_wp2_with fail
        with_reducible refine Calls.mono cd ?_
        rintro e w1 ⟨rfl, d0, hd⟩
        clear cd l0 l1
        go_wp2_with fail
        go_ret3
        exact hend.out _ _ rfl hd.out
    · obtain rfl : s = 2 := by omega
      have hgo := hfin2.out h0.out
      clear hfin hfin2 hst h0
      go_wp2_with fail
      go_ret3
      exact hgo
def TakenF (w : World) (p R z n : Nat) (Q : Rows) (sp : Int → Nat) (k : Nat) (e : Ending) (w' : World) : Prop :=
  (∃ P x, Q (k * 4 + 3) = P ++ [x] ∧ Takes (.tuple #[.int .i64 x, .bool true]) w p R z n Q sp (k * 4 + 3) P e w') ∨ (Q (k * 4 + 3) = [] ∧ Still (.tuple #[.int .i64 0, .bool false]) w e w')
set_option maxRecDepth 100000 in
theorem takef_no (h : IsC w p R z n Q sp) (hi : i < 0 ∨ 16 ≤ i) : Calls Try.prog 27 #[.pointer (some ⟨p, 0, none⟩), .int .i64 i] w (Still (.tuple #[.int .i64 0, .bool false]) w) := by
  have cm := may_no h hi
  clear h hi
  go_enter Try.func27, Try.ntmps27
  go_wp2_with fail
  with_reducible refine Calls.mono cm ?_
  rintro e w1 ⟨rfl, e1⟩
  subst e1
  go_wp2_with fail
  go_ret2
  exact ⟨rfl, rfl⟩
set_option maxRecDepth 100000 in
set_option maxHeartbeats 1000000 in
theorem takef_any (h : IsC w p R z n Q sp) (hn : n ≤ 1000000) (hk : k < 16) : Calls Try.prog 27 #[.pointer (some ⟨p, 0, none⟩), .int .i64 k] w (TakenF w p R z n Q sp k) := by
  have cm := may_yes h hk
  have c0 := h.c0
  have h1 : (0 : Int) ≤ (k : Int) := by omega
  have h2 : (k : Int) < 16 := by omega
  have hr : k * 4 + 3 < 64 := by omega
  have l0 := (h.rows.cells hr).2.1
  rw [show (k * 4 + 3) * 3 + 1 = k * 12 + 10 by omega] at l0
  rcases List.eq_nil_or_concat (Q (k * 4 + 3)) with he | ⟨P, x, he⟩
  · rw [he] at l0
    replace l0 : w.cell? ⟨R, k * 12 + 10, none⟩ = some (.pointer none) := l0
    have hgo : TakenF w p R z n Q sp k (.returned (.tuple #[.int .i64 0, .bool false])) w := .inr ⟨he, rfl, rfl⟩
    replace hgo := Lib.hid hgo
    clear h he hr
    go_enter Try.func27, Try.ntmps27
    go_wp2_with fail
    with_reducible refine Calls.mono cm ?_
    rintro e w1 ⟨rfl, e1⟩
    subst e1
    clear cm
    go_wp2_with fail
    go_ret2
    exact hgo.out
  · rw [List.concat_eq_append] at he
    have l1 : w.cell? ⟨R, k * 12 + 10, none⟩ = some (.pointer (some ⟨sp x, 0, none⟩)) := by rw [l0, he]; simp [ptr]
    have l2 := (h.rows.spotC hr he).1
    have cd := del_last h hn hr he
    have hgo : Hid (∀ w', (Wrote (CH p R z Q sp) w (CH p R z (upd Q (k * 4 + 3) P) sp) w' ∧ IsC w' p R z n (upd Q (k * 4 + 3) P) sp) → TakenF w p R z n Q sp k (.returned (.tuple #[.int .i64 x, .bool true])) w') := Lib.hid fun w' hw => .inl ⟨P, x, he, rfl, hw⟩
    clear h he hr l0
    go_enter Try.func27, Try.ntmps27
    go_wp2_with fail
    with_reducible refine Calls.mono cm ?_
    rintro e w1 ⟨rfl, e1⟩
    subst e1
    clear cm
    go_wp2_with fail
    with_reducible refine Calls.mono cd ?_
    rintro e w1 ⟨rfl, d0, hd⟩
    clear cd l1 l2
    go_wp2_with fail
    go_ret2
    exact hgo.out _ hd.out
end Ce
end Go.Proofs.Ytejijddhmckgiaa
