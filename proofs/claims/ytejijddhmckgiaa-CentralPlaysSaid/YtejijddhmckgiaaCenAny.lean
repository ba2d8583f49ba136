/- Spans in common: what Unswept and Any answer and make. -/
import Derived.Test.YtejijddhmckgiaaCenPut
namespace Go.Proofs.Ytejijddhmckgiaa
open Go.RowKit Go.Lib Fx Ho Rw Mp
set_option linter.unusedVariables false
namespace Ce
variable {w w' W : World} {p R z n r N o k : Nat} {Q : Rows} {sp : Int → Nat} {H H' : Home} {x y i : Int} {P S : List Int}
/-- The t-th unswept row, and the t-th swept one. -/
def urow (t : Nat) : Nat := t / 2 * 4 + 2 + t % 2
def srow (t : Nat) : Nat := t / 2 * 4 + t % 2
def uns (Q : Rows) : Nat → Nat
  | 0 => 0
  | t + 1 => uns Q t + (Q (urow t)).length
theorem uns_le (h : ∀ r, (Q r).length ≤ n) : ∀ t, uns Q t ≤ t * n
  | 0 => by simp [uns]
  | t + 1 => by
    have h1 := uns_le h t
    have h2 := h (urow t)
    show uns Q t + _ ≤ _
    rw [Nat.add_mul]; omega
set_option maxRecDepth 100000 in
theorem unswept_nil (w : World) : Calls Try.prog 23 #[.pointer none] w (Still (.int .i64 0) w) := by
  go_enter Try.func23, Try.ntmps23
  go_wp2_with fail
  go_ret
  exact ⟨rfl, rfl⟩
set_option maxRecDepth 100000 in
set_option maxHeartbeats 1000000 in
theorem unswept_any (h : IsC w p R z n Q sp) (hn : n ≤ 1000000) : Calls Try.prog 23 #[.pointer (some ⟨p, 0, none⟩)] w (Still (.int .i64 (uns Q 32)) w) := by
  have c0 := h.c0
  have hc : Hid (∀ k f, k < 16 → f < 2 → w.cell? ⟨R, k * 12 + 6 + f * 3 + 2, none⟩ = some (.int .i64 (Q (urow (k * 2 + f))).length) ∧ uns Q (k * 2 + (f + 1)) = uns Q (k * 2 + f) + (Q (urow (k * 2 + f))).length ∧ (Q (urow (k * 2 + f))).length ≤ 1000000 ∧ uns Q (k * 2 + f) ≤ 100000000) := Lib.hid fun k f hk hf => by
    have e : urow (k * 2 + f) = k * 4 + 2 + f := by unfold urow; omega
    have l0 := (h.rows.cells (r := k * 4 + 2 + f) (by omega)).2.2
    rw [show (k * 4 + 2 + f) * 3 + 2 = k * 12 + 6 + f * 3 + 2 by omega] at l0
    refine ⟨by rw [e]; exact l0, rfl, Nat.le_trans (h.small _) hn, Nat.le_trans (uns_le h.small _) ?_⟩
    calc (k * 2 + f) * n ≤ 32 * 1000000 := Nat.mul_le_mul (by omega) hn
      _ ≤ 100000000 := by omega
  clear h
  go_enter Try.func23, Try.ntmps23
  go_wp2_with fail
  go_loopw [3, 13] (fun u v wr => ∃ k : Nat, u = .int .i64 (uns Q (k * 2)) ∧ v = .int .i64 k ∧ k ≤ 16 ∧ wr = w) (fun _ v _ => (16 - (RowKit.intOf v).toNat))
  case atStart => exact ⟨0, rfl, rfl, by omega, rfl⟩
  case round =>
    obtain ⟨k, rfl, rfl, k1, rfl⟩ := hrel
    by_cases hk : k < 16
    · have k2 : (k : Int) < 16 := by omega
      have k0 : (0 : Int) ≤ (k : Int) := by omega
      go_wp2_with fail
      go_loopw [3, 16] (fun u v wx => ∃ f : Nat, u = .int .i64 (uns Q (k * 2 + f)) ∧ v = .int .i64 f ∧ f ≤ 2 ∧ wx = wr) (fun _ v _ => (2 - (RowKit.intOf v).toNat))
      case atStart => exact ⟨0, rfl, rfl, by omega, rfl⟩
      case round =>
        obtain ⟨f, rfl, rfl, f1, rfl⟩ := hrel
        by_cases hf : f < 2
        · obtain ⟨l0, l1, l2, l3⟩ := hc.out k f hk hf
          have f2 : (f : Int) < 2 := by omega
          have f0 : (0 : Int) ≤ (f : Int) := by omega
          generalize (Q (urow (k * 2 + f))).length = a at *
          generalize uns Q (k * 2 + f) = b at *
          have l4 : ((uns Q (k * 2 + (f + 1)) : Nat) : Int) = (b : Int) + (a : Int) := by omega
          have b0 : (0 : Int) ≤ (b : Int) + (a : Int) := by omega
          have b1 : (b : Int) + (a : Int) ≤ 200000000 := by omega
          replace l4 := Lib.hid l4
          clear l1
          go_wp2_with fail
          go_roundw
          case rel => exact ⟨f + 1, by rw [l4.out], by go_num, by omega, by first | rfl | trivial⟩
          case measure => simp [RowKit.intOf]; omega
        · obtain rfl : f = 2 := by omega
          go_wp2_with fail
          go_roundw
          case rel => exact ⟨k + 1, by rw [show (k + 1) * 2 = k * 2 + 2 by omega], by go_num, by omega, by first | rfl | trivial⟩
          case measure => simp [RowKit.intOf]; omega
    · obtain rfl : k = 16 := by omega
      go_wp2_with fail
      go_ret
      exact ⟨rfl, rfl⟩
/-- What Any answers and makes. -/
def Anys (w : World) (p R z n : Nat) (Q : Rows) (sp : Int → Nat) (e : Ending) (w' : World) : Prop :=
  (∃ t S x, t < 32 ∧ (∀ u, u < t → Q (urow u) = []) ∧ Q (urow t) = x :: S ∧ Takes (.tuple #[.int .i64 ((t / 2 : Nat) : Int), .int .i64 x, .bool true]) w p R z n Q sp (urow t) S e w') ∨ ((∀ u, u < 32 → Q (urow u) = []) ∧ Still (.tuple #[.int .i64 0, .int .i64 0, .bool false]) w e w')
set_option maxRecDepth 100000 in
set_option maxHeartbeats 1000000 in
theorem any_any (h : IsC w p R z n Q sp) (hn : n ≤ 1000000) : Calls Try.prog 26 #[.pointer (some ⟨p, 0, none⟩)] w (Anys w p R z n Q sp) := by
  have c0 := h.c0
  have hst : Hid (∀ k f, k < 16 → f < 2 → (Q (urow (k * 2 + f)) = [] ∧ w.cell? ⟨R, k * 12 + 6 + f * 3, none⟩ = some (.pointer none)) ∨ ∃ S x, Q (urow (k * 2 + f)) = x :: S ∧ w.cell? ⟨R, k * 12 + 6 + f * 3, none⟩ = some (.pointer (some ⟨sp x, 0, none⟩)) ∧ w.cell? ⟨sp x, 0, none⟩ = some (.int .i64 x) ∧ Calls Try.prog 22 #[.pointer (some ⟨p, 0, none⟩), .int .i64 x] w fun e w' => e = .returned (.bool true) ∧ w'.cell? ⟨sp x, 0, none⟩ = some (.int .i64 x) ∧ Hid (Wrote (CH p R z Q sp) w (CH p R z (upd Q (urow (k * 2 + f)) S) sp) w' ∧ IsC w' p R z n (upd Q (urow (k * 2 + f)) S) sp)) := Lib.hid fun k f hk hf => by
    have e : urow (k * 2 + f) = k * 4 + 2 + f := by unfold urow; omega
    have hr : urow (k * 2 + f) < 64 := by omega
    have l0 := (h.rows.cells hr).1
    rw [show urow (k * 2 + f) * 3 = k * 12 + 6 + f * 3 by omega] at l0
    cases he : Q (urow (k * 2 + f)) with
    | nil => rw [he] at l0; exact .inl ⟨rfl, l0⟩
    | cons x S =>
      refine .inr ⟨S, x, rfl, ?_, (h.rows.spotC hr (P := []) he).1, del_first h hn hr he⟩
      rw [l0, he]; simp [ptr]
  have hfin : Hid (∀ k f S x e w', k < 16 → f < 2 → (∀ u, u < k * 2 + f → Q (urow u) = []) → Q (urow (k * 2 + f)) = x :: S → e = .returned (.tuple #[.int .i64 k, .int .i64 x, .bool true]) → (Wrote (CH p R z Q sp) w (CH p R z (upd Q (urow (k * 2 + f)) S) sp) w' ∧ IsC w' p R z n (upd Q (urow (k * 2 + f)) S) sp) → Anys w p R z n Q sp e w') := Lib.hid fun k f S x e w' hk hf h0 he h4 h5 => by
    refine .inl ⟨k * 2 + f, S, x, by omega, h0, he, ?_, h5⟩
    rw [h4, show (k * 2 + f) / 2 = k by omega]
  have hfin2 : Hid ((∀ u, u < 32 → Q (urow u) = []) → Anys w p R z n Q sp (.returned (.tuple #[.int .i64 0, .int .i64 0, .bool false])) w) := Lib.hid fun h0 => .inr ⟨h0, rfl, rfl⟩
  clear h
  go_enter Try.func26, Try.ntmps26
  go_wp2_with fail
  go_loopw [15] (fun v wr => ∃ k : Nat, v = .int .i64 k ∧ k ≤ 16 ∧ Hid (∀ u, u < k * 2 → Q (urow u) = []) ∧ wr = w) (fun v _ => (16 - (RowKit.intOf v).toNat))
  case atStart => exact ⟨0, rfl, by omega, Lib.hid (fun u hu => by omega), rfl⟩
  case round =>
    obtain ⟨k, rfl, k1, hE, rfl⟩ := hrel
    by_cases hk : k < 16
    · have k2 : (k : Int) < 16 := by omega
      have k0 : (0 : Int) ≤ (k : Int) := by omega
      go_wp2_with fail
      go_loopw [18] (fun v wx => ∃ f : Nat, v = .int .i64 f ∧ f ≤ 2 ∧ Hid (∀ u, u < k * 2 + f → Q (urow u) = []) ∧ wx = wr) (fun v _ => (2 - (RowKit.intOf v).toNat))
      case atStart => exact ⟨0, rfl, by omega, hE, rfl⟩
      case round =>
        clear hE
        obtain ⟨f, rfl, f1, hE, rfl⟩ := hrel
        by_cases hf : f < 2
        · have f2 : (f : Int) < 2 := by omega
          have f0 : (0 : Int) ≤ (f : Int) := by omega
          rcases hst.out k f hk hf with ⟨he, l0⟩ | ⟨S, x, he, l0, l1, cd⟩
          · have hE2 : Hid (∀ u, u < k * 2 + (f + 1) → Q (urow u) = []) := Lib.hid fun u hu => by
              by_cases e : u = k * 2 + f
              · subst e; exact he
              · exact hE.out u (by omega)
            clear he hE
            go_wp2_with fail
            go_roundw
            case rel => exact ⟨f + 1, by go_num, by omega, hE2, by first | rfl | trivial⟩
            case measure => simp [RowKit.intOf]; omega
          · have hend := Lib.hid (fun e w' a b => hfin.out k f S x e w' hk hf hE.out he a b)
            clear hfin hfin2 hst hE he
            go_wp2_with fail
            with_reducible refine Calls.mono cd ?_
            rintro e w1 ⟨rfl, d0, hd⟩
            clear cd l0 l1
            go_wp2_with fail
            go_region
            all_goals
              go_wp2_with fail
              go_ret3
              exact hend.out _ _ rfl ⟨hd.out.1.drewN 1, hd.out.2.below (below_drewN (Below.refl _ _) 1)⟩
        · obtain rfl : f = 2 := by omega
          go_wp2_with fail
          go_roundw
          case rel => exact ⟨k + 1, by go_num, by omega, Lib.hid (fun u hu => hE.out u (by omega)), by first | rfl | trivial⟩
          case measure => simp [RowKit.intOf]; omega
    · obtain rfl : k = 16 := by omega
      have hgo := hfin2.out (fun u hu => hE.out u (by omega))
      clear hfin hfin2 hst hE
      go_wp2_with fail
      go_ret3
      exact hgo
end Ce
end Go.Proofs.Ytejijddhmckgiaa
