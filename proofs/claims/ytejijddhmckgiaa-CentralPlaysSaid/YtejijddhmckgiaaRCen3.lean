/- The document's own Central: what Any, Del, Put and Begin answer and make. -/
import Derived.Test.YtejijddhmckgiaaRCen2
import Derived.BigRegion
namespace Go.Proofs.Ytejijddhmckgiaa
open Go.RowKit Go.Lib Fx Ho Rw Qu
set_option linter.unusedVariables false
namespace Dc
open Ce (upd upd_same upd_ne delQ putQ begQ begT uns urow srow takeA takeQ takeFA takeFQ anyF anyA anyQ anyF_some anyF_none inQ inQ_yes inQ_no inQ_at Apart size_set)
variable {S S' : Home} {w w' w1 W : World} {x r k n : Nat} {Q Q' : Qs} {v u : Value} {H H' : Home} {id i y : Int} {P L : List Int}
theorem off_cap {v : Value} {zs : List Int} (h : OffRow w v zs) : CapOk v := by
  obtain ⟨ao, b, off, cap, rfl, hle, _⟩ := h.cell
  intro s n c e
  cases e; exact hle
theorem heap_below {a b : World} (hh : b.heap = a.heap) (h1 : b.os = a.os) (h2 : b.tape = a.tape) (h3 : b.output = a.output) : Below a.heap.size a b := ⟨h1, h2, h3, by rw [hh]; exact Nat.le_refl _, fun k _ => by rw [hh]⟩
/-- A row made new is laid. -/
theorem ds_lay (h : IsD S w x Q) (hr : r < 64) {v1 : Value} {L : List Int} (hb : Below w.heap.size w w1) (ho : OffRow w1 v1 L) (hl : Low w.heap.size (fun k => v1.ownBlock = some k)) : Wrote (fun k => k = x) w (fun k => k = x) (w1.setCell ⟨x, r, none⟩ v1) ∧ IsD (nS S w) (w1.setCell ⟨x, r, none⟩ v1) x (upd Q r L) :=
  h.lay hr hb (fun k hk => .inl hk) (nS_x h) (ho.ints.wider (fun k hk _ => .inr (hl k hk))) (off_cap ho)
set_option maxRecDepth 100000 in
set_option maxHeartbeats 2000000 in
theorem any_any (h : IsD S w x Q) (hs : ∀ r, (Q r).length ≤ 100000) : Calls Try.prog 32 #[.pointer (some ⟨x, 0, none⟩)] w (DS S (.tuple #[.int .i64 (anyA Q).1, .int .i64 (anyA Q).2.1, .bool (anyA Q).2.2]) w x (anyQ Q)) := by
  have hc : Hid (∀ k j, k < 16 → 2 ≤ j → j < 4 → w.frozen? ⟨x, k * 4 + j, none⟩ = false ∧ ((Q (urow (k * 2 + (j - 2))) = [] ∧ ∃ s c, w.cell? ⟨x, k * 4 + j, none⟩ = some (.slice s 0 c)) ∨ ∃ y T b off m c, Q (urow (k * 2 + (j - 2))) = y :: T ∧ m + 1 ≤ c ∧ m ≤ 100000 ∧ ¬ x = b ∧ w.cell? ⟨x, k * 4 + j, none⟩ = some (.slice (some ⟨b, off, none⟩) (m + 1) c) ∧ w.cell? ⟨b, off, none⟩ = some (.int .i64 y) ∧ Hid (∀ a1, (a1 = some ⟨b, off + 1, none⟩ ∨ c = 1 ∧ a1 = some ⟨b, off, none⟩) → ∀ W, W.heap = (w.setCell ⟨x, k * 4 + j, none⟩ (.slice a1 m (c - 1))).heap → W.os = w.os → W.tape = w.tape → W.output = w.output → (∀ u, u < k * 2 + (j - 2) → Q (urow u) = []) → DS S (.tuple #[.int .i64 (anyA Q).1, .int .i64 (anyA Q).2.1, .bool (anyA Q).2.2]) w x (anyQ Q) (.returned (.tuple #[.int .i64 k, .int .i64 y, .bool true])) W))) := Lib.hid fun k j hk h2 hj => by
    have hu : urow (k * 2 + (j - 2)) = k * 4 + j := by unfold urow; omega
    have hr : k * 4 + j < 64 := by omega
    obtain ⟨s, c, c0, hcap, hI⟩ := h.row hr
    refine ⟨h.fz _, ?_⟩
    rw [hu]
    cases hq : Q (k * 4 + j) with
    | nil => rw [hq] at c0; exact .inl ⟨rfl, s, c, c0⟩
    | cons y T =>
      have hlen : (Q (k * 4 + j)).length = T.length + 1 := by rw [hq]; rfl
      obtain ⟨sp', cap', e, _, hcc⟩ := id hI
      obtain ⟨b, off, rfl, hSb, _, hcell⟩ := hcc 0 (by omega)
      cases e
      have hs2 := hs (k * 4 + j)
      refine .inr ⟨y, T, b, off, T.length, c, rfl, by omega, by omega, fun e => h.sx (e ▸ hSb), by rw [c0, hlen], by rw [Nat.add_zero] at hcell; rw [hcell, hq]; rfl, Lib.hid fun a1 ha1 W hh e1 e2 e3 hE => ?_⟩
      have hd := ints_drop (n := 1) (a1 := a1) hI rfl (by omega) (by rcases ha1 with e | ⟨e, e'⟩; exact .inl (by rw [e]; simp [addr_add]); exact .inr ⟨e, e'⟩) hcap
      rw [hq] at hd
      have hd2 : Ints w S (.slice a1 T.length (c - 1)) T := hd
      obtain ⟨g1, g2⟩ := h.lay (S' := nS S w) hr (Below.refl _ _) (fun k hk => .inl hk) (nS_x h) (hd2.wider (fun k hk _ => .inl hk)) (fun s n c e => by cases e; omega)
      have hb := heap_below (a := w.setCell ⟨x, k * 4 + j, none⟩ (.slice a1 T.length (c - 1))) hh e1 e2 e3
      have ea : anyF Q 32 = some (k * 2 + (j - 2), y) := by
        have := anyF_some (S := T) hE (by rw [hu]; exact hq) (32 - (k * 2 + (j - 2) + 1))
        rwa [show k * 2 + (j - 2) + 1 + (32 - (k * 2 + (j - 2) + 1)) = 32 by omega] at this
      unfold anyA anyQ
      rw [ea]
      show DS S (.tuple #[.int .i64 (((k * 2 + (j - 2)) / 2 : Nat) : Int), .int .i64 y, .bool true]) w x (upd Q (urow (k * 2 + (j - 2))) (Q (urow (k * 2 + (j - 2)))).tail) _ W
      rw [show (k * 2 + (j - 2)) / 2 = k by omega, hu, hq]
      exact ⟨rfl, g1.trans (Wrote.of_below hb), g2.below hb⟩
  have hnone : Hid ((∀ u, u < 32 → Q (urow u) = []) → DS S (.tuple #[.int .i64 (anyA Q).1, .int .i64 (anyA Q).2.1, .bool (anyA Q).2.2]) w x (anyQ Q) (.returned (.tuple #[.int .i64 0, .int .i64 0, .bool false])) w) := Lib.hid fun hE => by
    have ea := anyF_none 32 hE
    unfold anyA anyQ
    rw [ea]
    exact ds_still h ⟨rfl, rfl⟩
  clear h hs
  go_enter Try.func32, Try.ntmps32
  go_wp2_with fail
  go_loopw [5] (fun v wr => ∃ k : Nat, v = .int .i64 k ∧ k ≤ 16 ∧ Hid (∀ u, u < k * 2 → Q (urow u) = []) ∧ wr = w) (fun v _ => (16 - (RowKit.intOf v).toNat))
  case atStart => exact ⟨0, rfl, by omega, Lib.hid (fun u hu => by omega), rfl⟩
  case round =>
    obtain ⟨k, rfl, k1, hE, rfl⟩ := hrel
    by_cases hk : k < 16
    · have k2 : (k : Int) < 16 := by omega
      have k0 : (0 : Int) ≤ (k : Int) := by omega
      have hst : Hid (∀ u, u < k * 2 + (2 - 2) → Q (urow u) = []) := hE
      clear hE
      go_wp2_with fail
      go_loopw [6] (fun v wx => ∃ j : Nat, v = .int .i64 j ∧ 2 ≤ j ∧ j ≤ 4 ∧ Hid (∀ u, u < k * 2 + (j - 2) → Q (urow u) = []) ∧ wx = wr) (fun v _ => (4 - (RowKit.intOf v).toNat))
      case atStart => exact ⟨2, rfl, by omega, by omega, hst, rfl⟩
      case round =>
        clear hst
        obtain ⟨j, rfl, j2, j1, hE, rfl⟩ := hrel
        by_cases hj : j < 4
        · have j3 : (j : Int) < 4 := by omega
          have j0 : (0 : Int) ≤ (j : Int) := by omega
          obtain ⟨f0, hcs⟩ := hc.out k j hk j2 hj
          rcases hcs with ⟨he, s, c, c0⟩ | ⟨y, T, b, off, m, c, he, mc, m1, hxb, c0, cy, hgo⟩
          · have hE2 : Hid (∀ u, u < k * 2 + (j + 1 - 2) → Q (urow u) = []) := Lib.hid fun u hu => by
              by_cases e : u = k * 2 + (j - 2)
              · subst e; exact he
              · exact hE.out u (by omega)
            clear he hE hc hnone
            go_wp2_with fail
            go_roundw
            case rel => exact ⟨j + 1, by go_num, by omega, by omega, hE2, by first | rfl | trivial⟩
            case measure => simp [RowKit.intOf]; omega
          · have hbx : ¬ b = x := fun e => hxb e.symm
            have m0 : (0 : Int) ≤ (m : Int) := by omega
            have m2 : (m : Int) ≤ 100000 := by omega
            have m3 : (m : Int) + 1 ≤ (c : Int) := by omega
            have m4 : (0 : Int) < (m : Int) + 1 := by omega
            have m5 : (m : Int) + 1 - 1 = (m : Int) := by omega
            have hE3 := hE.out
            push_cast at c0
            clear he hE hc hnone
            by_cases hc1 : c = 1
            · subst hc1
              obtain rfl : m = 0 := by omega
              have hgo2 := Lib.hid (hgo.out (some ⟨b, off, none⟩) (.inr ⟨rfl, rfl⟩))
              clear hgo
              replace hE3 := Lib.hid hE3
              go_wp2_with fail
              go_region
              all_goals
                go_wp2_with fail
                go_region
                all_goals
                  go_wp2_with fail
                  go_ret3
                  exact hgo2.out _ rfl rfl rfl rfl hE3.out
            · have hc2 : ¬ 1 = c := fun e => hc1 e.symm
              have hgo2 := Lib.hid (hgo.out (some ⟨b, off + 1, none⟩) (.inl rfl))
              clear hgo
              replace hE3 := Lib.hid hE3
              go_wp2_with fail
              go_region
              all_goals
                go_wp2_with fail
                go_region
                all_goals
                  go_wp2_with fail
                  go_ret3
                  exact hgo2.out _ rfl rfl rfl rfl hE3.out
        · obtain rfl : j = 4 := by omega
          go_wp2_with fail
          go_roundw
          case rel => exact ⟨k + 1, by go_num, by omega, Lib.hid (fun u hu => hE.out u (by omega)), by first | rfl | trivial⟩
          case measure => simp [RowKit.intOf]; omega
    · obtain rfl : k = 16 := by omega
      have hgo := hnone.out (fun u hu => hE.out u (by omega))
      clear hc hnone hE
      go_wp2_with fail
      go_ret3
      exact hgo
end Dc
end Go.Proofs.Ytejijddhmckgiaa
