/- The document's own Central: what Begin makes. -/
import Derived.Test.YtejijddhmckgiaaRCen4
namespace Go.Proofs.Ytejijddhmckgiaa
open Go.RowKit Go.Lib Fx Ho Rw Qu
set_option linter.unusedVariables false
namespace Dc
open Ce (upd upd_same upd_ne delQ putQ begQ begT uns urow srow Apart size_set midQ mid_end)
variable {S S' : Home} {w w' w1 W : World} {x r k n : Nat} {Q Q' : Qs} {v u : Value} {H H' : Home} {id i y : Int} {P L : List Int}
set_option maxRecDepth 100000 in
set_option maxHeartbeats 4000000 in
theorem begin_any (h : IsD S w x Q) (hs : ∀ r, (Q r).length ≤ 100000) : Calls Try.prog 31 #[.pointer (some ⟨x, 0, none⟩)] w (DS S (.tuple #[]) w x (begQ Q)) := by
  have hst : Hid (DS S (.tuple #[]) w x (begT Q 0) (.returned (.tuple #[])) w) := Lib.hid (by
    rw [show begT Q 0 = Q from funext fun s => by unfold begT; rw [if_neg (by omega)]]
    exact ds_still h ⟨rfl, rfl⟩)
  clear h
  go_enter Try.func31, Try.ntmps31
  go_wp2_with fail
  go_loopw [2] (fun v wr => ∃ k : Nat, v = .int .i64 k ∧ k ≤ 16 ∧ Hid (DS S (.tuple #[]) w x (begT Q (k * 2)) (.returned (.tuple #[])) wr)) (fun v _ => (16 - (RowKit.intOf v).toNat))
  case atStart => exact ⟨0, rfl, by omega, hst⟩
  case round =>
    clear hst
    obtain ⟨k, rfl, k1, hM⟩ := hrel
    by_cases hk : k < 16
    · have k2 : (k : Int) < 16 := by omega
      have k0 : (0 : Int) ≤ (k : Int) := by omega
      go_wp2_with fail
      go_loopw [3] (fun v wr => ∃ j : Nat, v = .int .i64 j ∧ j ≤ 2 ∧ Hid (DS S (.tuple #[]) w x (begT Q (k * 2 + j)) (.returned (.tuple #[])) wr)) (fun v _ => (2 - (RowKit.intOf v).toNat))
      case atStart => exact ⟨0, rfl, by omega, hM⟩
      case round =>
        clear hM
        obtain ⟨j, rfl, j1, hM⟩ := hrel
        by_cases hj : j < 2
        · have j2 : (j : Int) < 2 := by omega
          have j0 : (0 : Int) ≤ (j : Int) := by omega
          obtain ⟨q, hq0⟩ : ∃ q : Nat, q = j + 2 := ⟨_, rfl⟩
          have j3 : (q : Int) < 4 := by omega
          have q1 : ¬ j = q := by omega
          have q2 : ¬ q = j := by omega
          have q3 : ¬ k * 4 + j = k * 4 + q := by omega
          have q4 : ¬ k * 4 + q = k * 4 + j := by omega
          have j4 : (0 : Int) ≤ (q : Int) := by omega
          have hwr : IntKind.i64.wrap ((j : Int) + 2) = (q : Int) := by rw [IntKind.wrap_i64]; omega
          have j5 : (j : Int) < 4 := by omega
          have h2 := hM.out
          obtain ⟨t, ht⟩ : ∃ t, k * 2 + j = t := ⟨_, rfl⟩
          have ha : k * 4 + j = srow t := by unfold srow; omega
          have hb : k * 4 + q = urow t := by unfold urow; omega
          have hab : srow t ≠ urow t := by unfold srow urow; omega
          have ha64 : srow t < 64 := by unfold srow; omega
          have hb64 : urow t < 64 := by unfold urow; omega
          rw [ht] at h2
          have hD := h2.2.2
          obtain ⟨m, hm⟩ : ∃ m, (begT Q t (srow t)).length = m := ⟨_, rfl⟩
          obtain ⟨hend, ea⟩ := mid_end (Q := Q) (by omega) rfl rfl hm
          have eb : begT Q t (urow t) = Q (urow t) := by unfold begT; rw [if_neg (by unfold urow; omega)]
          obtain ⟨s1, c1, ca, _, hIa⟩ := hD.row ha64
          obtain ⟨s2, c2, cb, _, hIb⟩ := hD.row hb64
          have la : (begT Q t (srow t)).length ≤ 100000 := by rw [ea]; exact hs _
          have lb : (begT Q t (urow t)).length ≤ 100000 := by rw [eb]; exact hs _
          have hp := hD.lt
          have hsrc : Hid (∀ w3, Below wr.heap.size wr w3 → Src Try.prog 1 35 (.slice s2 (begT Q t (urow t)).length c2) (begT Q t (urow t)).length (cells (begT Q t (urow t))) w3) := Lib.hid fun w3 hb => src_of_ints (hIb.below hb)
          have hsrcA : Hid (∀ w3, Below wr.heap.size wr w3 → Src Try.prog 1 35 (.slice s1 (begT Q t (srow t)).length c1) (begT Q t (srow t)).length (cells (begT Q t (srow t))) w3) := Lib.hid fun w3 hb => src_of_ints (hIa.below hb)
          have hdA : Hid (∀ w3, Below wr.heap.size wr w3 → w3.cell? ⟨x, k * 4 + j, none⟩ = some (.slice s1 (begT Q t (srow t)).length c1)) := Lib.hid fun w3 hb => by rw [ha]; exact cell_then hb ca
          have hfin : Hid (∀ (w3 : World) (v : Value), Below wr.heap.size wr w3 → Low wr.heap.size (fun k => v.ownBlock = some k) → OffRow w3 v (begT Q t (urow t) ++ begT Q t (srow t)) → (∃ s n c, v = .slice s n c) ∧ w3.cell? ⟨x, k * 4 + q, none⟩ = some (.slice s2 (begT Q t (urow t)).length c2) ∧ w3.frozen? ⟨x, k * 4 + q, none⟩ = false ∧ w3.cell? ⟨x, k * 4 + j, none⟩ = some (.slice s1 (begT Q t (srow t)).length c1) ∧ w3.frozen? ⟨x, k * 4 + j, none⟩ = false ∧ Hid (DS S (.tuple #[]) w x (begT Q (k * 2 + (j + 1))) (.returned (.tuple #[])) ((w3.setCell ⟨x, k * 4 + q, none⟩ v).setCell ⟨x, k * 4 + j, none⟩ (.slice none 0 0)))) := Lib.hid fun w3 v hb3 hl ho => by
            rw [ha, hb]
            obtain ⟨s9, c9, e9⟩ := ho.slice
            obtain ⟨g1, g2⟩ := ds_lay hD hb64 hb3 ho hl
            obtain ⟨g3, g4⟩ := g2.lay (S' := nS (nS S w) wr) (r := srow t) (v1 := .slice none 0 0) (L := []) ha64 (Below.refl _ _) (fun k hk => hk) g2.sx (ints_nil _ _) (fun s n c e => by cases e; exact Nat.le_refl _)
            refine ⟨⟨s9, _, c9, e9⟩, cell_then hb3 cb, (hD.below hb3).fz _, cell_then hb3 ca, (hD.below hb3).fz _, Lib.hid ?_⟩
            have hq : begT Q (k * 2 + (j + 1)) = upd (upd (begT Q t) (urow t) (begT Q t (urow t) ++ begT Q t (srow t))) (srow t) [] := by
              rw [show k * 2 + (j + 1) = t + 1 by omega, ← hend]
              funext s
              unfold midQ
              rw [← hm, List.drop_length, List.take_length]
              by_cases e1 : s = srow t
              · subst e1; rw [upd_same, upd_ne _ _ hab, upd_same]
              · rw [upd_ne _ _ e1]
                by_cases e2 : s = urow t
                · subst e2; rw [upd_same, upd_same]
                · rw [upd_ne _ _ e2, upd_ne _ _ e2, upd_ne _ _ e1]
            rw [hq]
            have h5 : DS (nS S w) (.tuple #[]) wr x (upd (upd (begT Q t) (urow t) (begT Q t (urow t) ++ begT Q t (srow t))) (srow t) []) (.returned (.tuple #[])) ((w3.setCell ⟨x, urow t, none⟩ v).setCell ⟨x, srow t, none⟩ (.slice none 0 0)) := ⟨rfl, g1.trans g3, g4⟩
            exact h2.then_ h5
          have hbA : ([] : List Int).length + (begT Q t (urow t)).length ≤ 1000000 := by simp; omega
          have hb1 : (begT Q t (urow t)).length + (begT Q t (srow t)).length ≤ 1000000 := by omega
          clear hq0 hM h2 hD hend ea eb hIa hIb la lb hm ha64 hb64 hab
          generalize begT Q t (urow t) = Zb at *
          generalize begT Q t (srow t) = Za at *
          rw [← ha] at ca
          rw [← hb] at cb
          clear ha hb
          go_wp2_with fail
          go_region_law (first
      | (refine step_append_off rfl (.tmp 26) (.tmp 34) rfl rfl (off_below hr7.out (by (repeat (first | exact Below.refl _ _ | refine below_alloc ?_ _ | refine below_drewN ?_ _ | refine Below.drew ?_)))) rfl rfl (hsrcA.out _ (by (repeat (first | exact hB7.out | exact Below.refl _ _ | refine below_alloc ?_ _ | refine below_drewN ?_ _ | refine Below.drew ?_)))) hb1 ?_; intro v8 w8 g3 g4; have hl8 := g4.low hl7.out (Below.size (w := wr) (by (repeat (first | exact hB7.out | exact Below.refl _ _ | refine below_alloc ?_ _ | refine below_drewN ?_ _ | refine Below.drew ?_)))); have hB8 := g4.below hl7.out (by (repeat (first | exact hB7.out | exact Below.refl _ _ | refine below_alloc ?_ _ | refine below_drewN ?_ _ | refine Below.drew ?_))); have hk9 := hfin.out w8 v8 hB8 hl8 g3; obtain ⟨⟨s9, n9, c9, rfl⟩, f1, f2, f3, f4, hgo⟩ := hk9; clear g3 g4 hl8 hB8 hr7 hl7 hB7 hk3 hfin)
      | (refine step_append_off rfl (.tmp 16) (.tmp 25) rfl rfl (lit_off (by first | exact lt_new _ _ | exact lt_new1 (by exact size_new wr _) | exact Nat.lt_trans (lt_new _ _) (lt_new _ _))) rfl rfl (hsrc.out _ (by (repeat (first | exact Below.refl _ _ | refine below_alloc ?_ _ | refine below_drewN ?_ _ | refine Below.drew ?_)))) hbA ?_; intro v7 w7 g1 g2; have hk := off_one (wq := wr) (by (repeat (first | exact Below.refl _ _ | refine below_alloc ?_ _ | refine below_drewN ?_ _ | refine Below.drew ?_))) (by first | exact Nat.le_refl _ | exact Nat.le_succ _ | exact Below.size (w := wr) (by (repeat (first | exact Below.refl _ _ | refine below_alloc ?_ _ | refine below_drewN ?_ _ | refine Below.drew ?_)))) g1 g2; have hr7 := Lib.hid hk.1; have hl7 := Lib.hid hk.2.1; have hB7 := Lib.hid hk.2.2.1; have hk3 := Lib.hid hk.2.2.2; have hd7 := hdA.out w7 hk.2.2.1; clear hk g1 g2))
          all_goals
            clear hdA hsrc hsrcA
            go_wp2_with fail
            go_roundw
            case rel => exact ⟨j + 1, by go_num, by omega, hgo⟩
            case measure => simp [RowKit.intOf]; omega
        · obtain rfl : j = 2 := by omega
          go_wp2_with fail
          go_roundw
          case rel => exact ⟨k + 1, by go_num, by omega, by rw [show (k + 1) * 2 = k * 2 + 2 by omega]; exact hM⟩
          case measure => simp [RowKit.intOf]; omega
    · obtain rfl : k = 16 := by omega
      go_wp2_with fail
      go_end0
      exact hM.out
end Dc
end Go.Proofs.Ytejijddhmckgiaa
