/- The document's own Central: what Del, Put and Begin answer and make. -/
import Derived.Test.YtejijddhmckgiaaRCen3
namespace Go.Proofs.Ytejijddhmckgiaa
open Go.RowKit Go.Lib Fx Ho Rw Qu
set_option linter.unusedVariables false
namespace Dc
open Ce (upd upd_same upd_ne delQ putQ begQ begT uns urow srow takeA takeQ takeFA takeFQ inQ inQ_yes inQ_no inQ_at Apart size_set)
variable {S S' : Home} {w w' w1 W : World} {x r k n : Nat} {Q Q' : Qs} {v u : Value} {H H' : Home} {id i y : Int} {P L : List Int}
set_option maxRecDepth 100000 in
set_option maxHeartbeats 2000000 in
theorem del_any (h : IsD S w x Q) (hA : Apart Q) (hs : ∀ r, (Q r).length ≤ 100000) (id : Int) : Calls Try.prog 33 #[.pointer (some ⟨x, 0, none⟩), .int .i64 id] w (DS S (.bool (inQ Q id)) w x (delQ Q id)) := by
  have hc : Hid (∀ k j, k < 16 → j < 4 → ∃ s l c, w.cell? ⟨x, k * 4 + j, none⟩ = some (.slice s l c) ∧ w.frozen? ⟨x, k * 4 + j, none⟩ = false ∧ ((id ∉ Q (k * 4 + j) ∧ Calls Try.prog 66 #[.slice s l c, .int .i64 id] w (Still (.tuple #[.slice s l c, .bool false]) w)) ∨ Calls Try.prog 66 #[.slice s l c, .int .i64 id] w fun e w' => ∃ v', e = .returned (.tuple #[v', .bool true]) ∧ (∃ s n c, v' = .slice s n c) ∧ w'.cell? ⟨x, k * 4 + j, none⟩ = some (.slice s l c) ∧ w'.frozen? ⟨x, k * 4 + j, none⟩ = false ∧ Hid (DS S (.bool (inQ Q id)) w x (delQ Q id) (.returned (.bool true)) (w'.setCell ⟨x, k * 4 + j, none⟩ v')))) := Lib.hid fun k j hk hj => by
    have hr : k * 4 + j < 64 := by omega
    obtain ⟨s, c, c0, hcap, hI⟩ := h.row hr
    refine ⟨s, _, c, c0, h.fz _, ?_⟩
    by_cases hm : id ∈ Q (k * 4 + j)
    · obtain ⟨A, B, e, hno⟩ := first_of hm
      have hs2 := hs (k * 4 + j)
      have co := out_some (A := A) (B := B) (x := id) (by rw [← e]; exact hI) hno (by rw [← e]) hcap (by omega)
      refine .inr (co.mono fun e1 w1 ⟨v', he, ho, hl, hb⟩ => ?_)
      obtain ⟨s1, c1, e2⟩ := ho.slice
      obtain ⟨g1, g2⟩ := ds_lay h hr hb ho hl
      have h1 := h.below hb
      have hcell : w1.cell? ⟨x, k * 4 + j, none⟩ = some (.slice s (Q (k * 4 + j)).length c) := cell_then hb c0
      refine ⟨v', he, ⟨s1, _, c1, e2⟩, hcell, h1.fz _, Lib.hid ?_⟩
      rw [inQ_yes hr hm]
      rw [Ce.del_of_upd hA e] at g2
      exact ⟨rfl, g1, g2⟩
    · exact .inl ⟨hm, out_not hI hm⟩
  have hnone : Hid ((∀ r, r < 64 → id ∉ Q r) → DS S (.bool (inQ Q id)) w x (delQ Q id) (.returned (.bool false)) w) := Lib.hid fun hno => by
    rw [inQ_no hno, Ce.del_not hA (inQ_no hno)]
    exact ds_still h ⟨rfl, rfl⟩
  clear h hs
  go_enter Try.func33, Try.ntmps33
  go_wp2_with fail
  go_loopw [5] (fun v wr => ∃ k : Nat, v = .int .i64 k ∧ k ≤ 16 ∧ Hid (∀ r, r < k * 4 → id ∉ Q r) ∧ wr = w) (fun v _ => (16 - (RowKit.intOf v).toNat))
  case atStart => exact ⟨0, rfl, by omega, Lib.hid (fun u hu => by omega), rfl⟩
  case round =>
    obtain ⟨k, rfl, k1, hE, rfl⟩ := hrel
    by_cases hk : k < 16
    · have k2 : (k : Int) < 16 := by omega
      have k0 : (0 : Int) ≤ (k : Int) := by omega
      go_wp2_with fail
      go_loopw [6] (fun v wx => ∃ j : Nat, v = .int .i64 j ∧ j ≤ 4 ∧ Hid (∀ r, r < k * 4 + j → id ∉ Q r) ∧ wx = wr) (fun v _ => (4 - (RowKit.intOf v).toNat))
      case atStart => exact ⟨0, rfl, by omega, hE, rfl⟩
      case round =>
        clear hE
        obtain ⟨j, rfl, j1, hE, rfl⟩ := hrel
        by_cases hj : j < 4
        · have j3 : (j : Int) < 4 := by omega
          have j0 : (0 : Int) ≤ (j : Int) := by omega
          obtain ⟨s, l, c, c0, f0, hcs⟩ := hc.out k j hk hj
          rcases hcs with ⟨he, co⟩ | co
          · have hE2 : Hid (∀ r, r < k * 4 + (j + 1) → id ∉ Q r) := Lib.hid fun u hu => by
              by_cases e : u = k * 4 + j
              · subst e; exact he
              · exact hE.out u (by omega)
            clear he hE hc hnone
            go_wp2_with fail
            with_reducible refine Calls.mono co ?_
            rintro e w1 ⟨rfl, e1⟩
            subst e1
            clear co
            go_wp2_with fail
            go_roundw
            case rel => exact ⟨j + 1, by go_num, by omega, hE2, by first | rfl | trivial⟩
            case measure => simp [RowKit.intOf]; omega
          · clear hE hc hnone
            go_wp2_with fail
            with_reducible refine Calls.mono co ?_
            rintro e w1 ⟨v', rfl, ⟨s1, n1, c1, rfl⟩, c0', f0', hgo⟩
            clear co c0 f0
            go_wp2_with fail
            go_ret
            exact hgo.out
        · obtain rfl : j = 4 := by omega
          go_wp2_with fail
          go_roundw
          case rel => exact ⟨k + 1, by go_num, by omega, Lib.hid (fun u hu => hE.out u (by omega)), by first | rfl | trivial⟩
          case measure => simp [RowKit.intOf]; omega
    · obtain rfl : k = 16 := by omega
      have hgo := hnone.out (fun u hu => hE.out u (by omega))
      clear hc hnone hE
      go_wp2_with fail
      go_ret
      exact hgo
set_option maxRecDepth 100000 in
theorem put_no (h : IsD S w x Q) (hi : i < 0 ∨ 16 ≤ i) (id : Int) (b : Bool) : Calls Try.prog 28 #[.pointer (some ⟨x, 0, none⟩), .int .i64 i, .int .i64 id, .bool b] w (DS S (.tuple #[]) w x Q) := by
  have hd := Lib.hid (ds_still (v := .tuple #[]) h ⟨rfl, rfl⟩)
  clear h
  by_cases h0 : i < 0
  · go_enter Try.func28, Try.ntmps28
    go_wp2_with fail
    go_end0
    exact hd.out
  · have h1 : 15 < i := by omega
    go_enter Try.func28, Try.ntmps28
    go_wp2_with fail
    go_end0
    exact hd.out
set_option maxRecDepth 100000 in
set_option maxHeartbeats 4000000 in
theorem put_any (h : IsD S w x Q) (hA : Apart Q) (hk : k < 16) (hs : ∀ r, (Q r).length ≤ 100000) (id : Int) (b : Bool) : Calls Try.prog 28 #[.pointer (some ⟨x, 0, none⟩), .int .i64 k, .int .i64 id, .bool b] w (DS S (.tuple #[]) w x (putQ Q (k * 4 + cond b 1 0) id)) := by
  have cd := del_any h hA hs id
  have k0 : (0 : Int) ≤ (k : Int) := by omega
  have k1 : ¬ (k : Int) < 0 := by omega
  have k2 : ¬ (15 : Int) < (k : Int) := by omega
  have k3 : (k : Int) < 16 := by omega
  have hnx : Hid (∀ w2 e, DS S (.bool (inQ Q id)) w x (delQ Q id) e w2 → ∃ sl l cl, w2.cell? ⟨x, k * 4 + cond b 1 0, none⟩ = some (.slice sl l cl) ∧ x < w2.heap.size ∧ l ≤ 100000 ∧ ∃ Z : List Int, Z.length = l ∧ Hid (∀ w3, Below w2.heap.size w2 w3 → Src Try.prog 1 35 (.slice sl l cl) Z.length (cells Z) w3) ∧ Hid (∀ (w3 : World) (v : Value), Below w2.heap.size w2 w3 → Low w2.heap.size (fun k => v.ownBlock = some k) → OffRow w3 v (Z ++ [id]) → (∃ s n c, v = .slice s n c) ∧ w3.cell? ⟨x, k * 4 + cond b 1 0, none⟩ = some (.slice sl l cl) ∧ w3.frozen? ⟨x, k * 4 + cond b 1 0, none⟩ = false ∧ Hid (DS S (.tuple #[]) w x (putQ Q (k * 4 + cond b 1 0) id) (.returned (.tuple #[])) (w3.setCell ⟨x, k * 4 + cond b 1 0, none⟩ v)))) := Lib.hid fun w2 e h2 => by
    have hr : k * 4 + cond b 1 0 < 64 := by cases b <;> simp <;> omega
    obtain ⟨sl, cl, c0, hcap, hI⟩ := h2.2.2.row hr
    have hle : (delQ Q id (k * 4 + cond b 1 0)).length ≤ 100000 := Nat.le_trans List.length_erase_le (hs _)
    refine ⟨sl, _, cl, c0, h2.2.2.lt, hle, _, rfl, Lib.hid fun w3 hb => src_of_ints (hI.below hb), Lib.hid fun w3 v hb hl ho => ?_⟩
    obtain ⟨s1, c1, e1⟩ := ho.slice
    obtain ⟨g1, g2⟩ := ds_lay h2.2.2 hr hb ho hl
    refine ⟨⟨s1, _, c1, e1⟩, cell_then hb c0, (h2.2.2.below hb).fz _, Lib.hid ?_⟩
    have h3 : DS (nS S w) (.tuple #[]) w2 x (putQ Q (k * 4 + cond b 1 0) id) (.returned (.tuple #[])) (w3.setCell ⟨x, k * 4 + cond b 1 0, none⟩ v) := ⟨rfl, g1, g2⟩
    exact h2.then_ h3
  clear h hs hA
  generalize hQ9 : putQ Q (k * 4 + cond b 1 0) id = Q9 at *
  clear hQ9
  go_enter Try.func28, Try.ntmps28
  go_wp2_with fail
  with_reducible refine Calls.mono cd ?_
  rintro e w2 hm
  obtain ⟨sl, l, cl, c0, hp, hl5, Z, hZ, hsrc, hfin⟩ := hnx.out w2 _ hm
  obtain rfl := hm.1
  clear hnx hm cd
  have hbA : ([] : List Int).length + Z.length ≤ 1000000 := by simp; omega
  have hb1 : Z.length + [id].length ≤ 1000000 := by simp; omega
  generalize inQ Q id = bb at *
  replace hZ := Lib.hid hZ
  replace hl5 := Lib.hid hl5
  cases b
  all_goals
    simp only [cond_true, cond_false, Nat.add_zero] at hfin hsrc c0
    go_wp2_with fail
    go_region_law (first
      | (refine step_append_off rfl (.tmp 31) (.tmp 33) rfl rfl (off_below hr7.out (by (repeat (first | exact Below.refl _ _ | refine below_alloc ?_ _ | refine below_drewN ?_ _ | refine Below.drew ?_)))) rfl rfl (src1_at (x := id) (by first | exact hjb.out | exact heap_alloc_new w7 _)) hb1 ?_; intro v8 w8 g3 g4; have hl8 := g4.low hl7.out (Below.size (w := w2) (by (repeat (first | exact hB7.out | exact Below.refl _ _ | refine below_alloc ?_ _ | refine below_drewN ?_ _ | refine Below.drew ?_)))); have hB8 := g4.below hl7.out (by (repeat (first | exact hB7.out | exact Below.refl _ _ | refine below_alloc ?_ _ | refine below_drewN ?_ _ | refine Below.drew ?_))); have hk9 := hfin.out w8 v8 hB8 hl8 g3; obtain ⟨⟨s9, n9, c9, rfl⟩, f1, f2, hgo⟩ := hk9; clear g3 g4 hl8 hB8 hr7 hl7 hB7 hk3 hfin)
      | (refine step_append_off rfl (.tmp 22) (.tmp 30) rfl rfl (lit_off (by first | exact lt_new _ _ | exact lt_new1 (by exact size_new w2 _) | exact Nat.lt_trans (lt_new _ _) (lt_new _ _))) rfl rfl (hsrc.out _ (by (repeat (first | exact Below.refl _ _ | refine below_alloc ?_ _ | refine below_drewN ?_ _ | refine Below.drew ?_)))) hbA ?_; intro v7 w7 g1 g2; have hk := off_one (wq := w2) (by (repeat (first | exact Below.refl _ _ | refine below_alloc ?_ _ | refine below_drewN ?_ _ | refine Below.drew ?_))) (by first | exact Nat.le_refl _ | exact Nat.le_succ _ | exact Below.size (w := w2) (by (repeat (first | exact Below.refl _ _ | refine below_alloc ?_ _ | refine below_drewN ?_ _ | refine Below.drew ?_)))) g1 g2; have hr7 := Lib.hid hk.1; have hl7 := Lib.hid hk.2.1; have hB7 := Lib.hid hk.2.2.1; have hk3 := Lib.hid hk.2.2.2; clear hk g1 g2; try (first
          | (have hjb : Hid (w7.heap[w2.heap.size + 1]? = some (.cells #[.int .i64 id] 3 (0, 0))) := Lib.hid (hk3.out (w2.heap.size + 1) _ (Nat.succ_ne_self _) (heap_new1 (w := w2) (by exact size_new w2 _))))
          | (have hjb : Hid (w7.heap[w2.heap.size]? = some (.cells #[.int .i64 id] 3 (0, 0))) := Lib.hid (hk3.out w2.heap.size _ (Nat.succ_ne_self _).symm (old_new (w := w2) (C := #[.int .i64 id]) (t := 3) (by (repeat (first | exact Below.refl _ _ | refine below_alloc ?_ _ | refine below_drewN ?_ _ | refine Below.drew ?_)))))))))
  all_goals
    go_wp2_with fail
    go_end0
    exact hgo.out
end Dc
end Go.Proofs.Ytejijddhmckgiaa
