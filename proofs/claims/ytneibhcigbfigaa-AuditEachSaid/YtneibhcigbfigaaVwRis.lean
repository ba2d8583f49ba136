/- View: what a list names, rising, each once (view.rising); the library's calls over rows of numbers. -/
import Derived.Test.YtneibhcigbfigaaVwMem
import Derived.Test.YtneibhcigbfigaaShelfV
import Derived.Sort.OwnSortedInts
namespace Go.Proofs.Ytneibhcigbfigaa
open Go.RowKit Go.Lib Fx Ho Gr Go.Sort Go.Shelf
set_option linter.unusedVariables false
namespace Vw
variable {B w w' W : World} {p mb n i lo : Nat} {v lv : Value} {all l zs ts : List Int} {x y : Int} {H : Home}
/-- A row of numbers that may be turned. -/
def Rw0 (lo : Nat) (w : World) (v : Value) (zs : List Int) : Prop :=
  (∃ b off cap, v = .slice (some ⟨b, off, none⟩) zs.length cap ∧ lo ≤ b ∧ b < w.heap.size ∧ zs.length ≤ cap ∧ zs.length ≤ 1000000 ∧ Holds (Value.int .i64) w b off zs.toArray) ∨ (zs = [] ∧ ∃ a cap, v = .slice a 0 cap ∧ ∀ k, v.ownBlock = some k → lo ≤ k)
theorem hold_get {b off : Nat} (h : Holds (Value.int .i64) w b off zs.toArray) {i : Nat} (hi : i < zs.length) : w.cell? ⟨b, off + i, none⟩ = some (.int .i64 (zs.getD i 0)) := by
  have := (h i (by simpa using hi)).1
  rw [this]
  simp [List.getD_eq_getElem?_getD, hi]
theorem Rw0.ints (h : Rw0 lo w v zs) : Ints w (fun k => lo ≤ k) v zs := by
  rcases h with ⟨b, off, cap, rfl, h1, h2, h3, h4, h5⟩ | ⟨rfl, a, cap, rfl, _⟩
  · exact ⟨_, cap, rfl, by omega, fun i hi => ⟨b, off, rfl, h1, h2, hold_get h5 hi⟩⟩
  · exact ⟨a, cap, rfl, by simp, fun i hi => by simp at hi⟩
theorem Rw0.low (h : Rw0 lo w v zs) : ∀ k, v.ownBlock = some k → lo ≤ k := by
  rcases h with ⟨b, off, cap, rfl, h1, _⟩ | ⟨rfl, a, cap, rfl, h1⟩
  · intro k hk
    obtain rfl : b = k := Option.some.inj hk
    exact h1
  · exact h1
theorem Rw0.wrote (h : Rw0 lo w v zs) {H' : Home} (hw : Wrote H w H' w') (ho : ∀ k, v.ownBlock = some k → ¬ H k) : Rw0 lo w' v zs := by
  rcases h with ⟨b, off, cap, rfl, h1, h2, h3, h4, h5⟩ | ⟨rfl, a, cap, rfl, h1⟩
  · have hb := hw.block b h2 (ho b rfl)
    refine .inl ⟨b, off, cap, rfl, h1, Nat.lt_of_lt_of_le h2 hw.size, h3, h4, fun j hj => ?_⟩
    obtain ⟨e1, e2⟩ := h5 j hj
    exact ⟨by rw [World.cell?_of_block (a := ⟨b, off + j, none⟩) hb]; exact e1, by rw [World.frozen?_of_block (a := ⟨b, off + j, none⟩) hb]; exact e2⟩
  · exact .inr ⟨rfl, a, cap, rfl, h1⟩
theorem rw0_owns {base : Nat} (h : w.ownsRow base 3 1 v zs.length (zs.map (Value.int .i64))) (hl : zs.length ≤ 1000000) : Rw0 base w v zs := by
  rcases h.2 with ⟨rfl, hz⟩ | ⟨g, cap, cur, rfl, hb, hg, r1, r2, r3, r4⟩
  · exact .inr ⟨List.eq_nil_of_length_eq_zero hz, none, 0, rfl, fun k hk => by cases hk⟩
  · rw [Nat.mul_one] at r4
    exact .inl ⟨g, 0, cap, rfl, hb, (Array.getElem?_eq_some_iff.1 hg).1, r1, hl, holds_of_blockI hg r4⟩
/-- A row that grows is one. -/
theorem rw0_grow (h : GRow 1 w v zs.length (cells zs)) (hl : zs.length ≤ 1000000) (hlo : ∀ k, v.ownBlock = some k → lo ≤ k) : Rw0 lo w v zs := by
  obtain ⟨ao, b, off, cap, e, hle, hm, hc, hcell⟩ := h.cell
  subst e
  by_cases h0 : zs.length = 0
  · exact .inr ⟨List.eq_nil_of_length_eq_zero h0, ao, cap, by rw [h0], hlo⟩
  · obtain ⟨rfl, hb, ho⟩ := hc (by omega)
    refine .inl ⟨b, off, cap, rfl, hlo b ho, hb, hle, hl, fun j hj => ?_⟩
    have hj' : j < zs.length := by simpa using hj
    have := hcell j (.int .i64 zs.toArray[j]!) (by unfold cells; rw [List.getElem?_map, List.getElem?_eq_getElem hj']; simp [hj'])
    exact this
/-- The world behind a library call that turned one row. -/
theorem wrote_row {b off m : Nat} {d d' : Array Int} {os : Array Go.Obj} (hH : Holds (Value.int .i64) w b off d) (hs : d'.size = d.size) (hb : b < w.heap.size) : Holds (Value.int .i64) (grow (putRow (Value.int .i64) (Sort.ahead w m) b off d') os) b off d' ∧ Wrote (fun k => k = b) w (fun k => k = b) (grow (putRow (Value.int .i64) (Sort.ahead w m) b off d') os) := by
  have h1 := holds_ahead (Value.int .i64) w m b off d hH
  have h2 := holds_putRow (Value.int .i64) (Sort.ahead w m) b off d d' h1 hs
  have hsz : (putRow (Value.int .i64) (Sort.ahead w m) b off d').heap.size = w.heap.size := by unfold putRow mapBlock; simp [Sort.ahead]
  refine ⟨holds_grow (Value.int .i64) _ os b off d' (by rw [hsz]; exact hb) h2, ⟨rfl, rfl, rfl, ?_, fun k hk hn => ?_, fun k hk => .inl hk⟩⟩
  · show w.heap.size ≤ ((putRow (Value.int .i64) (Sort.ahead w m) b off d').heap ++ os).size
    rw [Array.size_append, hsz]; omega
  · show ((putRow (Value.int .i64) (Sort.ahead w m) b off d').heap ++ os)[k]? = w.heap[k]?
    rw [Array.getElem?_append_left (by rw [hsz]; exact hk)]
    unfold putRow mapBlock
    simp only [Sort.ahead]
    rw [Array.getElem?_modify, if_neg (fun e => hn e.symm)]
theorem grow_none (w : World) : grow w #[] = w := by unfold grow; simp
theorem wrote_row0 {b off m : Nat} {d d' : Array Int} (hH : Holds (Value.int .i64) w b off d) (hs : d'.size = d.size) (hb : b < w.heap.size) : Holds (Value.int .i64) (putRow (Value.int .i64) (Sort.ahead w m) b off d') b off d' ∧ Wrote (fun k => k = b) w (fun k => k = b) (putRow (Value.int .i64) (Sort.ahead w m) b off d') := by
  have := wrote_row (m := m) (os := #[]) hH hs hb
  rw [grow_none] at this
  exact this
theorem holds_head {b off : Nat} {k : Nat} (h : Holds (Value.int .i64) w b off (ts ++ List.replicate k 0).toArray) : Holds (Value.int .i64) w b off ts.toArray := fun j hj => by
  have hj' : j < ts.length := by simpa using hj
  have := h j (by simp; omega)
  simp [hj', List.getElem?_append_left hj'] at this ⊢
  exact this
/-- slices.Clone. -/
theorem clone_any {S : Home} (hl : Ints w S lv zs) (hn : zs.length ≤ 1000000) : Calls Try.prog 105 #[lv] w fun e w' => ∃ v', e = .returned v' ∧ Rw0 w.heap.size w' v' zs ∧ Below w.heap.size w w' := by
  obtain ⟨sp, cap, rfl, hm, hc⟩ := hl
  by_cases h0 : zs.length = 0
  · have hz := List.eq_nil_of_length_eq_zero h0
    subst hz
    cases sp with
    | none =>
      refine (Try.slices_Clone_int_nil _ _ w).mono fun e w' ⟨he, hw⟩ => ?_
      subst hw
      exact ⟨_, he, .inr ⟨rfl, none, 0, rfl, fun k hk => by cases hk⟩, Below.refl _ _⟩
    | some a =>
      refine (Try.slices_Clone_int_zero a _ w).mono fun e w' ⟨v', he, h1, _, h2⟩ => ?_
      exact ⟨v', he, rw0_owns h1 (by simp), h2⟩
  · obtain ⟨b, off, rfl, _, _, _⟩ := hc 0 (by omega)
    refine (Try.slices_Clone_int b off zs.length cap zs w (Nat.le_refl _) (by omega) (fun j hj => by
      obtain ⟨b2, off2, e, _, _, h⟩ := hc j hj
      cases e
      exact h)).mono fun e w' ⟨v', he, h1, _, h2⟩ => ?_
    rw [List.take_of_length_le (Nat.le_refl _)] at h1
    exact ⟨v', he, rw0_owns h1 hn, h2⟩
theorem own_of {a : Option Addr} {n1 n2 c1 c2 : Nat} : (Value.slice a n1 c1).ownBlock = (Value.slice a n2 c2).ownBlock := by cases a <;> rfl
/-- slices.Sort. -/
theorem sort_any (h : Rw0 lo w v zs) : Calls Try.prog 71 #[v] w fun e w' => e = .returned (.tuple #[]) ∧ ∃ ts : List Int, ts.Perm zs ∧ ts.Pairwise (· ≤ ·) ∧ Rw0 lo w' v ts ∧ Wrote (fun k => v.ownBlock = some k) w (fun k => v.ownBlock = some k) w' := by
  rcases h with ⟨b, off, cap, rfl, h1, h2, h3, h4, h5⟩ | ⟨rfl, a, cap, rfl, h1⟩
  · refine (Try.slices_Sort_int b off cap zs w h5 h2 (by omega)).mono fun e w' ⟨he, m, os, hw⟩ => ?_
    have hp := List.mergeSort_perm zs (fun x y => decide (x ≤ y))
    have hl := hp.length_eq
    obtain ⟨g1, g2⟩ := wrote_row (m := m) (os := os) (d' := (zs.mergeSort fun x y => decide (x ≤ y)).toArray) h5 (by simp) h2
    rw [← hw] at g1 g2
    refine ⟨he, _, hp, ?_, .inl ⟨b, off, cap, by rw [hl], h1, Nat.lt_of_lt_of_le h2 g2.size, by omega, by omega, g1⟩, ⟨g2.os, g2.tape, g2.output, g2.size, fun k hk hn => g2.block k hk (fun e => hn (by rw [e]; rfl)), fun k hk => .inl hk⟩⟩
    have := List.pairwise_mergeSort (le := fun x y : Int => decide (x ≤ y)) (fun a b c => by simp; omega) (fun a b => by simp; omega) zs
    exact this.imp (fun h => by simpa using h)
  · exact (Try.slices_Sort_int_none a cap w).mono fun e w' ⟨he, hw⟩ => by
      subst hw
      exact ⟨he, [], List.Perm.refl _, List.Pairwise.nil, .inr ⟨rfl, a, cap, rfl, h1⟩, Wrote.refl _ _⟩
/-- Neighbours that are alike go. -/
theorem compact_up (hs : ts.Pairwise (· ≤ ·)) : ∀ m, m ≤ ts.length → (Lib.compactUpTo ts.toArray m).Pairwise (· < ·) ∧ (∀ x, x ∈ Lib.compactUpTo ts.toArray m ↔ x ∈ ts.take m) ∧ (∀ x ∈ Lib.compactUpTo ts.toArray m, ∀ k, k + 1 = m → x ≤ ts.getD k 0)
  | 0, _ => ⟨by simp [Lib.compactUpTo], fun x => by simp [Lib.compactUpTo], fun x hx => by simp [Lib.compactUpTo] at hx⟩
  | m + 1, hm => by
    obtain ⟨h1, h2, h3⟩ := compact_up hs m (by omega)
    have e1 : ts.toArray[m]! = ts.getD m 0 := by simp [List.getD_eq_getElem?_getD, show m < ts.length by omega]
    have e2 : ts.take (m + 1) = ts.take m ++ [ts.getD m 0] := by
      rw [List.take_add_one, List.getElem?_eq_getElem (by omega), List.getD_eq_getElem?_getD, List.getElem?_eq_getElem (by omega)]; rfl
    have hle : ∀ x ∈ ts.take m, x ≤ ts.getD m 0 := fun x hx => by
      rw [← List.take_append_drop m ts, List.pairwise_append] at hs
      refine hs.2.2 x hx _ ?_
      rw [List.getD_eq_getElem?_getD, List.getElem?_eq_getElem (by omega)]
      exact List.mem_drop_iff_getElem.2 ⟨0, by omega, by simp⟩
    rw [Lib.compactUpTo_succ, e1]
    by_cases hk : Lib.keeps ts.toArray m = true
    · rw [if_pos hk]
      have hlt : ∀ x ∈ Lib.compactUpTo ts.toArray m, x < ts.getD m 0 := fun x hx => by
        have hx' := hle x ((h2 x).1 hx)
        rcases Nat.eq_zero_or_pos m with h0 | h0
        · subst h0
          simp [Lib.compactUpTo] at hx
        · have h4 := h3 x hx (m - 1) (by omega)
          have h5 : ts.getD (m - 1) 0 ≠ ts.getD m 0 := by
            unfold Lib.keeps at hk
            have hk := of_decide_eq_true hk
            rcases hk with e | e
            · omega
            · rw [e1] at e
              have : ts.toArray[m - 1]! = ts.getD (m - 1) 0 := by simp [List.getD_eq_getElem?_getD, show m - 1 < ts.length by omega]
              rw [this] at e
              exact fun e3 => e e3.symm
          have h6 : ts.getD (m - 1) 0 ≤ ts.getD m 0 := hle _ (by
            rw [List.getD_eq_getElem?_getD, List.getElem?_eq_getElem (by omega)]
            exact List.mem_take_iff_getElem.2 ⟨m - 1, by omega, by simp⟩)
          omega
      refine ⟨List.pairwise_append.2 ⟨h1, by simp, fun x hx y hy => by rw [List.mem_singleton.1 hy]; exact hlt x hx⟩, fun x => by rw [List.mem_append, h2, e2, List.mem_append], fun x hx k hk2 => ?_⟩
      obtain rfl : k = m := by omega
      rcases List.mem_append.1 hx with e | e
      · exact Int.le_of_lt (hlt x e)
      · rw [List.mem_singleton.1 e]; exact Int.le_refl _
    · rw [if_neg hk, List.append_nil]
      have hm0 : 0 < m := by
        rcases Nat.eq_zero_or_pos m with h0 | h0
        · subst h0; exact absurd (by unfold Lib.keeps; simp) hk
        · exact h0
      have h5 : ts.getD (m - 1) 0 = ts.getD m 0 := by
        refine Classical.byContradiction fun hn => hk ?_
        unfold Lib.keeps
        refine decide_eq_true (.inr ?_)
        have : ts.toArray[m - 1]! = ts.getD (m - 1) 0 := by simp [List.getD_eq_getElem?_getD, show m - 1 < ts.length by omega]
        rw [e1, this]
        exact fun e => hn e.symm
      refine ⟨h1, fun x => ?_, fun x hx k hk2 => ?_⟩
      · rw [h2, e2, List.mem_append, List.mem_singleton]
        constructor
        · exact .inl
        · rintro (e | e)
          · exact e
          · rw [e, ← h5, List.getD_eq_getElem?_getD, List.getElem?_eq_getElem (by omega)]
            exact List.mem_take_iff_getElem.2 ⟨m - 1, by omega, by simp⟩
      · obtain rfl : k = m := by omega
        rw [← h5]
        exact h3 x hx (k - 1) (by omega)
/-- slices.Compact, of a row that rises. -/
theorem compact_any (h : Rw0 lo w v ts) (hs : ts.Pairwise (· ≤ ·)) : Calls Try.prog 107 #[v] w fun e w' => ∃ v' rs, e = .returned v' ∧ rs.Pairwise (· < ·) ∧ (∀ x, x ∈ rs ↔ x ∈ ts) ∧ Rw0 lo w' v' rs ∧ Wrote (fun k => v.ownBlock = some k) w (fun k => v.ownBlock = some k) w' := by
  rcases h with ⟨b, off, cap, rfl, h1, h2, h3, h4, h5⟩ | ⟨rfl, a, cap, rfl, h1⟩
  · refine (Try.slices_Compact_int b off cap ts w h5 (by omega) h3).mono fun e w' ⟨he, m, hw⟩ => ?_
    obtain ⟨c1, c2, _⟩ := compact_up hs ts.length (Nat.le_refl _)
    rw [List.take_of_length_le (Nat.le_refl _)] at c2
    change (Lib.compact ts).Pairwise (· < ·) at c1
    change ∀ x, x ∈ Lib.compact ts ↔ x ∈ ts at c2
    have hle : (Lib.compact ts).length ≤ ts.length := by
      unfold Lib.compact Lib.compactUpTo
      rw [List.length_map]
      have := List.length_filter_le (Lib.keeps ts.toArray) (List.range ts.length)
      rw [List.length_range] at this
      exact this
    obtain ⟨rs, hrs⟩ : ∃ rs, Lib.compact ts = rs := ⟨_, rfl⟩
    rw [hrs] at he hw c1 c2 hle
    obtain ⟨g1, g2⟩ := wrote_row0 (m := m) (d' := (rs ++ List.replicate (ts.length - rs.length) 0).toArray) h5 (by simp; omega) h2
    rw [← hw] at g1 g2
    exact ⟨_, rs, he, c1, c2, .inl ⟨b, off, cap, rfl, h1, Nat.lt_of_lt_of_le h2 g2.size, by omega, by omega, holds_head g1⟩, ⟨g2.os, g2.tape, g2.output, g2.size, fun k hk hn => g2.block k hk (fun e => hn (by rw [e]; rfl)), fun k hk => .inl hk⟩⟩
  · exact (Try.slices_Compact_int_empty a cap w).mono fun e w' ⟨he, hw⟩ => by
      subst hw
      exact ⟨_, [], he, List.Pairwise.nil, fun x => Iff.rfl, .inr ⟨rfl, a, cap, rfl, h1⟩, Wrote.refl _ _⟩
end Vw
end Go.Proofs.Ytneibhcigbfigaa
