/- Index, Contains and Delete of package slices as the shelf tells them, at a row; Del of package queue; the document's own Out of a row. -/
import Derived.Test.YtclldajbibhcbaaQueueMore
import Derived.Test.YtclldajbibhcbaaRow
import Derived.Test.YtclldajbibhcbaaShelf
namespace Go.Proofs.Ytclldajbibhcbaa
open Go.RowKit Go.Lib Fx Ho Rw
set_option linter.unusedVariables false
namespace Qu
variable {w w' : World} {p : Nat} {v : Value} {zs A B : List Int} {H H' S : Home}
theorem index_hit {k : Nat} {x : Int} (h : Ints w S v zs) (hk : k < zs.length) (hx : zs.getD k 0 = x) (hne : ∀ j, j < k → zs.getD j 0 ≠ x) : Calls Try.prog 107 #[v, .int .i64 x] w (Still (.int .i64 k) w) := by
  obtain ⟨sp, cap, rfl, hm, hc⟩ := h
  obtain ⟨b, off, rfl, _, _, _⟩ := hc k hk
  refine (Try.slices_Index_int b off zs.length cap zs x w (Nat.le_refl _) hm (fun j hj => ?_)).mono fun e w' ⟨he, hw⟩ => ⟨?_, hw.symm⟩
  · obtain ⟨b2, off2, e, _, _, k2⟩ := hc j hj
    cases e; exact k2
  · rw [he, idxOf_hit zs zs.length k x hk (Nat.le_refl _) hx hne]
theorem index_miss {x : Int} (h : Ints w S v zs) (hne : ∀ j, j < zs.length → zs.getD j 0 ≠ x) : Calls Try.prog 107 #[v, .int .i64 x] w (Still (.int .i64 (-1)) w) := by
  obtain ⟨sp, cap, rfl, hm, hc⟩ := h
  by_cases h0 : zs = []
  · subst h0
    exact (Try.slices_Index_int_empty sp cap x w).mono fun e w' ⟨he, hw⟩ => ⟨by rw [he]; rfl, hw.symm⟩
  · obtain ⟨b, off, rfl, _, _, _⟩ := hc 0 (List.length_pos_iff.2 h0)
    refine (Try.slices_Index_int b off zs.length cap zs x w (Nat.le_refl _) hm (fun j hj => ?_)).mono fun e w' ⟨he, hw⟩ => ⟨?_, hw.symm⟩
    · obtain ⟨b2, off2, e, _, _, k2⟩ := hc j hj
      cases e; exact k2
    · rw [he, idxOf_miss zs zs.length x hne]
theorem contains_any {x : Int} (h : Ints w S v zs) : Calls Try.prog 114 #[v, .int .i64 x] w (Still (.bool (zs.contains x)) w) := by
  obtain ⟨sp, cap, rfl, hm, hc⟩ := h
  by_cases h0 : zs = []
  · subst h0
    exact (Try.slices_Contains_int_empty sp cap x w).mono fun e w' ⟨he, hw⟩ => ⟨by rw [he]; rfl, hw.symm⟩
  · obtain ⟨b, off, rfl, _, _, _⟩ := hc 0 (List.length_pos_iff.2 h0)
    refine (Try.slices_Contains_int b off zs.length cap zs x w (Nat.le_refl _) hm (fun j hj => ?_)).mono fun e w' ⟨he, hw⟩ => ⟨?_, hw.symm⟩
    · obtain ⟨b2, off2, e, _, _, k2⟩ := hc j hj
      cases e; exact k2
    · rw [he, List.take_length]
/-- One number is taken out of a row, in its place. -/
theorem delete_any {x : Int} (h : OffRow w v (A ++ x :: B)) (hs : (A ++ x :: B).length ≤ 1000000) :
    Calls Try.prog 108 #[v, .int .i64 A.length, .int .i64 ((A.length : Int) + 1)] w fun e w' => ∃ v', e = .returned v' ∧ OffRow w' v' (A ++ B) ∧ Wrote (fun k => v.ownBlock = some k) w (fun k => v'.ownBlock = some k) w' ∧ v'.ownBlock = v.ownBlock := by
  obtain ⟨ao, b, off, cap, rfl, hc, ⟨hm, hf⟩, hxx⟩ := h
  obtain ⟨zs, hz⟩ : ∃ zs, A ++ x :: B = zs := ⟨_, rfl⟩
  have hl : zs.length = A.length + B.length + 1 := by rw [← hz, List.length_append, List.length_cons]; omega
  have hle := hc.le
  rw [hz] at hc hs hle ⊢
  have ha := hc.addr (by omega)
  subst ha
  have hcell : ∀ j, j < zs.length → w.cell? ⟨b, off + j, none⟩ = some (.int .i64 (zs.getD j 0)) := fun j hj => by
    refine hc.olds j _ ?_
    unfold cells
    rw [List.getElem?_map, List.getD_eq_getElem?_getD, List.getElem?_eq_getElem hj]; rfl
  have hlist : (zs.take zs.length).take A.length ++ (zs.take zs.length).drop (A.length + 1) ++ List.replicate (A.length + 1 - A.length) 0 = A ++ B ++ [0] := by
    rw [List.take_length, ← hz, List.take_left, show A ++ x :: B = (A ++ [x]) ++ B by simp, show A.length + 1 = (A ++ [x]).length by simp, List.drop_left, List.length_append]
    simp
  have hd := Try.slices_Delete_int_cells b off zs.length cap A.length (A.length + 1) zs w (Nat.le_refl _) hle (by unfold maxLen at hm; omega) (by omega) (by omega) hcell (fun j hj => hf j (by omega))
  rw [hlist] at hd
  refine hd.mono fun e w' ⟨he, q, hw⟩ => ?_
  have hvl : ((A ++ B ++ [0]).map (Value.int .i64)).length = zs.length := by simp [hl]; omega
  have hin := World.cell?_setCells_in b ((A ++ B ++ [0]).map (Value.int .i64)) off (w.drewN q) (fun j hj => by
    rw [hvl] at hj
    show (w.cell? _).isSome = true
    rw [hcell j hj]; rfl)
  rw [← hw] at hin
  have hsz : w.heap.size ≤ w'.heap.size := by
    rw [hw]; exact (World.keptBut_setCells b (may := fun _ => True) _ off (w.drewN q) (fun _ _ => trivial)).size
  refine ⟨.slice (some ⟨b, off, none⟩) (zs.length - (A.length + 1 - A.length)) cap, he, ?_, ⟨?_, ?_, ?_, hsz, fun k hk hno => ?_, fun k hk => Or.inl hk⟩, rfl⟩
  · have hABl : (A ++ B).length = zs.length - 1 := by rw [List.length_append]; omega
    refine ⟨some ⟨b, off, none⟩, b, off, cap, by rw [hABl, Nat.add_sub_cancel_left], ⟨by omega, fun _ => rfl, fun h0 => Nat.lt_of_lt_of_le (hc.lt h0) hsz, by rw [cells_len]; omega, fun j u hj => ?_, fun j hj => ?_⟩, ⟨hm, fun j hj => ?_⟩, .inl ⟨rfl, Nat.lt_of_lt_of_le (hc.lt (by omega)) hsz⟩⟩
    · have hj2 := (List.getElem?_eq_some_iff.1 hj).1
      rw [cells_len] at hj2
      rw [hin j (by rw [hvl]; omega), ← hj]
      unfold cells
      rw [← List.getElem?_eq_getElem, List.getElem?_map, List.getElem?_map, List.getElem?_append_left hj2]
    · refine ⟨?_, by rw [hw, World.frozen?_setCells]; rw [Nat.mul_one, Nat.add_assoc]; exact hf _ (by omega)⟩
      by_cases h0 : j = 0
      · subst h0
        rw [Nat.mul_one, Nat.add_zero, hin (A ++ B).length (by rw [hvl]; omega)]; rfl
      · rw [hw, World.cell?_setCells_out b _ off (w.drewN q) _ (fun _ _ => Or.inr (by rw [hvl]; show _ ≤ off + (A ++ B).length * 1 + j; omega))]
        have := (hc.spare (j - 1) (by omega)).1
        rw [show off + zs.length * 1 + (j - 1) = off + (A ++ B).length * 1 + j by omega] at this
        exact this
    · rw [hw, World.frozen?_setCells]; exact hf j hj
  · rw [hw, World.os_setCells]; rfl
  · rw [hw, tape_setCells]; rfl
  · rw [hw, World.output_setCells]; rfl
  · rw [hw, World.heap_setCells_other (w.drewN q) b off _ (i := k) hk (fun e => hno (by rw [e]; rfl))]; rfl
set_option maxRecDepth 100000 in
set_option maxHeartbeats 1000000 in
theorem del_some {x : Int} (h : IsQ w p v (A ++ x :: B)) (hno : x ∉ A) (hs : (A ++ x :: B).length ≤ 1000000) : Calls Try.prog 35 #[.pointer (some ⟨p, 0, none⟩), .int .i64 x] w (Turns (.bool true) w p v (A ++ B)) := by
  have c0 := h.c0
  have ci := index_hit (k := A.length) h.row.ints (by simp) at_first (before_first hno)
  have cd := delete_any h.row hs
  obtain ⟨sp, cap, e⟩ := h.row.slice
  have key : Hid (∀ v1 w1, OffRow w1 v1 (A ++ B) → Wrote (fun k => v.ownBlock = some k) w (fun k => v1.ownBlock = some k) w1 → w1.cell? ⟨p, 0, none⟩ = some v ∧ w1.frozen? ⟨p, 0, none⟩ = false ∧ (∃ s c n, v1 = .slice s n c) ∧ Hid (∀ W, W = w1.setCell ⟨p, 0, none⟩ v1 → ∃ v', Wrote (home p v) w (home p v') W ∧ IsQ W p v' (A ++ B))) := fun v1 w1 h1 h2 => by
    have hd : w1.heap[p]? = some (.cells #[v] 129 (0, 0)) := (h2.block p (block_lt h.head) h.off).trans h.head
    obtain ⟨s, c, e1⟩ := h1.slice
    exact ⟨cell_of hd rfl, frozen_of_row w1 p 0 _ _ hd, ⟨s, c, _, e1⟩, fun W hW => ⟨v1, h.stored h1 h2 hW⟩⟩
  have hl : A.length ≤ 1000000 := by rw [List.length_append] at hs; omega
  subst e
  clear h hno
  unfold Turns
  generalize A.length = k at *
  have k0 : (0 : Int) ≤ (k : Int) := by omega
  have k1 : ¬ ((k : Int) < 0) := by omega
  have k2 : (k : Int) ≤ 1000000 := by omega
  generalize (A ++ x :: B).length = l at *
  go_enter Try.func35, Try.ntmps35
  go_wp2_with fail
  with_reducible refine Calls.mono ci ?_
  rintro e w1 ⟨rfl, rfl⟩
  go_wp2_with fail
  with_reducible refine Calls.mono cd ?_
  rintro e w1 ⟨v1, rfl, h1, h2, _⟩
  have hk := key.out v1 w1 h1 h2
  obtain ⟨f0, f1, ⟨s, c, n, rfl⟩, hfin⟩ := hk
  clear key h1 h2 ci cd c0
  go_wp2_with fail
  go_ret
  exact ⟨rfl, hfin.out _ rfl⟩
set_option maxRecDepth 100000 in
theorem del_none {x : Int} (h : IsQ w p v zs) (hno : x ∉ zs) : Calls Try.prog 35 #[.pointer (some ⟨p, 0, none⟩), .int .i64 x] w (Still (.bool false) w) := by
  have c0 := h.c0
  have ci := index_miss h.row.ints (not_at hno)
  obtain ⟨sp, cap, e⟩ := h.row.slice
  subst e
  clear h hno
  generalize zs.length = l at *
  go_enter Try.func35, Try.ntmps35
  go_wp2_with fail
  with_reducible refine Calls.mono ci ?_
  rintro e w1 ⟨rfl, rfl⟩
  go_wp2_with fail
  go_ret
  exact ⟨rfl, rfl⟩
end Qu
end Go.Proofs.Ytclldajbibhcbaa
