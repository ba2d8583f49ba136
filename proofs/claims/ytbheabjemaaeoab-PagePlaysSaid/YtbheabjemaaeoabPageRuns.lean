/- What Runs answers: the runs of a heap, by their first pages. -/
import Derived.Test.YtbheabjemaaeoabPageSort
import Derived.OwnWalk
namespace Go.Proofs.Ytbheabjemaaeoab
open Go.RowKit Go.Lib Fx Ho Gr Go.Sort
set_option linter.unusedVariables false
namespace Pg
variable {w w' W : World} {P b0 z n c i j k N : Nat} {v : Value} {L M : List Rn} {F : List Bool} {m : Int → Value}
def pr (r : Rn) : Pr2 := (r.1, r.2.1)
def fl (A : List Pr2) : List Value := A.flatMap encR
theorem fl_app (A B : List Pr2) : fl (A ++ B) = fl A ++ fl B := by unfold fl; rw [List.flatMap_append]
theorem fl_len : ∀ A : List Pr2, (fl A).length = A.length * 2
  | [] => rfl
  | x :: t => by
    show (encR x ++ fl t).length = _
    rw [List.length_append, fl_len t]; simp [encR]; omega
theorem infoRun : (Try.prog.info? 34).map (fun i => (i.zero, i.size, i.bytes)) = some (some (.agg #[.int .i64 0, .int .i64 0]), 2, 16) := by kernel_rfl
/-- A row of runs that a call made: where it begins is told, however long it is. -/
def Ow (lo : Nat) (w : World) (v : Value) (A : List Pr2) : Prop := w.ownsRow lo 34 2 v A.length (fl A) ∧ ∃ g cap, v = .slice (some ⟨g, 0, none⟩) A.length cap ∧ lo ≤ g ∧ g < w.heap.size
theorem fl_get : ∀ (A : List Pr2) (t : Nat), t < A.length * 2 → (fl A)[t]? = some ((encR A.toArray[t / 2]!)[t % 2]!)
  | [], t, h => by simp at h
  | x :: r, 0, _ => rfl
  | x :: r, 1, _ => rfl
  | x :: r, t + 2, h => by
    have ih := fl_get r t (by simp at h; omega)
    show (fl r)[t]? = _
    rw [ih, show (t + 2) / 2 = t / 2 + 1 by omega, show (t + 2) % 2 = t % 2 by omega]
    simp
theorem Ow.holds {lo : Nat} {A : List Pr2} (h : Ow lo w v A) : ∃ g cap, v = .slice (some ⟨g, 0, none⟩) A.length cap ∧ lo ≤ g ∧ g < w.heap.size ∧ A.length ≤ cap ∧ HoldsK encR 2 w g 0 A.toArray := by
  obtain ⟨⟨hl, h1⟩, g, cap, rfl, hg, hlt⟩ := h
  rcases h1 with ⟨e, _⟩ | ⟨g', cap', cur, e, _, hh, hle, _, hsz, ht⟩
  · cases e
  · cases e
    refine ⟨g, cap, rfl, hg, hlt, hle, ?_⟩
    unfold HoldsK
    intro j hj
    rw [size_flatK, List.size_toArray] at hj
    refine ⟨?_, frozen_of_row w g _ _ _ hh⟩
    rw [get_flatK encR 2 _ j (by simpa using hj), Nat.zero_add]
    refine cell_of hh ?_
    have e1 : (fl A)[j]? = cur.toList[j]? := by rw [← ht, List.getElem?_take, if_pos hj]
    rw [← Array.getElem?_toList, ← e1, fl_get A j hj]; rfl
theorem Ow.row {lo : Nat} {A : List Pr2} (h : Ow lo w v A) : w.ownsRow lo 34 2 v A.length (fl A) := h.1
theorem ow_new {lo cap : Nat} (h : w.ownsRow lo 34 2 (.slice (some ⟨N, 0, none⟩) 0 cap) 0 []) (hl : lo ≤ N) : Ow lo w (.slice (some ⟨N, 0, none⟩) 0 cap) [] := by
  refine ⟨h, N, cap, rfl, hl, ?_⟩
  rcases h.2 with ⟨e, _⟩ | ⟨g', cap', cur, e, _, hh, _⟩
  · cases e
  · cases e; exact block_lt hh
theorem ow_more {lo : Nat} {A : List Pr2} {x : Pr2} (h : w.ownsRow lo 34 2 v (A.length + 1) (fl A ++ [.int .i64 x.1, .int .i64 x.2])) : Ow lo w v (A ++ [x]) := by
  have e : (A ++ [x]).length = A.length + 1 := by rw [List.length_append, List.length_singleton]
  obtain ⟨g, cap, e1, e2, e3⟩ : ∃ g cap, v = .slice (some ⟨g, 0, none⟩) (A.length + 1) cap ∧ lo ≤ g ∧ g < w.heap.size := by
    rcases h.2 with ⟨_, e⟩ | ⟨g', cap', cur, e, q, hh, _⟩
    · omega
    · exact ⟨g', cap', e, q, block_lt hh⟩
  refine ⟨by rw [e, fl_app]; exact h, g, cap, by rw [e]; exact e1, e2, e3⟩
theorem Ow.kept {lo : Nat} {A : List Pr2} (h : Ow lo w v A) (hb : Below w.heap.size w w') : Ow lo w' v A := by
  obtain ⟨g, cap, e1, e2, e3⟩ := h.2
  refine ⟨?_, g, cap, e1, e2, Nat.lt_of_lt_of_le e3 hb.size⟩
  have h1 := h.1
  subst e1
  obtain ⟨hl, h1⟩ := h1
  refine ⟨hl, h1.imp id fun ⟨g', cap', cur, e, q1, hh, q2⟩ => ⟨g', cap', cur, e, q1, ?_, q2⟩⟩
  exact (hb.block g' (block_lt hh)).trans hh
/-- What Runs answers. -/
def RunsR (w : World) (L : List Rn) (e : Ending) (w' : World) : Prop := ∃ b cap, ∃ d : Array Pr2, e = .returned (.slice (some ⟨b, 0, none⟩) d.size cap) ∧ w.heap.size ≤ b ∧ b < w'.heap.size ∧ d.size ≤ cap ∧ HoldsK encR 2 w' b 0 d ∧ d.toList.Perm (L.map pr) ∧ (∀ i j, i < j → j < d.size → d[i]!.1 ≤ d[j]!.1) ∧ Below w.heap.size w w'
theorem ow_end {A : List Pr2} (h : Ow w.heap.size W v A) (hb : Below w.heap.size w W) (hl : A.length ≤ 1000000) : ∃ g cap, v = .slice (some ⟨g, 0, none⟩) A.length cap ∧ Calls Try.prog 25 #[.slice (some ⟨g, 0, none⟩) A.length cap, .func (.func 26) #[] #[]] W fun e w' => e = .returned (.tuple #[]) ∧ ∃ d : Array Pr2, A.length = d.size ∧ w.heap.size ≤ g ∧ g < w'.heap.size ∧ d.size ≤ cap ∧ HoldsK encR 2 w' g 0 d ∧ d.toList.Perm A ∧ (∀ i j, i < j → j < d.size → d[i]!.1 ≤ d[j]!.1) ∧ Below w.heap.size w w' := by
  obtain ⟨g, cap, e, h1, h2, h3, h4⟩ := h.holds
  refine ⟨g, cap, e, ?_⟩
  have hs := sort_any (cap := cap) A.toArray h4 h2 (by simpa using hl)
  rw [List.size_toArray] at hs
  refine hs.mono fun e w' ⟨he, d, q1, q2, q3, q4, q5⟩ => ⟨he, d, q1.symm, h1, Nat.lt_of_lt_of_le h2 q5.size, by rw [q1]; exact h3, q4, q2, by rw [q1]; exact q3, hb.trans (Rw.below_of_wrote q5 (fun k hk => by rw [show k = g from hk]; exact h1) hb.size)⟩
set_option maxRecDepth 100000 in
set_option maxHeartbeats 2000000 in
theorem runs_w (h : Pe w P v b0 z n c F L m) : Calls Try.prog 10 #[.pointer (some ⟨P, 0, none⟩)] w (RunsR w L) := by
  obtain ⟨ti, hi, hz0, hz1, hz2⟩ := info_parts infoRun
  have hpl := h.pc.q.pile
  have hsm := hpl.small
  have hlen : Hid (∀ j, j ≤ L.length → ((L.take j).map pr).length = j) := Lib.hid fun j hj => by rw [List.length_map, List.length_take]; omega
  have hst : Hid (∀ j, j < L.length → (L.take (j + 1)).map pr = (L.take j).map pr ++ [pr (L.getD j Rn.rn0)]) := Lib.hid fun j hj => by
    rw [List.take_succ_eq_append_getElem hj, List.map_append, List.getD_eq_getElem?_getD, List.getElem?_eq_getElem hj]; rfl
  have hfull : Hid ((L.take L.length).map pr = L.map pr) := Lib.hid (by rw [List.take_length])
  obtain ⟨s, cap, e⟩ := hpl.row.slice
  have hcell : Hid (∀ W, Below w.heap.size w W → ∀ j, j < L.length → ∃ bb off, s = some ⟨bb, off, none⟩ ∧ W.cell? ⟨bb, off + j, none⟩ = some (.pointer (some ⟨(L.getD j Rn.rn0).2.2, 0, none⟩)) ∧ W.cell? ⟨(L.getD j Rn.rn0).2.2, 0, none⟩ = some (.int .i64 (pr (L.getD j Rn.rn0)).1) ∧ W.cell? ⟨(L.getD j Rn.rn0).2.2, 1, none⟩ = some (.int .i64 (pr (L.getD j Rn.rn0)).2)) := Lib.hid fun W hW j hj => by
    have hpl := hpl.below hW
    obtain ⟨bb, off, cap', e', _, _, _, hc⟩ := hpl.place hj
    rw [e] at e'
    cases e'
    exact ⟨bb, off, rfl, (hc j hj).1, (hpl.cells hj).1, (hpl.cells hj).2.1⟩
  subst e
  have hc1 : Hid (∀ W, Below w.heap.size w W → W.cell? ⟨P, 1, none⟩ = some (.slice s L.length cap)) := Lib.hid fun W hW => (hpl.below hW).cell
  have c1 := hc1.out w (Below.refl _ _)
  clear h hpl
  generalize hl : L.length = l at *
  go_enter Try.func10, Try.ntmps10
  go_wp2_with (refine wpList_make_own _ rfl _ _ 29 rfl w.heap.size 34 ti (.agg #[.int .i64 0, .int .i64 0]) 2 Try.underlying29 hi hz0 hz1 .i64 .i64 _ l rfl rfl rfl (by rw [hz2]; omega) (by unfold maxLen; omega) (Nat.le_refl _) ?_; intro w1 hown1 hgrow1; have hb1 : Below w.heap.size w w1 := (Below.refl _ _).grown hgrow1 (Nat.le_refl _) (fun k hk => by cases hk); clear hgrow1; have how1 := Lib.hid (ow_new hown1 (Nat.le_refl _)); clear hown1; have c2 := hc1.out w1 hb1)
  go_loopw [3, 5, 19] (fun u x i wr => ∃ j : Nat, i = .int .i64 j ∧ j ≤ l ∧ Hid (Ow w.heap.size wr u ((L.take j).map pr)) ∧ Below w.heap.size w wr) (fun _ _ i _ => (l - (RowKit.intOf i).toNat))
  case atStart => exact ⟨0, rfl, by omega, how1, hb1⟩
  case round =>
    obtain ⟨j, rfl, j1, how, hb⟩ := hrel
    clear how1 hb1 c1 c2 hc1
    have hlj := hlen.out j j1
    by_cases hj : j < l
    · have i2 : (j : Int) < (l : Int) := by omega
      have i0 : (0 : Int) ≤ (j : Int) := by omega
      have hs := hst.out j hj
      obtain ⟨bb, off, rfl, d0, d1, d2⟩ := hcell.out wr hb j hj
      clear hcell hst hfull hlen
      generalize pr (L.getD j Rn.rn0) = x at *
      generalize (L.getD j Rn.rn0).2.2 = rb at *
      generalize (L.take j).map pr = A at *
      have hbs := hb.size
      have hkeep : Hid (∀ (W : World) (v' : Value), W.ownsRow w.heap.size 34 2 v' (j + 1) (fl A ++ [.int .i64 x.1, .int .i64 x.2]) → (wr.alloc (.cells #[.int .i64 x.1, .int .i64 x.2] 34)).grownBy W u3.ownBlock → Hid (Ow w.heap.size W v' ((L.take (j + 1)).map pr)) ∧ Below w.heap.size w W) := Lib.hid fun W v' ho hg => ⟨Lib.hid (by rw [hs]; exact ow_more (by rw [hlj]; exact ho)), (below_alloc hb _).trans (Below.grown (Below.refl _ _) hg (by show _ ≤ (wr.heap.push _).size; rw [Array.size_push]; omega) (fun r hr => (how.out.row.lt r hr).1))⟩
      have hown2 : Hid ((wr.alloc (.cells #[.int .i64 x.1, .int .i64 x.2] 34)).ownsRow w.heap.size 34 2 u3 j (fl A)) := Lib.hid (by have := how.out.row; rw [hlj] at this; exact this.alloc _)
      have hnew : Hid (∀ j' u', ([.int .i64 x.1, .int .i64 x.2] : List Value)[j']? = some u' → (wr.alloc (.cells #[.int .i64 x.1, .int .i64 x.2] 34)).cell? ((⟨wr.heap.size, 0, none⟩ : Addr).add j') = some u') := Lib.hid fun j' u' h => by
        rw [addr_add, Nat.zero_add]
        exact cell_of (heap_alloc_new wr _) (by rw [← h]; simp)
      clear how hs hlj hb
      generalize fl A = fa at *
      go_wp2_with (at_builtin; refine wpList_append_own _ rfl _ _ 29 rfl w.heap.size 34 ti (.agg #[.int .i64 0, .int .i64 0]) 2 16 Try.underlying29 hi hz0 hz1 hz2 rfl (by decide) _ j fa rfl hown2.out ⟨wr.heap.size, 0, none⟩ 1 1 [.int .i64 x.1, .int .i64 x.2] rfl rfl hnew.out (fun u hu => by simp at hu; rcases hu with rfl | rfl <;> rfl) (by unfold maxLen; omega) (by omega) (by show _ ≤ (wr.heap.push _).size; rw [Array.size_push]; omega) ?_; intro v' w3 hown3 hgrow hnil; clear hnil; obtain ⟨hk1, hk2⟩ := hkeep.out w3 v' hown3 hgrow; clear hgrow hown3)
      go_roundw
      case rel => exact ⟨j + 1, by go_num, by omega, hk1, hk2⟩
      case measure => simp [RowKit.intOf]; omega
    · obtain rfl : j = l := by omega
      have i2 : ¬ ((j : Int) < (j : Int)) := by omega
      obtain ⟨g, cp, rfl, cs⟩ := ow_end how.out hb (by omega)
      rw [hlj] at cs
      rw [hlj]
      rw [hfull.out] at cs
      clear how hcell hst hfull hlen hlj hb
      go_wp2_with fail
      with_reducible refine Calls.mono cs ?_
      rintro e w2 ⟨rfl, d, hd, q1, q2, q3, q4, q5, q6, q7⟩
      have hfin : Hid (RunsR w L (.returned (.slice (some ⟨g, 0, none⟩) d.size cp)) w2) := Lib.hid ⟨g, cp, d, rfl, q1, q2, q3, q4, q5, q6, q7⟩
      subst hd
      clear cs q1 q2 q3 q4 q5 q6 q7
      go_wp2_with fail
      go_ret
      exact hfin.out
end Pg
end Go.Proofs.Ytbheabjemaaeoab
