/- Grey objects as they lie in memory: a struct of 32 numbers and how many there are; what the calls of package buffer answer and make. -/
import Derived.Test.YtclldajbibhcbaaRow
import Derived.LaidEqlPtr
import Derived.Deep.QuietTactic
import Derived.BigQuiet
import Derived.RegionTactic
import Derived.Laws.CopyRow
import Derived.StillTailTactics
namespace Go.Proofs.Ytclldajbibhcbaa
open Go.RowKit Go.Lib Fx Ho Qu
set_option linter.unusedVariables false
namespace Bu
structure BufAt (w : World) (p : Nat) (A : Array Value) (F : Nat → Int) (L : List Int) : Prop where
  head : w.heap[p]? = some (.cells A 154 (0, 0))
  row : ∀ j, j < 32 → A[j]? = some (.int .i64 (F j))
  k : A[32]? = some (.int .i64 L.length)
  size : A.size = 33
  small : L.length ≤ 32
  elems : ∀ i, i < L.length → F i = L.getD i 0
def IsBuf (w : World) (p : Nat) (L : List Int) : Prop := ∃ A F, BufAt w p A F L
abbrev at_ (p : Nat) : Home := fun k => k = p
def Turns (r : Value) (w : World) (p : Nat) (L : List Int) (e : Ending) (w' : World) : Prop := e = .returned r ∧ Wrote (at_ p) w (at_ p) w' ∧ IsBuf w' p L
theorem get_set {A : Array Value} {i j : Nat} {u v : Value} (h : A[j]? = some v) (hij : i ≠ j) : (A.setIfInBounds i u)[j]? = some v := by
  rw [Array.getElem?_setIfInBounds_ne hij]; exact h
theorem get_same {A : Array Value} {i : Nat} {u v : Value} (h : A[i]? = some v) : (A.setIfInBounds i u)[i]? = some u := by
  have hi : i < A.size := by
    rcases Nat.lt_or_ge i A.size with h' | h'
    · exact h'
    · rw [Array.getElem?_eq_none h'] at h; cases h
  rw [Array.getElem?_setIfInBounds_self_of_lt hi]
theorem take_snoc (L : List Int) (g : Int) (i : Nat) (h : i < L.length + 1) : (L ++ [g]).getD i 0 = if i = L.length then g else L.getD i 0 := by
  by_cases e : i = L.length
  · subst e; rw [if_pos rfl, List.getD_eq_getElem?_getD, List.getElem?_append_right (Nat.le_refl _), Nat.sub_self]; rfl
  · rw [if_neg e, List.getD_eq_getElem?_getD, List.getD_eq_getElem?_getD, List.getElem?_append_left (by omega)]
namespace BufAt
variable {w w' : World} {p : Nat} {A : Array Value} {F : Nat → Int} {L : List Int} {H H' : Home}
theorem c0 (h : BufAt w p A F L) {j : Nat} (hj : j < 32) : w.cell? ⟨p, j, none⟩ = some (.int .i64 (F j)) := cell_of h.head (h.row j hj)
theorem c1 (h : BufAt w p A F L) : w.cell? ⟨p, 32, none⟩ = some (.int .i64 L.length) := cell_of h.head h.k
theorem fz (h : BufAt w p A F L) (j : Nat) : w.frozen? ⟨p, j, none⟩ = false := frozen_of_row w p j _ _ h.head
theorem wrote (h : BufAt w p A F L) (ht : Wrote H w H' w') (ho : ¬ H p) : BufAt w' p A F L :=
  ⟨by rw [ht.block p (block_lt h.head) ho]; exact h.head, h.row, h.k, h.size, h.small, h.elems⟩
theorem of_heap (h : BufAt w p A F L) (hh : w'.heap = w.heap) : BufAt w' p A F L := ⟨by rw [hh]; exact h.head, h.row, h.k, h.size, h.small, h.elems⟩
theorem is_ (h : BufAt w p A F L) : IsBuf w p L := ⟨A, F, h⟩
theorem elem (h : BufAt w p A F L) {i : Nat} (hi : i < L.length) : w.cell? ⟨p, i, none⟩ = some (.int .i64 (L.getD i 0)) := by
  have := h.small
  rw [h.c0 (by omega), h.elems i hi]
theorem pushed (h : BufAt w p A F L) (hl : L.length < 32) (g : Int) : BufAt ((w.setCell ⟨p, L.length, none⟩ (.int .i64 g)).setCell ⟨p, 32, none⟩ (.int .i64 (L.length + 1))) p
    ((A.setIfInBounds L.length (.int .i64 g)).setIfInBounds 32 (.int .i64 (L.length + 1))) (fun k => if k = L.length then g else F k) (L ++ [g]) := by
  refine ⟨heap_setCell_same _ p 32 _ _ _ (heap_setCell_same _ p _ _ _ _ h.head), fun k hk => ?_, ?_, by simp [h.size], ?_, fun i hi => ?_⟩
  · refine get_set (v := .int .i64 (if k = L.length then g else F k)) ?_ (by omega)
    by_cases e : k = L.length
    · rw [if_pos e, e]; exact get_same (h.row _ hl)
    · rw [if_neg e]; exact get_set (h.row k hk) (fun e2 => e e2.symm)
  · rw [get_same (get_set h.k (by omega)), List.length_append, List.length_singleton]; rfl
  · rw [List.length_append, List.length_singleton]; omega
  · rw [List.length_append, List.length_singleton] at hi
    rw [take_snoc L g i hi]
    by_cases e : i = L.length
    · rw [if_pos e, if_pos e]
    · rw [if_neg e, if_neg e]; exact h.elems i (by omega)
/-- The first n are left. -/
theorem cut (h : BufAt w p A F L) {n : Nat} (hn : n ≤ L.length) : BufAt (w.setCell ⟨p, 32, none⟩ (.int .i64 n)) p (A.setIfInBounds 32 (.int .i64 n)) F (L.take n) := by
  have hs := h.small
  have hl : (L.take n).length = n := by rw [List.length_take]; omega
  refine ⟨heap_setCell_same _ p 32 _ _ _ h.head, fun k hk => get_set (h.row k hk) (by omega), by rw [hl]; exact get_same h.k, by simp [h.size], by omega, fun i hi => ?_⟩
  rw [hl] at hi
  rw [h.elems i (by omega), List.getD_eq_getElem?_getD, List.getD_eq_getElem?_getD, List.getElem?_take_of_lt hi]
end BufAt
section
variable {p q : Nat} {L M : List Int} {w w' : World} {H H' : Home}
theorem IsBuf.lt (h : IsBuf w p L) : p < w.heap.size := by obtain ⟨A, F, h⟩ := h; exact block_lt h.head
theorem IsBuf.small (h : IsBuf w p L) : L.length ≤ 32 := by obtain ⟨A, F, h⟩ := h; exact h.small
theorem IsBuf.wrote (h : IsBuf w p L) (ht : Wrote H w H' w') (ho : ¬ H p) : IsBuf w' p L := by obtain ⟨A, F, h⟩ := h; exact ⟨A, F, h.wrote ht ho⟩
theorem IsBuf.below (h : IsBuf w p L) (hb : Below w.heap.size w w') : IsBuf w' p L := h.wrote (H := fun _ => False) (Wrote.of_below hb) (fun h => h)
def buf0 : Array Value := Array.replicate 33 (.int .i64 0)
theorem built0 : Try.prog.built 154 [] = some buf0 := by kernel_rfl
set_option maxRecDepth 100000 in
theorem new_any (w : World) : Calls Try.prog 66 #[] w fun e w' => e = .returned (.pointer (some ⟨w.heap.size, 0, none⟩)) ∧ Below w.heap.size w w' ∧ IsBuf w' w.heap.size [] := by
  have hend : Hid (IsBuf (w.alloc (.cells buf0 154)) w.heap.size []) :=
    ⟨buf0, fun _ => 0, heap_alloc_new _ _, fun j hj => by unfold buf0; rw [Array.getElem?_replicate, if_pos (by omega)], (show buf0[32]? = some (.int .i64 0) by kernel_rfl), by kernel_rfl, by simp, by simp⟩
  have hb := Lib.hid (below_alloc (Below.refl w.heap.size w) (.cells buf0 154))
  have h0 := built0
  generalize buf0 = R0 at *
  go_enter Try.func66, Try.ntmps66
  go_wp2_with (refine wpList_built rfl 154 #[] rfl R0 (by simpa using h0) ?_)
  go_ret
  exact ⟨rfl, hb.out, hend.out⟩
set_option maxRecDepth 100000 in
theorem len_nil (w : World) : Calls Try.prog 73 #[.pointer none] w (Still (.int .i64 0) w) := by
  go_enter Try.func73, Try.ntmps73
  go_wp2_with fail
  go_ret
  exact ⟨rfl, rfl⟩
set_option maxRecDepth 100000 in
theorem len_any (h : IsBuf w p L) : Calls Try.prog 73 #[.pointer (some ⟨p, 0, none⟩)] w (Still (.int .i64 L.length) w) := by
  obtain ⟨A, F, h⟩ := h
  have c1 := h.c1
  clear h
  generalize L.length = n at *
  go_enter Try.func73, Try.ntmps73
  go_wp2_with fail
  go_ret
  exact ⟨rfl, rfl⟩
set_option maxRecDepth 100000 in
theorem put_nil (g : Int) (w : World) : Calls Try.prog 67 #[.pointer none, .int .i64 g] w (Still (.bool false) w) := by
  go_enter Try.func67, Try.ntmps67
  go_wp2_with fail
  go_ret
  exact ⟨rfl, rfl⟩
set_option maxRecDepth 100000 in
theorem put_full (g : Int) (hl : L.length = 32) (h : IsBuf w p L) : Calls Try.prog 67 #[.pointer (some ⟨p, 0, none⟩), .int .i64 g] w (Still (.bool false) w) := by
  obtain ⟨A, F, h⟩ := h
  have c1 := h.c1
  rw [hl] at c1
  replace c1 : w.cell? ⟨p, 32, none⟩ = some (.int .i64 32) := c1
  clear h
  go_enter Try.func67, Try.ntmps67
  go_wp2_with fail
  go_ret
  exact ⟨rfl, rfl⟩
set_option maxRecDepth 100000 in
set_option maxHeartbeats 1000000 in
theorem put_room (g : Int) (hl : L.length < 32) (h : IsBuf w p L) : Calls Try.prog 67 #[.pointer (some ⟨p, 0, none⟩), .int .i64 g] w (Turns (.bool true) w p (L ++ [g])) := by
  obtain ⟨A, F, h⟩ := h
  have c1 := h.c1
  have c0 := h.c0 hl
  have f0 := h.fz L.length
  have f1 := h.fz 32
  have hfin : Hid (∀ W, W.heap = ((w.setCell ⟨p, L.length, none⟩ (.int .i64 g)).setCell ⟨p, 32, none⟩ (.int .i64 (L.length + 1))).heap → W.os = w.os → W.tape = w.tape → W.output = w.output → Wrote (at_ p) w (at_ p) W ∧ IsBuf W p (L ++ [g])) := fun W a1 a2 a3 a4 =>
    ⟨(wrote_setCell (H := at_ p) (a := ⟨p, L.length, none⟩) (u := .int .i64 g) rfl rfl rfl rfl rfl).trans (wrote_setCell (H := at_ p) (a := ⟨p, 32, none⟩) (u := .int .i64 (L.length + 1)) a1 a2 a3 a4 rfl), ((h.pushed hl g).of_heap a1).is_⟩
  clear h
  generalize F L.length = y at *
  unfold Turns
  have hl2 : (L.length : Int) < 32 := by omega
  have hl0 : (0 : Int) ≤ (L.length : Int) := by omega
  have hne : ((L.length : Int) == 32) = false := by rw [beq_eq_false_iff_ne]; omega
  have hne2 : L.length ≠ 32 := by omega
  generalize L.length = n at *
  go_enter Try.func67, Try.ntmps67
  go_wp2_with fail
  go_region
  all_goals go_wp2_with fail
  all_goals go_ret
  all_goals exact ⟨rfl, hfin.out _ rfl rfl rfl rfl⟩
set_option maxRecDepth 100000 in
theorem get_nil (w : World) : Calls Try.prog 69 #[.pointer none] w (Still (.tuple #[.int .i64 0, .bool false]) w) := by
  have cl := len_nil w
  go_enter Try.func69, Try.ntmps69
  go_wp2_with fail
  with_reducible refine Calls.mono cl ?_
  rintro e w1 ⟨rfl, rfl⟩
  go_wp2_with fail
  go_ret2
  exact ⟨rfl, rfl⟩
set_option maxRecDepth 100000 in
theorem get_none (h : IsBuf w p []) : Calls Try.prog 69 #[.pointer (some ⟨p, 0, none⟩)] w (Still (.tuple #[.int .i64 0, .bool false]) w) := by
  have cl := len_any h
  replace cl : Calls Try.prog 73 #[.pointer (some ⟨p, 0, none⟩)] w (Still (.int .i64 0) w) := cl
  go_enter Try.func69, Try.ntmps69
  go_wp2_with fail
  with_reducible refine Calls.mono cl ?_
  rintro e w1 ⟨rfl, rfl⟩
  go_wp2_with fail
  go_ret2
  exact ⟨rfl, rfl⟩
set_option maxRecDepth 100000 in
set_option maxHeartbeats 1000000 in
theorem get_some {n : Nat} (hn : L.length = n + 1) (h : IsBuf w p L) : Calls Try.prog 69 #[.pointer (some ⟨p, 0, none⟩)] w (Turns (.tuple #[.int .i64 (L.getD n 0), .bool true]) w p (L.take n)) := by
  have cl := len_any h
  obtain ⟨A, F, h⟩ := h
  have hs := h.small
  have c1 := h.c1
  have c0 := h.elem (i := n) (by omega)
  have f1 := h.fz 32
  have hfin : Hid (∀ W, W.heap = (w.setCell ⟨p, 32, none⟩ (.int .i64 n)).heap → W.os = w.os → W.tape = w.tape → W.output = w.output → Wrote (at_ p) w (at_ p) W ∧ IsBuf W p (L.take n)) := fun W a1 a2 a3 a4 =>
    ⟨wrote_setCell (H := at_ p) (a := ⟨p, 32, none⟩) (u := .int .i64 n) a1 a2 a3 a4 rfl, ((h.cut (by omega)).of_heap a1).is_⟩
  clear h
  generalize L.getD n 0 = y at *
  unfold Turns
  rw [hn] at cl c1
  push_cast at cl c1
  have hn2 : n < 32 := by omega
  have hn3 : (n : Int) < 32 := by omega
  have hn0 : (0 : Int) ≤ (n : Int) := by omega
  have e1 : (n : Int) + 1 - 1 = (n : Int) := by omega
  have g1 : (((n : Int) + 1) == 0) = false := by rw [beq_eq_false_iff_ne]; omega
  have hne : n ≠ 32 := by omega
  have hne2 : 32 ≠ n := by omega
  clear hn hs
  go_enter Try.func69, Try.ntmps69
  go_wp2_with fail
  with_reducible refine Calls.mono cl ?_
  rintro e w1 ⟨rfl, rfl⟩
  go_wp2_with fail
  go_quiet (fail)
  go_wp2_with fail
  go_ret2
  exact ⟨rfl, hfin.out _ rfl rfl rfl rfl⟩
set_option maxRecDepth 100000 in
theorem all_any (h : IsBuf w p L) : Calls Try.prog 75 #[.pointer (some ⟨p, 0, none⟩)] w fun e w' => ∃ v', e = .returned v' ∧ Below w.heap.size w w' ∧ w'.ownsRow w.heap.size 3 1 v' L.length (cells L) := by
  obtain ⟨A, F, h⟩ := h
  have hs := h.small
  have c1 := h.c1
  have cc : Hid (∀ n, L.length = n → ∀ c, Calls Try.prog 106 #[.slice (some ⟨p, 0, none⟩) n 32] (w.drewN c) fun e w' => ∃ v', e = .returned v' ∧ Below w.heap.size w w' ∧ w'.ownsRow w.heap.size 3 1 v' n (cells L)) := fun n hn c =>
    (clone_any (w := w.drewN c) hn (by omega) (fun i hi => by rw [Nat.zero_add]; exact h.elem (by omega))).mono fun _ _ ⟨v', a, b, d⟩ => ⟨v', a, (below_drewN (Below.refl _ _) c).trans b, d⟩
  clear h
  have cc2 := Lib.hid (cc.out _ rfl)
  clear cc
  have hs3 : (L.length : Int) ≤ 32 := by omega
  have hs0 : (0 : Int) ≤ (L.length : Int) := by omega
  generalize cells L = C at *
  generalize L.length = n at *
  go_enter Try.func75, Try.ntmps75
  go_wp2_with fail
  go_still_tail 8, (by kernel_rfl)
  change wpList _ _ _ _ _ w.drew
  have cw := cc2.out 1
  replace cw : Calls Try.prog 106 #[.slice (some ⟨p, 0, none⟩) n 32] w.drew _ := cw
  clear cc2
  go_wp2_with fail
  with_reducible refine Calls.mono cw ?_
  rintro e w2 ⟨v', rfl, hb, ho⟩
  obtain ⟨sp, cap, rfl⟩ := own_slice ho
  go_wp2_with fail
  go_ret
  exact ⟨_, rfl, hb, ho⟩
theorem infoB : ((Try.prog.info? 154).map (·.size)) = some 33 := by kernel_rfl
theorem eq_same (p : Nat) (w : World) : (binOp .eql 83 (.pointer (some ⟨p, 0, none⟩)) (.pointer (some ⟨p, 0, none⟩))).run Try.prog w = .ok (.bool true) w := by
  obtain ⟨j, hj, _⟩ := Option.map_eq_some_iff.1 infoB
  exact run_eql_ptr_same w _ Try.underlying83 hj
theorem eq_other (hpq : p ≠ q) (h : IsBuf w p L) (h2 : IsBuf w q M) : (binOp .eql 83 (.pointer (some ⟨p, 0, none⟩)) (.pointer (some ⟨q, 0, none⟩))).run Try.prog w = .ok (.bool false) w := by
  obtain ⟨j, hj, hs⟩ := Option.map_eq_some_iff.1 infoB
  obtain ⟨A, F, h⟩ := h
  obtain ⟨A2, F2, h2⟩ := h2
  exact run_eql_ptr_other w Try.underlying83 hj (by omega) (fun e => hpq (congrArg Addr.block e)) h.head h2.head
abbrev both (p q : Nat) : Home := fun k => k = p ∨ k = q
theorem wrote_left {a b : World} (h : Wrote (at_ p) a (at_ p) b) : Wrote (both p q) a (both p q) b :=
  ⟨h.os, h.tape, h.output, h.size, fun k hk hn => h.block k hk (fun e => hn (Or.inl e)), fun _ h => Or.inl h⟩
theorem wrote_right {a b : World} (h : Wrote (at_ q) a (at_ q) b) : Wrote (both p q) a (both p q) b :=
  ⟨h.os, h.tape, h.output, h.size, fun k hk hn => h.block k hk (fun e => hn (Or.inr e)), fun _ h => Or.inl h⟩
def Turns2 (r : Value) (w : World) (p q : Nat) (L M : List Int) (e : Ending) (w' : World) : Prop :=
  e = .returned r ∧ Wrote (both p q) w (both p q) w' ∧ IsBuf w' p L ∧ IsBuf w' q M
set_option maxRecDepth 100000 in
theorem half_no {n : Nat} (hn : L.length / 2 = n) (hno : 32 < n + M.length) (hpq : p ≠ q) (h : IsBuf w p L) (h2 : IsBuf w q M) : Calls Try.prog 71 #[.pointer (some ⟨p, 0, none⟩), .pointer (some ⟨q, 0, none⟩)] w (Still (.int .i64 0) w) := by
  have he := eq_other hpq h h2
  have hs := h.small
  have hs2 := h2.small
  obtain ⟨A, F, h⟩ := h
  obtain ⟨A2, F2, h2⟩ := h2
  have c1 := h.c1
  have d1 := h2.c1
  have e1 : (L.length : Int) / 2 = (n : Int) := by omega
  have g1 : 32 - (M.length : Int) < (n : Int) := by omega
  have hl0 : (0 : Int) ≤ (L.length : Int) := by omega
  have hm0 : (0 : Int) ≤ (M.length : Int) := by omega
  clear h h2 hn
  generalize L.length = l at *
  generalize M.length = m at *
  go_enter Try.func71, Try.ntmps71
  go_wp2_with fail
  go_ret
  exact ⟨rfl, rfl⟩
/-- A part of a block is laid anew, the rest of it is as it was. -/
theorem copied {A2 : Array Value} {F2 : Nat → Int} {n k : Nat} (hl : L.length = k + n) (hM : M.length + n ≤ 32) (h2 : BufAt w q A2 F2 M) {W : World}
    (hh : W.heap[q]? = some (.cells (A2.toList.take M.length ++ cells (L.drop k) ++ A2.toList.drop (M.length + (cells (L.drop k)).length)).toArray 154 (0, 0))) :
    ∃ (A3 : Array Value) (F3 : Nat → Int), W.heap[q]? = some (.cells A3 154 (0, 0)) ∧ A3.size = 33 ∧ A3[32]? = some (.int .i64 M.length) ∧ (∀ j, j < 32 → A3[j]? = some (.int .i64 (F3 j))) ∧ ∀ i, i < (M ++ L.drop k).length → F3 i = (M ++ L.drop k).getD i 0 := by
  have hd : (L.drop k).length = n := by rw [List.length_drop]; omega
  have hcd : (cells (L.drop k)).length = n := by rw [cells_len, hd]
  have hs := h2.size
  have hAl : A2.toList.length = 33 := by rw [Array.length_toList, hs]
  have htl : (A2.toList.take M.length).length = M.length := by rw [List.length_take]; omega
  have at_ : ∀ j, (A2.toList.take M.length ++ cells (L.drop k) ++ A2.toList.drop (M.length + (cells (L.drop k)).length)).toArray[j]? = if j < M.length then A2[j]? else if j < M.length + n then (cells (L.drop k))[j - M.length]? else A2[j]? := fun j => by
    rw [List.getElem?_toArray]
    by_cases h1 : j < M.length
    · rw [if_pos h1, List.getElem?_append_left (by rw [List.length_append]; omega), List.getElem?_append_left (by omega), List.getElem?_take_of_lt h1, Array.getElem?_toList]
    · rw [if_neg h1]
      by_cases h3 : j < M.length + n
      · rw [if_pos h3, List.getElem?_append_left (by rw [List.length_append]; omega), List.getElem?_append_right (by omega), htl]
      · rw [if_neg h3, List.getElem?_append_right (by rw [List.length_append]; omega), List.getElem?_drop, List.length_append, htl, hcd, show M.length + n + (j - (M.length + n)) = j by omega, Array.getElem?_toList]
  have hc : ∀ j, M.length ≤ j → j < M.length + n → (cells (L.drop k))[j - M.length]? = some (.int .i64 ((L.drop k).getD (j - M.length) 0)) := fun j h1 h3 => by
    unfold cells
    rw [List.getElem?_map, List.getD_eq_getElem?_getD, List.getElem?_eq_getElem (by omega)]; rfl
  refine ⟨_, fun j => if j < M.length then F2 j else if j < M.length + n then (L.drop k).getD (j - M.length) 0 else F2 j, hh, ?_, ?_, fun j hj => ?_, fun i hi => ?_⟩
  · simp only [List.size_toArray, List.length_append, List.length_drop, htl, hcd, hAl]; omega
  · rw [at_ 32, if_neg (by have := h2.small; omega), if_neg (by omega)]; exact h2.k
  · rw [at_ j]
    by_cases h1 : j < M.length
    · simp only [if_pos h1]; exact h2.row j hj
    · simp only [if_neg h1]
      by_cases h3 : j < M.length + n
      · simp only [if_pos h3]; exact hc j (by omega) h3
      · simp only [if_neg h3]; exact h2.row j hj
  · rw [List.length_append, hd] at hi
    by_cases h1 : i < M.length
    · simp only [if_pos h1]
      rw [h2.elems i h1, List.getD_eq_getElem?_getD, List.getD_eq_getElem?_getD, List.getElem?_append_left h1]
    · simp only [if_neg h1, if_pos (show i < M.length + n by omega)]
      rw [List.getD_eq_getElem?_getD, List.getD_eq_getElem?_getD, List.getElem?_append_right (by omega)]
theorem step_copy_part {P : Program} {ops : Array Oper} {o : Oper} {a : Act} {w : World} {K : Act → World → Prop} {Q : Exit → Act → World → Prop} {E : Prop} (hgd : o.guard = none) (d s : Operand) (dT sT : TypeId)
    (ho : o.op = .call { callee := .builtin .copy, args := #[d, s], argTypes := #[dT, sT] }) (elem : TypeId) (hu : P.underlying dT = some (.slice elem)) (hsz : (P.info? elem).map (·.size) = some 1)
    (g off dl dc g2 off2 m c2 : Nat) (hd : a.eval d = .slice (some ⟨g, off, none⟩) dl dc) (hs : a.eval s = .slice (some ⟨g2, off2, none⟩) m c2) (hle : m ≤ dl)
    (cur : Array Value) (t : TypeId) (hg : w.heap[g]? = some (.cells cur t (0, 0))) (cs : List Value) (hn : cs.length = m) (hfit : off + cs.length ≤ cur.size)
    (hsrc : ∀ j v, cs[j]? = some v → w.cell? ⟨g2, off2 + j, none⟩ = some v) (h1 : ∀ v ∈ cs, v.oneCell' = true)
    (h : ∀ W, W = w.setRow g (cur.toList.take off ++ cs ++ cur.toList.drop (off + cs.length)).toArray → K (a.put o.dst (goInt cs.length)) W) :
    if Region.wanted o (yielded ops a.tmps) = true then Oper.wp P o a w K Q else E := by
  have hw : Region.wanted o (yielded ops a.tmps) = true := by simp [Region.wanted, hgd]
  rw [if_pos hw]
  have hrun := run_copy_row (P := P) w dT sT o.type elem g off dl dc ⟨g2, off2, none⟩ m c2 cur t cs hu hsz hg (by rw [hn]; exact (Nat.min_eq_left hle).symm) (fun j v hj => by rw [addr_add]; exact hsrc j v hj) hfit h1
  unfold Oper.wp
  simp [execOp, ho, resolve, invoke, builtin, hd, hs, hrun, Result.andThen]
  exact h _ (by rw [List.append_assoc])
set_option maxRecDepth 100000 in
set_option maxHeartbeats 1000000 in
theorem half_any {n k : Nat} (hn : L.length / 2 = n) (hk : L.length = k + n) (hroom : n + M.length ≤ 32) (hpq : p ≠ q) (h : IsBuf w p L) (h2 : IsBuf w q M) (hm32 : M.length < 32) : Calls Try.prog 71 #[.pointer (some ⟨p, 0, none⟩), .pointer (some ⟨q, 0, none⟩)] w (Turns2 (.int .i64 n) w p q (L.take k) (M ++ L.drop k)) := by
  have he := eq_other hpq h h2
  have hs := h.small
  obtain ⟨A, F, h⟩ := h
  obtain ⟨A2, F2, h2⟩ := h2
  have c1 := h.c1
  have d1 := h2.c1
  have hcd : (cells (L.drop k)).length = n := by rw [cells_len, List.length_drop]; omega
  have hone := Lib.hid (cells_one (L.drop k))
  have hhd := Lib.hid h2.head
  have hsz := Lib.hid h2.size
  have hsrc : Hid (∀ (c : Nat) (j : Nat) (v : Value), (cells (L.drop k))[j]? = some v → (w.drewN c).cell? ⟨p, k + j, none⟩ = some v) := fun c j v hj => by
    have hl := (List.getElem?_eq_some_iff.1 hj).1
    refine (h.elem (i := k + j) (by omega)).trans ?_
    rw [← hj]
    unfold cells
    rw [List.getElem?_map, List.getElem?_drop, List.getD_eq_getElem?_getD, List.getElem?_eq_getElem (by omega)]; rfl
  have key : Hid (∀ (c : Nat) W1, W1 = (w.drewN c).setRow q (A2.toList.take M.length ++ cells (L.drop k) ++ A2.toList.drop (M.length + (cells (L.drop k)).length)).toArray →
      W1.cell? ⟨q, 32, none⟩ = some (.int .i64 M.length) ∧ W1.cell? ⟨p, 32, none⟩ = some (.int .i64 L.length) ∧ W1.frozen? ⟨q, 32, none⟩ = false ∧ W1.frozen? ⟨p, 32, none⟩ = false ∧
      Hid (∀ W, W.heap = ((W1.setCell ⟨q, 32, none⟩ (.int .i64 (M.length + n))).setCell ⟨p, 32, none⟩ (.int .i64 k)).heap → W.os = W1.os → W.tape = W1.tape → W.output = W1.output → Wrote (both p q) w (both p q) W ∧ IsBuf W p (L.take k) ∧ IsBuf W q (M ++ L.drop k))) := fun c W1 hW1 => by
    have hh : W1.heap[q]? = some (.cells (A2.toList.take M.length ++ cells (L.drop k) ++ A2.toList.drop (M.length + (cells (L.drop k)).length)).toArray 154 (0, 0)) := by
      rw [hW1]; exact setRow_heap (w.drewN c) q _ _ _ _ h2.head
    have hp1 : W1.heap[p]? = some (.cells A 154 (0, 0)) := by
      rw [hW1]; exact (setRow_other (w.drewN c) q p _ hpq).trans h.head
    have h1 : BufAt W1 p A F L := ⟨hp1, h.row, h.k, h.size, h.small, h.elems⟩
    obtain ⟨A3, F3, b1, b2, b3, b4, b5⟩ := copied hk (by omega) h2 hh
    have hw1 : Wrote (at_ q) w (at_ q) W1 := by
      rw [hW1]
      exact ⟨rfl, rfl, rfl, by show _ ≤ ((w.drewN c).setRow q _).heap.size; simp [World.setRow], fun j hj hne => setRow_other (w.drewN c) q j _ hne, fun _ h => Or.inl h⟩
    refine ⟨cell_of b1 b3, h1.c1, frozen_of_row _ _ _ _ _ b1, h1.fz _, fun W a1 a2 a3 a4 => ?_⟩
    have hlen : (M ++ L.drop k).length = M.length + n := by rw [List.length_append, List.length_drop]; omega
    have hw2 : Wrote (at_ q) W1 (at_ q) (W1.setCell ⟨q, 32, none⟩ (.int .i64 (M.length + n))) := wrote_setCell (H := at_ q) (a := ⟨q, 32, none⟩) (u := .int .i64 (M.length + n)) rfl rfl rfl rfl rfl
    have hq2 : BufAt (W1.setCell ⟨q, 32, none⟩ (.int .i64 (M.length + n))) q (A3.setIfInBounds 32 (.int .i64 (M.length + n))) F3 (M ++ L.drop k) :=
      ⟨heap_setCell_same _ q 32 _ _ _ b1, fun j hj => get_set (b4 j hj) (by omega), by rw [get_same b3, hlen]; rfl, by simp [b2], by omega, b5⟩
    have h2' := h1.wrote hw2 hpq
    have hw3 : Wrote (at_ p) (W1.setCell ⟨q, 32, none⟩ (.int .i64 (M.length + n))) (at_ p) W := wrote_setCell (H := at_ p) (a := ⟨p, 32, none⟩) (u := .int .i64 k) a1 a2 a3 a4 rfl
    exact ⟨(wrote_right (hw1.trans hw2)).trans (wrote_left hw3), ((h2'.cut (show k ≤ L.length by omega)).of_heap a1).is_, (hq2.wrote hw3 (fun e => hpq e.symm)).is_⟩
  have e1 : (L.length : Int) / 2 = (n : Int) := by omega
  have e2 : (L.length : Int) - (n : Int) = (k : Int) := by omega
  have g1 : ¬ (32 - (M.length : Int) < (n : Int)) := by omega
  have hl0 : (0 : Int) ≤ (L.length : Int) := by omega
  have hm0 : (0 : Int) ≤ (M.length : Int) := by omega
  have hl1 : (L.length : Int) ≤ 32 := by omega
  have hm1 : (M.length : Int) < 32 := by omega
  have hk0 : (0 : Int) ≤ (k : Int) := by omega
  have hk1 : (k : Int) ≤ (L.length : Int) := by omega
  have hk2 : k ≤ 32 := by omega
  have hk3 : k < 32 := by omega
  have hln : L.length - k = n := by omega
  have hk4 : ¬ 32 = k := by omega
  have hm2 : (M.length : Int) ≤ 32 := by omega
  have hm3 : M.length ≤ 32 := by omega
  have hm4 : ¬ M.length = 32 := by omega
  have hm5 : ¬ 32 = M.length := by omega
  have hm6 : 32 - M.length ≠ 0 := by omega
  have hwk : IntKind.i64.wrap (k : Int) = (k : Int) := IntWalk.i64_in _ ⟨by omega, by omega⟩
  clear hk
  clear h h2 hn
  have hfit : M.length + n ≤ 33 := by omega
  generalize cells (L.drop k) = CD at *
  generalize L.take k = LT at *
  generalize M ++ L.drop k = MD at *
  generalize L.length = l at *
  generalize M.length = m at *
  unfold Turns2
  go_enter Try.func71, Try.ntmps71
  go_wp2_with fail
  go_region_law (refine step_copy_part rfl (.tmp 36) (.tmp 50) 26 26 rfl 3 Try.underlying26 (by kernel_rfl) q m (32 - m) (32 - m) p k n (32 - k) rfl rfl (by omega) A2 154 hhd.out CD hcd (by rw [hsz.out]; omega) (hsrc.out 1) hone.out ?_; intro W1 hW1; have hk := key.out 1 W1 hW1; obtain ⟨f0, f1, f2, f3, hfin⟩ := hk; clear hW1 key hsrc c1 d1)
  all_goals go_wp2_with fail
  all_goals go_ret
  all_goals exact ⟨rfl, hfin.out _ rfl rfl rfl rfl⟩
end
end Bu
end Go.Proofs.Ytclldajbibhcbaa
