/- What is noted, as it lies in memory: a struct of 16 pairs and how many there are; what the calls of package barrier answer and make. -/
import Derived.Test.YtejijddhmckgiaaQueueDel
import Derived.Deep.QuietTactic
import Derived.BigQuiet
import Derived.RegionTactic
import Derived.StillTailTactics
namespace Go.Proofs.Ytejijddhmckgiaa
open Go.RowKit Go.Lib Fx Ho Qu Rw
set_option linter.unusedVariables false
namespace Ba
abbrev at_ (p : Nat) : Home := fun k => k = p
abbrev Pairs := List (Int × Int)
structure BarAt (w : World) (p : Nat) (A : Array Value) (F G : Nat → Int) (L : Pairs) : Prop where
  head : w.heap[p]? = some (.cells A 97 (0, 0))
  row : ∀ j, j < 16 → A[j * 2]? = some (.int .i64 (F j)) ∧ A[j * 2 + 1]? = some (.int .i64 (G j))
  k : A[32]? = some (.int .i64 L.length)
  small : L.length ≤ 16
  elems : ∀ i, i < L.length → (F i, G i) = L.getD i (0, 0)
def IsBar (w : World) (p : Nat) (L : Pairs) : Prop := ∃ A F G, BarAt w p A F G L
def Turns (r : Value) (w : World) (p : Nat) (L : Pairs) (e : Ending) (w' : World) : Prop := e = .returned r ∧ Wrote (at_ p) w (at_ p) w' ∧ IsBar w' p L
theorem get_set {A : Array Value} {i j : Nat} {u v : Value} (h : A[j]? = some v) (hij : i ≠ j) : (A.setIfInBounds i u)[j]? = some v := by
  rw [Array.getElem?_setIfInBounds_ne hij]; exact h
theorem get_same {A : Array Value} {i : Nat} {u v : Value} (h : A[i]? = some v) : (A.setIfInBounds i u)[i]? = some u := by
  have hi : i < A.size := by
    rcases Nat.lt_or_ge i A.size with h' | h'
    · exact h'
    · rw [Array.getElem?_eq_none h'] at h; cases h
  rw [Array.getElem?_setIfInBounds_self_of_lt hi]
namespace BarAt
variable {w w' : World} {p : Nat} {A : Array Value} {F G : Nat → Int} {L : Pairs} {H H' : Home}
theorem c1 (h : BarAt w p A F G L) : w.cell? ⟨p, 32, none⟩ = some (.int .i64 L.length) := cell_of h.head h.k
theorem fz (h : BarAt w p A F G L) (j : Nat) : w.frozen? ⟨p, j, none⟩ = false := frozen_of_row w p j _ _ h.head
theorem wrote (h : BarAt w p A F G L) (ht : Wrote H w H' w') (ho : ¬ H p) : BarAt w' p A F G L := ⟨by rw [ht.block p (block_lt h.head) ho]; exact h.head, h.row, h.k, h.small, h.elems⟩
theorem of_heap (h : BarAt w p A F G L) (hh : w'.heap = w.heap) : BarAt w' p A F G L := ⟨by rw [hh]; exact h.head, h.row, h.k, h.small, h.elems⟩
theorem is_ (h : BarAt w p A F G L) : IsBar w p L := ⟨A, F, G, h⟩
theorem pushed (h : BarAt w p A F G L) (hl : L.length < 16) (a b : Int) : BarAt (((w.setCell ⟨p, L.length * 2, none⟩ (.int .i64 a)).setCell ⟨p, L.length * 2 + 1, none⟩ (.int .i64 b)).setCell ⟨p, 32, none⟩ (.int .i64 (L.length + 1))) p
    (((A.setIfInBounds (L.length * 2) (.int .i64 a)).setIfInBounds (L.length * 2 + 1) (.int .i64 b)).setIfInBounds 32 (.int .i64 (L.length + 1))) (fun k => if k = L.length then a else F k) (fun k => if k = L.length then b else G k) (L ++ [(a, b)]) := by
  refine ⟨heap_setCell_same _ p 32 _ _ _ (heap_setCell_same _ p _ _ _ _ (heap_setCell_same _ p _ _ _ _ h.head)), fun k hk => ?_, ?_, ?_, fun i hi => ?_⟩
  · have hr := h.row k hk
    by_cases e : k = L.length
    · subst e
      simp only [if_pos]
      exact ⟨get_set (get_set (get_same hr.1) (by omega)) (by omega), get_set (get_same (get_set hr.2 (by omega))) (by omega)⟩
    · simp only [if_neg e]
      exact ⟨get_set (get_set (get_set hr.1 (by omega)) (by omega)) (by omega), get_set (get_set (get_set hr.2 (by omega)) (by omega)) (by omega)⟩
  · rw [get_same (get_set (get_set h.k (by omega)) (by omega)), List.length_append, List.length_singleton]; rfl
  · rw [List.length_append, List.length_singleton]; omega
  · rw [List.length_append, List.length_singleton] at hi
    by_cases e : i = L.length
    · subst e
      simp only [if_pos]
      rw [List.getD_eq_getElem?_getD, List.getElem?_append_right (Nat.le_refl _), Nat.sub_self]; rfl
    · simp only [if_neg e]
      rw [List.getD_eq_getElem?_getD, List.getElem?_append_left (by omega), ← List.getD_eq_getElem?_getD]
      exact h.elems i (by omega)
theorem emptied (h : BarAt w p A F G L) : BarAt (w.setCell ⟨p, 32, none⟩ (.int .i64 0)) p (A.setIfInBounds 32 (.int .i64 0)) F G [] :=
  ⟨heap_setCell_same _ p 32 _ _ _ h.head, fun k hk => ⟨get_set (h.row k hk).1 (by omega), get_set (h.row k hk).2 (by omega)⟩, get_same h.k, by simp, by simp⟩
end BarAt
section
variable {p : Nat} {L : Pairs} {w w' : World} {H H' : Home}
theorem IsBar.lt (h : IsBar w p L) : p < w.heap.size := by obtain ⟨A, F, G, h⟩ := h; exact block_lt h.head
theorem IsBar.small (h : IsBar w p L) : L.length ≤ 16 := by obtain ⟨A, F, G, h⟩ := h; exact h.small
theorem IsBar.wrote (h : IsBar w p L) (ht : Wrote H w H' w') (ho : ¬ H p) : IsBar w' p L := by obtain ⟨A, F, G, h⟩ := h; exact ⟨A, F, G, h.wrote ht ho⟩
theorem IsBar.below (h : IsBar w p L) (hb : Below w.heap.size w w') : IsBar w' p L := h.wrote (H := fun _ => False) (Wrote.of_below hb) (fun h => h)
def bar0 : Array Value := Array.replicate 33 (.int .i64 0)
theorem built0 : Try.prog.built 97 [] = some bar0 := by kernel_rfl
set_option maxRecDepth 100000 in
theorem new_any (w : World) : Calls Try.prog 10 #[] w fun e w' => e = .returned (.pointer (some ⟨w.heap.size, 0, none⟩)) ∧ Below w.heap.size w w' ∧ IsBar w' w.heap.size [] := by
  have h32 : bar0[32]? = some (.int .i64 0) := by kernel_rfl
  have hend : Hid (IsBar (w.alloc (.cells bar0 97)) w.heap.size []) :=
    ⟨bar0, fun _ => 0, fun _ => 0, ⟨heap_alloc_new _ _, fun j hj => ⟨by unfold bar0; rw [Array.getElem?_replicate, if_pos (by omega)], by unfold bar0; rw [Array.getElem?_replicate, if_pos (by omega)]⟩, h32, by simp, by simp⟩⟩
  have hb := Lib.hid (below_alloc (Below.refl w.heap.size w) (.cells bar0 97))
  have h0 := built0
  clear h32
  generalize bar0 = R0 at *
  go_enter Try.func10, Try.ntmps10
  go_wp2_with (refine wpList_built rfl 97 #[] rfl R0 (by simpa using h0) ?_)
  go_ret
  exact ⟨rfl, hb.out, hend.out⟩
set_option maxRecDepth 100000 in
theorem len_nil (w : World) : Calls Try.prog 14 #[.pointer none] w (Still (.int .i64 0) w) := by
  go_enter Try.func14, Try.ntmps14
  go_wp2_with fail
  go_ret
  exact ⟨rfl, rfl⟩
set_option maxRecDepth 100000 in
theorem flush_nil (w : World) : Calls Try.prog 16 #[.pointer none] w (Still (.slice none 0 0) w) := by
  go_enter Try.func16, Try.ntmps16
  go_wp2_with fail
  go_ret
  exact ⟨rfl, rfl⟩
set_option maxRecDepth 100000 in
theorem len_any (h : IsBar w p L) : Calls Try.prog 14 #[.pointer (some ⟨p, 0, none⟩)] w (Still (.int .i64 L.length) w) := by
  obtain ⟨A, F, G, h⟩ := h
  have c1 := h.c1
  clear h
  generalize L.length = n at *
  go_enter Try.func14, Try.ntmps14
  go_wp2_with fail
  go_ret
  exact ⟨rfl, rfl⟩
set_option maxRecDepth 100000 in
theorem put_full (a b : Int) (hl : L.length = 16) (h : IsBar w p L) : Calls Try.prog 11 #[.pointer (some ⟨p, 0, none⟩), .int .i64 a, .int .i64 b] w (Still (.bool false) w) := by
  obtain ⟨A, F, G, h⟩ := h
  have c1 := h.c1
  rw [hl] at c1
  replace c1 : w.cell? ⟨p, 32, none⟩ = some (.int .i64 16) := c1
  clear h
  go_enter Try.func11, Try.ntmps11
  go_wp2_with fail
  go_ret
  exact ⟨rfl, rfl⟩
set_option maxRecDepth 100000 in
theorem put_zero (hl : L.length < 16) (h : IsBar w p L) : Calls Try.prog 11 #[.pointer (some ⟨p, 0, none⟩), .int .i64 0, .int .i64 0] w (Turns (.bool true) w p L) := by
  have hfin : Hid (Wrote (at_ p) w (at_ p) (w.alloc (.cells #[.int .i64 0, .int .i64 0] 31)) ∧ IsBar (w.alloc (.cells #[.int .i64 0, .int .i64 0] 31)) p L) :=
    ⟨Wrote.of_below (below_alloc (Below.refl _ _) _), h.below (below_alloc (Below.refl _ _) _)⟩
  obtain ⟨A, F, G, h⟩ := h
  have c1 := h.c1
  have hne2 : ((L.length : Int) == 16) = false := by rw [beq_eq_false_iff_ne]; omega
  have hnn : L.length ≠ 16 := by omega
  clear h
  unfold Turns
  generalize L.length = n at *
  go_enter Try.func11, Try.ntmps11
  go_wp2_with fail
  go_ret
  exact ⟨rfl, hfin.out⟩
set_option maxRecDepth 100000 in
set_option maxHeartbeats 1000000 in
theorem put_room (a b : Int) (hab : ¬ (a = 0 ∧ b = 0)) (hl : L.length < 16) (h : IsBar w p L) : Calls Try.prog 11 #[.pointer (some ⟨p, 0, none⟩), .int .i64 a, .int .i64 b] w (Turns (.bool true) w p (L ++ [(a, b)])) := by
  obtain ⟨A, F, G, h⟩ := h
  have c1 := h.c1
  have hb := below_alloc (Below.refl w.heap.size w) (.cells #[.int .i64 a, .int .i64 b] 31)
  have h2 := h.wrote (H := fun _ => False) (Wrote.of_below hb) (fun h => h)
  have d1 := h2.c1
  have d2 := cell_of h2.head (h2.row L.length hl).1
  have d3 := cell_of h2.head (h2.row L.length hl).2
  have f1 := h2.fz 32
  have f2 := h2.fz (L.length * 2)
  have f3 := h2.fz (L.length * 2 + 1)
  have hfin : Hid (∀ W, W.heap = ((((w.alloc (.cells #[.int .i64 a, .int .i64 b] 31)).setCell ⟨p, L.length * 2, none⟩ (.int .i64 a)).setCell ⟨p, L.length * 2 + 1, none⟩ (.int .i64 b)).setCell ⟨p, 32, none⟩ (.int .i64 (L.length + 1))).heap → W.os = w.os → W.tape = w.tape → W.output = w.output → Wrote (at_ p) w (at_ p) W ∧ IsBar W p (L ++ [(a, b)])) := fun W a1 a2 a3 a4 => by
    refine ⟨(Wrote.of_below hb).trans (((wrote_setCell (H := at_ p) (a := ⟨p, L.length * 2, none⟩) (u := .int .i64 a) rfl rfl rfl rfl rfl).trans (wrote_setCell (H := at_ p) (a := ⟨p, L.length * 2 + 1, none⟩) (u := .int .i64 b) rfl rfl rfl rfl rfl)).trans (wrote_setCell (H := at_ p) (a := ⟨p, 32, none⟩) (u := .int .i64 (L.length + 1)) a1 a2 a3 a4 rfl)), ((h2.pushed hl a b).of_heap a1).is_⟩
  clear h h2 hb
  generalize F L.length = x at *
  generalize G L.length = y at *
  have hne2 : ((L.length : Int) == 16) = false := by rw [beq_eq_false_iff_ne]; omega
  have hnn : L.length ≠ 16 := by omega
  have hn2 : (L.length : Int) < 16 := by omega
  have hn0 : (0 : Int) ≤ (L.length : Int) := by omega
  have hx1 : ¬ (L.length * 2 = 32) := by omega
  have hx2 : ¬ (32 = L.length * 2) := by omega
  have hx3 : ¬ (L.length * 2 + 1 = 32) := by omega
  have hx4 : ¬ (32 = L.length * 2 + 1) := by omega
  unfold Turns
  generalize L.length = n at *
  by_cases ha : a = 0
  · have hb0 : ¬ b = 0 := fun e => hab ⟨ha, e⟩
    subst ha
    clear hab
    go_enter Try.func11, Try.ntmps11
    go_wp2_with fail
    go_region
    all_goals go_wp2_with fail
    all_goals go_ret
    all_goals exact ⟨rfl, hfin.out _ rfl rfl rfl rfl⟩
  · clear hab
    go_enter Try.func11, Try.ntmps11
    go_wp2_with fail
    go_region
    all_goals go_wp2_with fail
    all_goals go_ret
    all_goals exact ⟨rfl, hfin.out _ rfl rfl rfl rfl⟩
/-- A list with v behind it, unless v is 0 or stands in it. -/
def addN (l : List Int) (v : Int) : List Int := if v = 0 ∨ v ∈ l then l else l ++ [v]
def names (L : Pairs) : List Int := L.foldl (fun l q => addN (addN l q.1) q.2) []
theorem addN_len (l : List Int) (v : Int) : (addN l v).length ≤ l.length + 1 := by
  unfold addN
  by_cases h : v = 0 ∨ v ∈ l
  · rw [if_pos h]; omega
  · rw [if_neg h, List.length_append]; simp
theorem names_more (L : Pairs) (i : Nat) (h : i < L.length) : names (L.take (i + 1)) = addN (addN (names (L.take i)) (L.getD i (0, 0)).1) (L.getD i (0, 0)).2 := by
  unfold names
  rw [List.take_succ_eq_append_getElem h, List.foldl_append, List.getD_eq_getElem?_getD, List.getElem?_eq_getElem h]; rfl
theorem names_len (L : Pairs) : ∀ i, i ≤ L.length → (names (L.take i)).length ≤ 2 * i
  | 0, _ => by simp [names]
  | i + 1, h => by
    rw [names_more L i h]
    have h1 := names_len L i (by omega)
    have h2 := addN_len (names (L.take i)) (L.getD i (0, 0)).1
    have h3 := addN_len (addN (names (L.take i)) (L.getD i (0, 0)).1) (L.getD i (0, 0)).2
    omega
variable {v : Value} {zs : List Int}
set_option maxRecDepth 100000 in
set_option maxHeartbeats 1000000 in
theorem with_any (x : Int) (h : OffRow w v zs) (hn : zs.length ≤ 1000) : Calls Try.prog 59 #[v, .int .i64 x] w fun e w' => ∃ v', e = .returned v' ∧ OffRow w' v' (addN zs x) ∧ Wrote (fun k => v.ownBlock = some k) w (fun k => v'.ownBlock = some k) w' := by
  have cc := contains_any (x := x) h.ints
  by_cases h0 : x = 0
  · have e1 : addN zs x = zs := by unfold addN; rw [if_pos (Or.inl h0)]
    rw [e1]
    have hfin := Lib.hid h
    obtain ⟨sp, cap, rfl⟩ := h.slice
    subst h0
    clear h e1 cc
    generalize zs.length = l at *
    go_enter Try.func59, Try.ntmps59
    go_wp2_with fail
    go_ret
    exact ⟨_, rfl, hfin.out, Wrote.refl _ _⟩
  · by_cases hm : x ∈ zs
    · have e1 : addN zs x = zs := by unfold addN; rw [if_pos (Or.inr hm)]
      rw [e1]
      rw [show zs.contains x = true from List.contains_iff_mem.2 hm] at cc
      have hfin := Lib.hid h
      obtain ⟨sp, cap, rfl⟩ := h.slice
      have h1 : (x == 0) = false := by rw [beq_eq_false_iff_ne]; exact h0
      clear h e1 hm
      generalize zs.length = l at *
      go_enter Try.func59, Try.ntmps59
      go_wp2_with fail
      with_reducible refine Calls.mono cc ?_
      rintro e w1 ⟨rfl, rfl⟩
      go_wp2_with fail
      go_ret
      exact ⟨_, rfl, hfin.out, Wrote.refl _ _⟩
    · have e1 : addN zs x = zs ++ [x] := by unfold addN; rw [if_neg (fun h => h.elim h0 hm)]
      rw [e1]
      rw [show zs.contains x = false from by rw [Bool.eq_false_iff]; exact fun e => hm (List.contains_iff_mem.1 e)] at cc
      have hR := Lib.hid (off_below h (below_alloc (Below.refl _ _) (.cells #[.int .i64 x] 3)))
      obtain ⟨sp, cap, rfl⟩ := h.slice
      have h1 : (x == 0) = false := by rw [beq_eq_false_iff_ne]; exact h0
      have hbd : zs.length + 1 ≤ 1000000 := by omega
      have hend : Hid (∀ (W : World) (v' : Value), Wrote (fun k => (Value.slice sp zs.length cap).ownBlock = some k) (w.alloc (.cells #[.int .i64 x] 3)) (fun k => v'.ownBlock = some k) W → Wrote (fun k => (Value.slice sp zs.length cap).ownBlock = some k) w (fun k => v'.ownBlock = some k) W) := fun W v' hb => (Wrote.of_below (below_alloc (Below.refl _ _) _)).trans hb
      clear h e1 hm
      generalize hzl : zs.length = l at *
      have hzl2 := Lib.hid hzl
      clear hzl
      go_enter Try.func59, Try.ntmps59
      go_wp2_with fail
      with_reducible refine Calls.mono cc ?_
      rintro e w1 ⟨rfl, rfl⟩
      go_wp2_with (at_builtin; refine wpList_append_off rfl (.tmp 13) (.tmp 15) rfl rfl hR.out rfl rfl (src_one w x) (by have := hzl2.out; simp; omega) ?_; intro v3 w3 h3 h4; have h6 := hend.out w3 _ h4; obtain ⟨s3, c3, e3⟩ := h3.slice; subst e3; replace h3 := Lib.hid h3; replace h6 := Lib.hid h6; clear h4)
      go_ret
      exact ⟨_, rfl, by have := h3.out; simpa using this, by have := h6.out; simpa using this⟩
end
end Ba
end Go.Proofs.Ytejijddhmckgiaa
