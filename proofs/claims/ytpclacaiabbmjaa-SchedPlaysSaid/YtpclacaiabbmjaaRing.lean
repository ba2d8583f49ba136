/- A P's goroutines as they lie in memory: a row that goes round in its array, and one that is next; what the small calls of package ring answer and make. -/
import Derived.Test.YtpclacaiabbmjaaHome
import Derived.RegionTactic
import Derived.StillTailTactics
namespace Go.Proofs.Ytpclacaiabbmjaa
open Go.RowKit Go.Lib Fx Ho
set_option linter.unusedVariables false
namespace Ri

/-- A ring at p: its cells A; F its array, a where the row begins, y the number of who is next, if b; L the row. -/
structure RingAt (w : World) (p : Nat) (A : Array Value) (F : Nat → Int) (a : Nat) (y : Int) (b : Bool) (L : List Int) : Prop where
  head : w.heap[p]? = some (.cells A 127 (0, 0))
  row : ∀ j, j < 256 → A[j]? = some (.int .i64 (F j))
  k1 : A[256]? = some (.int .i64 a)
  k2 : A[257]? = some (.int .i64 L.length)
  k3 : A[258]? = some (.int .i64 y)
  k4 : A[259]? = some (.bool b)
  a1 : a < 256
  small : L.length ≤ 256
  elems : ∀ i, i < L.length → F ((a + i) % 256) = L.getD i 0
/-- Who is next, if anybody. -/
def nxOf (b : Bool) (y : Int) : Option Int := if b then some y else none
/-- A ring at p: who is next, if anybody; the row. -/
def IsRing (w : World) (p : Nat) (nx : Option Int) (L : List Int) : Prop := ∃ A F a y b, RingAt w p A F a y b L ∧ nx = nxOf b y
abbrev at_ (p : Nat) : Home := fun k => k = p
/-- The call answers r; of what there was the ring at p alone has turned. -/
def Turns (r : Value) (w : World) (p : Nat) (nx : Option Int) (L : List Int) (e : Ending) (w' : World) : Prop := e = .returned r ∧ Wrote (at_ p) w (at_ p) w' ∧ IsRing w' p nx L
theorem get_set {A : Array Value} {i j : Nat} {u v : Value} (h : A[j]? = some v) (hij : i ≠ j) : (A.setIfInBounds i u)[j]? = some v := by
  rw [Array.getElem?_setIfInBounds_ne hij]; exact h
theorem get_same {A : Array Value} {i : Nat} {u v : Value} (h : A[i]? = some v) : (A.setIfInBounds i u)[i]? = some u := by
  have hi : i < A.size := by
    rcases Nat.lt_or_ge i A.size with h' | h'
    · exact h'
    · rw [Array.getElem?_eq_none h'] at h; cases h
  rw [Array.getElem?_setIfInBounds_self_of_lt hi]
namespace RingAt
variable {w w' : World} {p a : Nat} {A : Array Value} {F : Nat → Int} {y : Int} {b : Bool} {L : List Int} {H H' : Home}
theorem c0 (h : RingAt w p A F a y b L) {j : Nat} (hj : j < 256) : w.cell? ⟨p, j, none⟩ = some (.int .i64 (F j)) := cell_of h.head (h.row j hj)
theorem c1 (h : RingAt w p A F a y b L) : w.cell? ⟨p, 256, none⟩ = some (.int .i64 a) := cell_of h.head h.k1
theorem c2 (h : RingAt w p A F a y b L) : w.cell? ⟨p, 257, none⟩ = some (.int .i64 L.length) := cell_of h.head h.k2
theorem c3 (h : RingAt w p A F a y b L) : w.cell? ⟨p, 258, none⟩ = some (.int .i64 y) := cell_of h.head h.k3
theorem c4 (h : RingAt w p A F a y b L) : w.cell? ⟨p, 259, none⟩ = some (.bool b) := cell_of h.head h.k4
theorem fz (h : RingAt w p A F a y b L) (j : Nat) : w.frozen? ⟨p, j, none⟩ = false := frozen_of_row w p j _ _ h.head
theorem wrote (h : RingAt w p A F a y b L) (ht : Wrote H w H' w') (ho : ¬ H p) : RingAt w' p A F a y b L :=
  ⟨by rw [ht.block p (block_lt h.head) ho]; exact h.head, h.row, h.k1, h.k2, h.k3, h.k4, h.a1, h.small, h.elems⟩
theorem below (h : RingAt w p A F a y b L) (hb : Below w.heap.size w w') : RingAt w' p A F a y b L := h.wrote (H := fun _ => False) (Wrote.of_below hb) (fun h => h)
theorem of_heap (h : RingAt w p A F a y b L) (hh : w'.heap = w.heap) : RingAt w' p A F a y b L := ⟨by rw [hh]; exact h.head, h.row, h.k1, h.k2, h.k3, h.k4, h.a1, h.small, h.elems⟩
theorem is_ (h : RingAt w p A F a y b L) : IsRing w p (nxOf b y) L := ⟨A, F, a, y, b, h, rfl⟩
/-- The row's element i. -/
theorem elem (h : RingAt w p A F a y b L) {i : Nat} (hi : i < L.length) : w.cell? ⟨p, (a + i) % 256, none⟩ = some (.int .i64 (L.getD i 0)) := by
  rw [h.c0 (Nat.mod_lt _ (by decide)), h.elems i hi]
/-- One number more behind the row. -/
theorem pushed (h : RingAt w p A F a y b L) (hl : L.length < 256) (g : Int) : RingAt ((w.setCell ⟨p, (a + L.length) % 256, none⟩ (.int .i64 g)).setCell ⟨p, 257, none⟩ (.int .i64 (L.length + 1))) p
    ((A.setIfInBounds ((a + L.length) % 256) (.int .i64 g)).setIfInBounds 257 (.int .i64 (L.length + 1))) (fun k => if k = (a + L.length) % 256 then g else F k) a y b (L ++ [g]) := by
  have hj : (a + L.length) % 256 < 256 := Nat.mod_lt _ (by decide)
  have ha := h.a1
  obtain ⟨j, hje⟩ : ∃ j, (a + L.length) % 256 = j := ⟨_, rfl⟩
  rw [hje] at hj ⊢
  refine ⟨heap_setCell_same _ p 257 _ _ _ (heap_setCell_same _ p _ _ _ _ h.head), fun k hk => ?_, ?_, ?_, ?_, ?_, h.a1, ?_, fun i hi => ?_⟩
  · refine get_set (v := .int .i64 (if k = j then g else F k)) ?_ (by omega)
    by_cases e : k = j
    · rw [if_pos e, e]; exact get_same (h.row j hj)
    · rw [if_neg e]; exact get_set (h.row k hk) (fun e2 => e e2.symm)
  · exact get_set (get_set h.k1 (by omega)) (by omega)
  · rw [get_same (get_set h.k2 (by omega)), List.length_append, List.length_singleton]; rfl
  · exact get_set (get_set h.k3 (by omega)) (by omega)
  · exact get_set (get_set h.k4 (by omega)) (by omega)
  · rw [List.length_append, List.length_singleton]; omega
  · rw [List.length_append, List.length_singleton] at hi
    by_cases e : i = L.length
    · subst e
      show (if (a + L.length) % 256 = j then g else _) = _
      rw [if_pos hje, List.getD_eq_getElem?_getD, List.getElem?_append_right (Nat.le_refl _), Nat.sub_self]; rfl
    · have hlt : i < L.length := by omega
      show (if (a + i) % 256 = j then g else _) = _
      rw [if_neg (by omega), h.elems i hlt, List.getD_eq_getElem?_getD, List.getD_eq_getElem?_getD, List.getElem?_append_left hlt]
/-- The first n taken out. -/
theorem shifted (h : RingAt w p A F a y b L) {n : Nat} (hn : n ≤ L.length) : RingAt ((w.setCell ⟨p, 256, none⟩ (.int .i64 ((a + n) % 256 : Nat))).setCell ⟨p, 257, none⟩ (.int .i64 ((L.length - n : Nat) : Int))) p
    ((A.setIfInBounds 256 (.int .i64 ((a + n) % 256 : Nat))).setIfInBounds 257 (.int .i64 ((L.length - n : Nat) : Int))) F ((a + n) % 256) y b (L.drop n) := by
  have hs := h.small
  refine ⟨heap_setCell_same _ p 257 _ _ _ (heap_setCell_same _ p _ _ _ _ h.head), fun k hk => ?_, ?_, ?_, ?_, ?_, Nat.mod_lt _ (by decide), ?_, fun i hi => ?_⟩
  · exact get_set (get_set (h.row k hk) (by omega)) (by omega)
  · exact get_set (get_same h.k1) (by omega)
  · rw [get_same (get_set h.k2 (by omega)), List.length_drop]
  · exact get_set (get_set h.k3 (by omega)) (by omega)
  · exact get_set (get_set h.k4 (by omega)) (by omega)
  · rw [List.length_drop]; omega
  · rw [List.length_drop] at hi
    rw [show ((a + n) % 256 + i) % 256 = (a + (n + i)) % 256 by omega, h.elems (n + i) (by omega), List.getD_eq_getElem?_getD, List.getD_eq_getElem?_getD, List.getElem?_drop]
/-- Who is next is laid. -/
theorem nexted (h : RingAt w p A F a y b L) (g : Int) : RingAt ((w.setCell ⟨p, 258, none⟩ (.int .i64 g)).setCell ⟨p, 259, none⟩ (.bool true)) p ((A.setIfInBounds 258 (.int .i64 g)).setIfInBounds 259 (.bool true)) F a g true L := by
  refine ⟨heap_setCell_same _ p 259 _ _ _ (heap_setCell_same _ p _ _ _ _ h.head), fun k hk => ?_, ?_, ?_, ?_, ?_, h.a1, h.small, h.elems⟩
  · exact get_set (get_set (h.row k hk) (by omega)) (by omega)
  · exact get_set (get_set h.k1 (by omega)) (by omega)
  · exact get_set (get_set h.k2 (by omega)) (by omega)
  · exact get_set (get_same h.k3) (by omega)
  · exact get_same (get_set h.k4 (by omega))
/-- Nobody is next any more. -/
theorem unnexted (h : RingAt w p A F a y b L) : RingAt (w.setCell ⟨p, 259, none⟩ (.bool false)) p (A.setIfInBounds 259 (.bool false)) F a y false L := by
  refine ⟨heap_setCell_same _ p 259 _ _ _ h.head, fun k hk => ?_, ?_, ?_, ?_, ?_, h.a1, h.small, h.elems⟩
  · exact get_set (h.row k hk) (by omega)
  · exact get_set h.k1 (by omega)
  · exact get_set h.k2 (by omega)
  · exact get_set h.k3 (by omega)
  · exact get_same h.k4
end RingAt
section
variable {p a : Nat} {A : Array Value} {F : Nat → Int} {y : Int} {b : Bool} {L : List Int}
set_option maxRecDepth 100000 in
theorem room_any (w : World) (h : RingAt w p A F a y b L) : Calls Try.prog 101 #[.pointer (some ⟨p, 0, none⟩)] w (Still (.int .i64 (256 - (L.length : Int))) w) := by
  have c2 := h.c2
  have hs := h.small
  clear h
  generalize L.length = n at *
  go_enter Try.func101, Try.ntmps101
  go_wp2_with fail
  go_ret
  exact ⟨rfl, rfl⟩
set_option maxRecDepth 100000 in
theorem at_any (i : Nat) (hi : i ≤ 256) (w : World) (h : RingAt w p A F a y b L) : Calls Try.prog 107 #[.pointer (some ⟨p, 0, none⟩), .int .i64 i] w (Ans (.pointer (some ⟨p, (a + i) % 256, none⟩)) w) := by
  have c1 := h.c1
  have ha := h.a1
  obtain ⟨j, hj⟩ : ∃ j, (a + i) % 256 = j := ⟨_, rfl⟩
  have hj2 : ((a : Int) + (i : Int)) % 256 = (j : Int) := by omega
  have hj3 : (0 : Int) ≤ (a : Int) + (i : Int) := by omega
  have hj4 : j < 256 := by omega
  have hj5 : (j : Int) < 256 := by omega
  have hj6 : (0 : Int) ≤ (j : Int) := by omega
  have hw : IntKind.i64.wrap ((a : Int) + (i : Int)) = (a : Int) + (i : Int) := IntWalk.i64_in _ ⟨by omega, by omega⟩
  have hw2 : ((a : Int) + (i : Int)).tmod 256 = (j : Int) := by rw [Int.tmod_eq_emod_of_nonneg hj3]; exact hj2
  rw [hj]
  clear h hj
  go_enter Try.func107, Try.ntmps107
  go_wp2_with fail
  go_quiet (fail)
  go_wp2_with fail
  go_ret
  exact ⟨rfl, _, rfl⟩
end
end Ri
end Go.Proofs.Ytpclacaiabbmjaa
