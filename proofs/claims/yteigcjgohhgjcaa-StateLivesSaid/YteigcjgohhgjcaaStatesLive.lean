/- States beside a row of three bools of the statement's own, which say who is dead. -/
import Derived.Test.YteigcjgohhgjcaaStatesMore
namespace Go.Proofs.Yteigcjgohhgjcaa
open Go.RowKit Go.Lib Fx Ho
set_option linter.unusedVariables false
namespace St
variable {W0 w w' : World} {p d : Nat} {v v' : Value} {L L' : List Int} {M : Nat → Bool}

/-- Beside the states three bools lie at d. -/
structure Sd (W0 w : World) (p : Nat) (v : Value) (L : List Int) (d : Nat) (M : Nat → Bool) : Prop where
  ss : Ss W0 w p v L
  head : w.heap[d]? = some (.cells #[.bool (M 0), .bool (M 1), .bool (M 2)] 4 (0, 0))
  dlow : W0.heap.size ≤ d
  off : ¬ home p v d
namespace Sd
theorem turns (h : Sd W0 w p v L d M) (ht : Wrote (home p v) w (home p v') w') (hs : IsSt w' p v' L') : Sd W0 w' p v' L' d M :=
  ⟨h.ss.turns ht hs, by rw [ht.block d (block_lt h.head) h.off]; exact h.head, h.dlow, fun h' => (ht.home d h').elim h.off (fun h2 => by have := block_lt h.head; omega)⟩
theorem below (h : Sd W0 w p v L d M) (hb : Below w.heap.size w w') : Sd W0 w' p v L d M :=
  ⟨h.ss.below hb, by rw [hb.block d (block_lt h.head)]; exact h.head, h.dlow, h.off⟩
theorem cell (h : Sd W0 w p v L d M) {g : Nat} (hg : g < 3) : w.cell? ⟨d, g, none⟩ = some (.bool (M g)) := by
  rcases (show g = 0 ∨ g = 1 ∨ g = 2 by omega) with rfl | rfl | rfl
  all_goals exact cell_of h.head rfl
theorem frozen (h : Sd W0 w p v L d M) (g : Nat) : w.frozen? ⟨d, g, none⟩ = false := frozen_of_row w d g _ _ h.head
/-- A bool is written. -/
theorem put {W : World} (h : Sd W0 w p v L d M) {g : Nat} (hg : g < 3) (b : Bool) (hh : W.heap = (w.setCell ⟨d, g, none⟩ (.bool b)).heap) (ho : W.os = w.os) (ht : W.tape = w.tape) (hu : W.output = w.output) :
    Sd W0 W p v L d (fun i => if i = g then b else M i) := by
  have hw : Wrote (fun k => k = d) w (fun k => k = d) W := wrote_setCell (a := ⟨d, g, none⟩) (u := .bool b) hh ho ht hu rfl
  refine ⟨h.ss.wrote hw (fun k hk => by rw [hk]; exact h.dlow) (fun k hk e => h.off (e ▸ hk)), ?_, h.dlow, h.off⟩
  rw [hh, heap_setCell_same _ d g _ _ _ h.head]
  rcases (show g = 0 ∨ g = 1 ∨ g = 2 by omega) with rfl | rfl | rfl
  all_goals rfl
end Sd
theorem infoB : (Try.prog.info? 4).map (fun i => (i.zero, i.size, i.bytes)) = some (some (.bool false), 1, 1) := by kernel_rfl
theorem sd_made {cap : Nat} (h : Ss W0 w p v L) (ho : w'.ownsRow 0 4 1 (.slice (some ⟨w.heap.size, 0, none⟩) 3 cap) 3 (madeCells (Value.bool false).cells (3 * 1)).toList) (hc : cap = 3) (hg : w.grownBy w' none) : Sd W0 w' p v L w.heap.size (fun _ => false) := by
  subst hc
  have hb : Below w.heap.size w w' := (Below.refl _ _).grown hg (Nat.le_refl _) (fun k hk => by cases hk)
  refine ⟨h.below hb, ?_, h.bel.size, fun h' => by have := h.st.lt _ h'; omega⟩
  rcases ho.2 with ⟨e, _⟩ | ⟨g, cap, cur, e, _, h2, _, _, h5, h6⟩
  · cases e
  · simp only [Value.slice.injEq, Option.some.injEq, Addr.mk.injEq, and_true, true_and] at e
    obtain ⟨rfl, rfl⟩ := e
    rw [h2]
    have h7 : cur.toList = (madeCells (Value.bool false).cells (3 * 1)).toList := by rw [← h6, List.take_of_length_le (by rw [Array.length_toList, h5]; omega)]
    have h8 : cur = #[.bool false, .bool false, .bool false] := by
      apply Array.toList_inj.1
      rw [h7]
      rw [show (Value.bool false).cells = #[.bool false] from rfl, toList_madeCells_one]; rfl
    rw [h8]
theorem sd_move (g : Nat) (t : Int) (h : Sd W0 w p v L d M) (hg : g < L.length) (hm : mayB (L.getD g 0) t = true) : Calls Try.prog 41 #[.pointer (some ⟨p, 0, none⟩), .int .i64 g, .int .i64 t] w fun e w' => e = .returned (.int .i64 0) ∧ ∃ v', Sd W0 w' p v' (L.set g t) d M :=
  (move_ok g t hg hm w h.ss.st).mono fun _ _ ⟨he, v', ht, hs⟩ => ⟨he, v', h.turns ht hs⟩
theorem sd_not (g : Nat) (t : Int) (h : Sd W0 w p v L d M) (hg : g < L.length) (hm : mayB (L.getD g 0) t = false) : Calls Try.prog 41 #[.pointer (some ⟨p, 0, none⟩), .int .i64 g, .int .i64 t] w fun e w' => e = .returned (.int .i64 5) ∧ Sd W0 w' p v L d M :=
  (move_not g t hg hm w h.ss.st).mono fun _ _ ⟨he, hb⟩ => ⟨he, h.below hb⟩
theorem sd_alive (h : Sd W0 w p v L d M) : Calls Try.prog 46 #[.pointer (some ⟨p, 0, none⟩)] w fun e w' => ∃ sp cap, e = .returned (.slice sp (aliveTo L L.length).length cap) ∧ Sd W0 w' p v L d M :=
  (alive_any w h.ss.st).mono fun _ _ ⟨v', he, hb, ho⟩ => by
    obtain ⟨sp, cap, rfl⟩ := own_slice ho
    exact ⟨sp, cap, he, h.below hb⟩
/-- How many of the first i bools are set. -/
def setTo (M : Nat → Bool) : Nat → Nat
  | 0 => 0
  | i + 1 => setTo M i + (if M i then 1 else 0)
theorem three {L : List Int} (h : L.length = 3) : ∃ x y z, L = [x, y, z] := by
  match L, h with
  | [x, y, z], _ => exact ⟨x, y, z, rfl⟩
/-- The dead are as many as the bools that are set, the others are alive. -/
theorem dead_three {L : List Int} {M : Nat → Bool} (h : L.length = 3) (hM : ∀ g, g < 3 → M g = decide (L.getD g 0 = 5)) : cnt L 5 = (setTo M 3 : Nat) ∧ setTo M 3 ≤ 3 ∧ (aliveTo L L.length).length = 3 - setTo M 3 := by
  obtain ⟨x, y, z, rfl⟩ := three h
  have h0 := hM 0 (by omega)
  have h1 := hM 1 (by omega)
  have h2 := hM 2 (by omega)
  simp only [List.getD_cons_zero, List.getD_cons_succ] at h0 h1 h2
  by_cases e0 : x = 5 <;> by_cases e1 : y = 5 <;> by_cases e2 : z = 5 <;> simp [cnt, setTo, aliveTo, h0, h1, h2, e0, e1, e2]
theorem dead_upd {L : List Int} {M : Nat → Bool} {g : Nat} {t : Int} (h : L.length = 3) (hg : g < 3) (hM : ∀ i, i < 3 → M i = decide (L.getD i 0 = 5)) : ∀ i, i < 3 → (if i = g then decide (t = 5) else M i) = decide ((L.set g t).getD i 0 = 5) := fun i hi => by
  by_cases e : i = g
  · subst e
    rw [if_pos rfl, List.getD_eq_getElem?_getD, List.getElem?_set_self (by omega)]; rfl
  · rw [if_neg e, hM i hi, List.getD_eq_getElem?_getD, List.getD_eq_getElem?_getD, List.getElem?_set_ne (fun e2 => e e2.symm)]
theorem dead_keep {L : List Int} {M : Nat → Bool} {g : Nat} {t : Int} (h : L.length = 3) (hg : g < 3) (h5 : L.getD g 0 ≠ 5) (ht : t ≠ 5) (hM : ∀ i, i < 3 → M i = decide (L.getD i 0 = 5)) : ∀ i, i < 3 → M i = decide ((L.set g t).getD i 0 = 5) := fun i hi => by
  rw [← dead_upd h hg hM i hi]
  by_cases e : i = g
  · subst e; rw [if_pos rfl, hM i hi, decide_eq_false h5, decide_eq_false ht]
  · rw [if_neg e]
end St
end Go.Proofs.Yteigcjgohhgjcaa
