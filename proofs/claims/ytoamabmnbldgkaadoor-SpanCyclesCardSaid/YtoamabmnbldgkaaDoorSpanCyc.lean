/- How things stand in the statement SpanCycles: the span and the list of its used places; those that are marked by their places in the list. -/
import Derived.Test.YtoamabmnbldgkaaDoorSpanLists
import Derived.Test.YtoamabmnbldgkaaDoorPlaysAt
import Derived.Test.YtoamabmnbldgkaaDoorAppend
namespace Go.Proofs.YtoamabmnbldgkaaDoor
open Go.RowKit Go.Lib Fx Bm Cl
set_option linter.unusedVariables false

structure Cy (w : World) (B : SB) (c n fr : Nat) (U : Nat → Bool) (T : Nat) (u : Value) (wr : World) : Prop where
  s : IsSpan wr B 7 c n fr U (fun _ => false)
  low : ∀ r, r < fr → U r = true
  l : LAt wr T u (mem U n)
  t : TabAt wr
  sz : T ≤ wr.heap.size
  bl : Below w.heap.size w wr
theorem Cy.below {w : World} {B : SB} {c n fr : Nat} {U : Nat → Bool} {T : Nat} {u : Value} {wr wy : World} (h : Cy w B c n fr U T u wr) (hb : Below wr.heap.size wr wy) : Cy w B c n fr U T u wy :=
  ⟨h.s.below hb, h.low, h.l.below hb, h.t.below hb, Nat.le_trans h.sz hb.size, below_then h.bl hb⟩
theorem lat_turned {W W' : World} {a b lo : Nat} {v : Value} {zs : List Nat} (h : LAt W lo v zs) (ht : Turned a b W W') (ho : b ≤ lo) : LAt W' lo v zs := by
  rcases h with h | ⟨g, cap, e, hc, hlo, hl, hcell⟩
  · exact Or.inl h
  · exact Or.inr ⟨g, cap, e, hc, hlo, Nat.lt_of_lt_of_le hl ht.size, fun i hi => ht.cell (hcell i hi) (.inr (by show b ≤ g; omega))⟩
theorem lat_len {W : World} {lo n : Nat} {v : Value} {M : Nat → Bool} (h : LAt W lo v (mem M n)) : ∃ sp cap, v = .slice sp (cnt M n) cap := by
  rcases h with ⟨h1, h2⟩ | ⟨g, cap, h1, _⟩
  · exact ⟨none, 0, by rw [h1, ← mem_len, h2]; rfl⟩
  · exact ⟨_, cap, by rw [h1, mem_len]⟩
/-- Those that are used, by their places in the list: each m-th is marked. -/
def cyS (U : Nat → Bool) (m : Nat) : Nat → Bool := fun r => U r && decide (cnt U r % m = 0)
def cyG (U : Nat → Bool) (m : Nat) : Nat → Bool := fun r => U r && !decide (cnt U r % m = 0)
def cyV (U : Nat → Bool) (m t : Nat) : Nat → Bool := fun r => decide (r < t) && cyS U m r
section
variable {U : Nat → Bool} {m t q : Nat}
theorem cyS_skip (h1 : t ≤ q) (h4 : ∀ r, t ≤ r → r < q → U r = false) : mem (cyS U m) q = mem (cyS U m) t := mem_skip h1 fun r h2 h3 => by unfold cyS; rw [h4 r h2 h3]; simp
theorem cyG_skip (h1 : t ≤ q) (h4 : ∀ r, t ≤ r → r < q → U r = false) : mem (cyG U m) q = mem (cyG U m) t := mem_skip h1 fun r h2 h3 => by unfold cyG; rw [h4 r h2 h3]; simp
theorem cyV_at (h1 : t ≤ q) : cyV U m t q = false := by unfold cyV; rw [decide_eq_false (by omega)]; rfl
theorem cyV_yes (h1 : t ≤ q) (h4 : ∀ r, t ≤ r → r < q → U r = false) (hS : cyS U m q = true) : upd (cyV U m t) q true = cyV U m (q + 1) := by
  funext r; unfold upd cyV
  by_cases e : r = q
  · rw [if_pos e, e, hS, decide_eq_true (by omega)]; rfl
  · rw [if_neg e]
    by_cases h5 : r < t
    · rw [decide_eq_true h5, decide_eq_true (show r < q + 1 by omega)]
    · by_cases h6 : r < q
      · have : cyS U m r = false := by unfold cyS; rw [h4 r (by omega) h6]; rfl
        rw [this]; simp
      · rw [decide_eq_false h5, decide_eq_false (show ¬ r < q + 1 by omega)]
theorem cyV_no (h1 : t ≤ q) (h4 : ∀ r, t ≤ r → r < q → U r = false) (hS : cyS U m q = false) : cyV U m t = cyV U m (q + 1) := by
  funext r; unfold cyV
  by_cases e : r = q
  · rw [e, hS]; simp
  · by_cases h5 : r < t
    · rw [decide_eq_true h5, decide_eq_true (show r < q + 1 by omega)]
    · by_cases h6 : r < q
      · have : cyS U m r = false := by unfold cyS; rw [h4 r (by omega) h6]; rfl
        rw [this]; simp
      · rw [decide_eq_false h5, decide_eq_false (show ¬ r < q + 1 by omega)]
theorem cyV_end {n : Nat} (hU : ∀ r, n ≤ r → U r = false) (h : ∀ r, t ≤ r → r < n → U r = false) : ∀ r, cyV U m t r = cyS U m r := fun r => by
  unfold cyV
  by_cases h1 : r < t
  · rw [decide_eq_true h1]; rfl
  · have : U r = false := by
      by_cases h2 : r < n
      · exact h r (by omega) h2
      · exact hU r (by omega)
    unfold cyS
    rw [this, decide_eq_false h1]; rfl
end
/-- The list lies in blocks from T on and below T2. -/
def InB (w : World) (T T2 : Nat) (v : Value) (zs : List Nat) : Prop :=
  ∃ sp cap, v = .slice sp zs.length cap ∧ ∀ i, i < zs.length → ∃ b off, sp = some ⟨b, off, none⟩ ∧ T ≤ b ∧ b < T2 ∧ w.cell? ⟨b, off + i, none⟩ = some (.int .i64 (zs.getD i 0 : Nat))
theorem LAt.inB {w : World} {T : Nat} {v : Value} {zs : List Nat} (h : LAt w T v zs) : InB w T w.heap.size v zs := by
  rcases h with ⟨rfl, rfl⟩ | ⟨g, cap, rfl, hc, hlo, hl, hcell⟩
  · exact ⟨none, 0, rfl, fun i hi => by simp at hi⟩
  · exact ⟨_, cap, rfl, fun i hi => ⟨g, 0, rfl, hlo, hl, by rw [Nat.zero_add]; exact hcell i hi⟩⟩
theorem InB.turned {w w' : World} {T T2 a b : Nat} {v : Value} {zs : List Nat} (h : InB w T T2 v zs) (ht : Turned a b w w') (ho : b ≤ T ∨ T2 ≤ a) : InB w' T T2 v zs := by
  obtain ⟨sp, cap, e, hc⟩ := h
  refine ⟨sp, cap, e, fun i hi => ?_⟩
  obtain ⟨b', off, e2, h1, h2, h3⟩ := hc i hi
  exact ⟨b', off, e2, h1, h2, ht.cell h3 (by show b' < a ∨ b ≤ b'; omega)⟩
theorem InB.cell {w : World} {T T2 l c : Nat} {a : Option Addr} {zs : List Nat} (h : InB w T T2 (.slice a l c) zs) {i : Nat} (hi : i < zs.length) : ∃ b off, a = some ⟨b, off, none⟩ ∧ T ≤ b ∧ b < T2 ∧ w.cell? ⟨b, off + i, none⟩ = some (.int .i64 (zs.getD i 0 : Nat)) := by
  obtain ⟨sp, cap, e, hc⟩ := h
  injection e with e1 e2 e3
  obtain ⟨b, off, h1, h2, h3, h4⟩ := hc i hi
  exact ⟨b, off, e1.trans h1, h2, h3, h4⟩
theorem kp_rem2 {i b : Nat} (hb : 1 ≤ b) : ((i : Int) % (b : Int) == 0) = decide (i % b = 0) ∧ ((i : Int).tmod (b : Int) == 0) = decide (i % b = 0) ∧ ((i : Int) % (b : Int) != 0) = !decide (i % b = 0) ∧ ((i : Int).tmod (b : Int) != 0) = !decide (i % b = 0) := by
  have e1 : (i : Int) % (b : Int) = ((i % b : Nat) : Int) := (Int.natCast_emod i b).symm
  have e2 : (i : Int).tmod (b : Int) = ((i % b : Nat) : Int) := by rw [Int.tmod_eq_emod_of_nonneg (by omega), e1]
  have e3 : (((i % b : Nat) : Int) == 0) = decide (i % b = 0) := by
    by_cases h : i % b = 0
    · rw [h]; rfl
    · rw [decide_eq_false h, beq_eq_false_iff_ne]; omega
  refine ⟨by rw [e1, e3], by rw [e2, e3], ?_, ?_⟩
  · show (!((i : Int) % (b : Int) == 0)) = _
    rw [e1, e3]
  · show (!((i : Int).tmod (b : Int) == 0)) = _
    rw [e2, e3]
/-- Two rows of the call's own that do not lie in one block. -/
def Apart (u v : Value) : Prop := ∀ g, u.ownBlock = some g → v.ownBlock ≠ some g
theorem append_two {w w3 : World} {T l l2 : Nat} {v v' u : Value} {xs ys : List Value} {e t : TypeId} {x : Value} (hT : T ≤ w.heap.size) (hv : w.ownsRow T e 1 v l xs) (hu : w.ownsRow T e 1 u l2 ys) (hap : Apart v u)
    (hg : (w.alloc (.cells #[x] t)).grownBy w3 v.ownBlock) (hw : v'.ownBlock = v.ownBlock ∨ v'.ownBlock = some (w.alloc (.cells #[x] t)).heap.size) :
    Turned T w.heap.size w w3 ∧ w3.ownsRow T e 1 u l2 ys ∧ Apart v' u := by
  have hg3 : w.grownBy w3 v.ownBlock := ⟨hg.os, hg.tape, hg.output, by have := hg.size; simp at this; omega, fun j hj hne => (hg.block j (by simp; omega) hne).trans (Below.heap_alloc _ _ _ hj)⟩
  refine ⟨Turned.of_grown hg3 fun g hg => hv.lt g hg, hu.kept hg3 ?_, fun g hgv => ?_⟩
  · cases hub : u.ownBlock with
    | none => exact .inl rfl
    | some k => exact .inr fun e => hap k e.symm hub
  · rcases hw with h | h
    · rw [h] at hgv; exact hap g hgv
    · rw [h] at hgv
      cases hgv
      intro e
      have := (hu.lt _ e).2
      simp at this
      omega
theorem Apart.symm {u v : Value} (h : Apart u v) : Apart v u := fun g h1 h2 => h g h2 h1
end Go.Proofs.YtoamabmnbldgkaaDoor
