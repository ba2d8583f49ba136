/- What a call may turn: the blocks of a stretch, and new ones; how that is handed on. -/
import Derived.Test.YtoamabmnbldgkaaDoorSetInts
namespace Go.Proofs.YtoamabmnbldgkaaDoor
open Go.RowKit Go.Lib Fx Bm
set_option linter.unusedVariables false

/-- Outside the blocks from lo to hi nothing of what there was has turned. -/
structure Turned (lo hi : Nat) (w w' : World) : Prop where
  os : w'.os = w.os
  tape : w'.tape = w.tape
  output : w'.output = w.output
  size : w.heap.size ≤ w'.heap.size
  block : ∀ k, k < w.heap.size → (k < lo ∨ hi ≤ k) → w'.heap[k]? = w.heap[k]?
namespace Turned
variable {lo hi : Nat} {a b c : World}
theorem refl (lo hi : Nat) (w : World) : Turned lo hi w w := ⟨rfl, rfl, rfl, Nat.le_refl _, fun _ _ _ => rfl⟩
theorem trans (h : Turned lo hi a b) (k : Turned lo hi b c) : Turned lo hi a c :=
  ⟨k.os.trans h.os, k.tape.trans h.tape, k.output.trans h.output, Nat.le_trans h.size k.size, fun i hi' ho => (k.block i (Nat.lt_of_lt_of_le hi' h.size) ho).trans (h.block i hi' ho)⟩
theorem of_grown {row : Option Nat} (hg : a.grownBy b row) (hr : ∀ k, row = some k → lo ≤ k ∧ k < hi) : Turned lo hi a b :=
  ⟨hg.os, hg.tape, hg.output, hg.size, fun k hk ho => hg.block k hk (fun e => by have := hr k e.symm; omega)⟩
theorem of_below (h : Below a.heap.size a b) : Turned lo hi a b := ⟨h.os, h.tape, h.output, h.size, fun k hk _ => h.block k hk⟩
theorem drewN (h : Turned lo hi a b) (n : Nat) : Turned lo hi a (b.drewN n) := h.trans ⟨rfl, rfl, rfl, Nat.le_refl _, fun _ _ _ => rfl⟩
/-- The stretch is new since w: below, nothing has turned. -/
theorem below {w : World} (h : Turned lo hi a b) (hb : Below w.heap.size w a) (hlo : w.heap.size ≤ lo) : Below w.heap.size w b :=
  ⟨h.os.trans hb.os, h.tape.trans hb.tape, h.output.trans hb.output, Nat.le_trans hb.size h.size, fun k hk => (h.block k (Nat.lt_of_lt_of_le hk hb.size) (Or.inl (by omega))).trans (hb.block k hk)⟩
theorem cell {p : Addr} {v : Value} (h : Turned lo hi a b) (hc : a.cell? p = some v) (ho : p.block < lo ∨ hi ≤ p.block) : b.cell? p = some v := by
  rw [World.cell?_of_block (h.block p.block (World.block_lt_of_cell? a _ hc) ho)]; exact hc
theorem wide {lo' hi' : Nat} (h : Turned lo hi a b) (h1 : lo' ≤ lo) (h2 : hi ≤ hi') : Turned lo' hi' a b :=
  ⟨h.os, h.tape, h.output, h.size, fun k hk ho => h.block k hk (by omega)⟩
end Turned
theorem IsSet.turned {lo hi : Nat} {w w' : World} {p b n : Nat} {M : Nat → Bool} (h : IsSet w p b n M) (ht : Turned lo hi w w') (h1 : p < lo ∨ hi ≤ p) (h2 : b < lo ∨ hi ≤ b) : IsSet w' p b n M :=
  ⟨by rw [ht.block p h.lt h1]; exact h.head, h.row.of_block (ht.block b h.row.lt h2), h.small, h.out, h.ne⟩
theorem TabAt.turned {lo hi : Nat} {w w' : World} (h : TabAt w) (ht : Turned lo hi w w') (hlo : 0 < lo) : TabAt w' := fun j hj => ht.cell (h j hj) (Or.inl hlo)
theorem IntsAt.turned {w w' : World} {lo l2 h2 : Nat} {v : Value} {zs : List Int} (h : IntsAt w lo v zs) (ht : Turned l2 h2 w w') (ho : h2 ≤ lo) : IntsAt w' lo v zs := by
  obtain ⟨sp, cap, e, h1, h2'⟩ := h
  refine ⟨sp, cap, e, h1, fun i hi => ?_⟩
  obtain ⟨b, off, e2, h3, h4, h5⟩ := h2' i hi
  exact ⟨b, off, e2, h3, Nat.lt_of_lt_of_le h4 ht.size, ht.cell h5 (Or.inr (by show h2 ≤ b; omega))⟩
theorem IsSet.of_heap {w W : World} {p b n : Nat} {M : Nat → Bool} (h : IsSet w p b n M) (e : W.heap = w.heap) : IsSet W p b n M := ⟨by rw [e]; exact h.head, h.row.of_block (by rw [e]), h.small, h.out, h.ne⟩
theorem TabAt.of_heap {w W : World} (h : TabAt w) (e : W.heap = w.heap) : TabAt W := fun j hj => by
  have := h j hj
  unfold World.cell? at this ⊢
  rw [e]; exact this
theorem block_lt {W : World} {p : Nat} {o : Obj} (h : W.heap[p]? = some o) : p < W.heap.size := by
  rcases Nat.lt_or_ge p W.heap.size with h' | h'
  · exact h'
  · rw [Array.getElem?_eq_none h'] at h; cases h
end Go.Proofs.YtoamabmnbldgkaaDoor
