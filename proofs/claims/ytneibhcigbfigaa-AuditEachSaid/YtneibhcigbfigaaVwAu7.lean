/- AuditEach's view in memory, and how it is spoilt. -/
import Derived.Test.YtneibhcigbfigaaVwAu6
import Derived.Test.YtneibhcigbfigaaVwChM
import Derived.Deep.OwnRows
namespace Go.Proofs.Ytneibhcigbfigaa
open Go.RowKit Go.Lib Fx Ho Gr
set_option linter.unusedVariables false
set_option linter.unusedSimpArgs false
namespace Vw
variable {w w' W w0 : World} {B N3 N : Nat} {ph g1 st P s0 a1 nt x : Int} {n0 : Nat} {m0 m1 b : Bool}
structure Es (w0 W : World) (B N3 : Nat) (ph g1 : Int) (n0 : Nat) (st P s0 a1 : Int) (m0 m1 : Bool) (nt : Int) : Prop where
  bel : Below w0.heap.size w0 W
  lo : w0.heap.size = B
  n3 : B + 1 < N3 ∧ (N3 = B + 2 ∨ B + 7 < N3)
  nle : n0 ≤ 16
  h1 : W.heap[B]? = some (.cells #[.int .i64 64, .int .i64 g1] 3 (0, 0))
  h2 : W.heap[B + 1]? = some (.cells (cells (List.replicate 16 0)).toArray 3 (0, 0))
  h3 : W.heap[N3]? = some (.cells (cells (List.replicate 16 0)).toArray 3 (0, 0))
  h4 : W.heap[B + 3]? = some (.cells #[.int .i64 2, .int .i64 0, .slice (some ⟨B + 1, 0, none⟩) n0 16, .int .i64 st, .int .i64 P, .slice (some ⟨N3, 0, none⟩) 16 16] 26 (0, 0))
  h5 : W.heap[B + 4]? = some (.cells #[.int .i64 s0] 3 (0, 0))
  h6 : W.heap[B + 5]? = some (.cells #[.int .i64 0, .int .i64 64] 3 (0, 0))
  h7 : W.heap[B + 6]? = some (.cells #[.int .i64 64, .slice (some ⟨B + 4, 0, none⟩) 1 1, .bool m0, .int .i64 a1, .slice (some ⟨B + 5, 0, none⟩) 2 2, .bool m1] 29 (0, 0))
  h8 : W.heap[B + 7]? = some (.cells #[.int .i64 ph, .int .i64 0, .int .i64 0, .slice (some ⟨B, 0, none⟩) 2 2, .slice (some ⟨B + 3, 0, none⟩) 2 2, .slice (some ⟨B + 6, 0, none⟩) 2 2, .int .i64 0, .int .i64 nt, .int .i64 0] 32 (0, 0))
theorem Es.below (h : Es w0 W B N3 ph g1 n0 st P s0 a1 m0 m1 nt) (hb : Below W.heap.size W w') : Es w0 w' B N3 ph g1 n0 st P s0 a1 m0 m1 nt :=
  ⟨h.bel.trans (hb.mono h.bel.size), h.lo, h.n3, h.nle, (hb.block _ (block_lt h.h1)).trans h.h1, (hb.block _ (block_lt h.h2)).trans h.h2, (hb.block _ (block_lt h.h3)).trans h.h3, (hb.block _ (block_lt h.h4)).trans h.h4, (hb.block _ (block_lt h.h5)).trans h.h5, (hb.block _ (block_lt h.h6)).trans h.h6, (hb.block _ (block_lt h.h7)).trans h.h7, (hb.block _ (block_lt h.h8)).trans h.h8⟩
theorem Es.sg (h : Es w0 W B N3 ph g1 n0 st P s0 a1 m0 m1 nt) (x : Int) : W.frozen? ⟨B, 1, none⟩ = false ∧ Es w0 (W.setCell ⟨B, 1, none⟩ (.int .i64 x)) B N3 ph x n0 st P s0 a1 m0 m1 nt :=
  ⟨frozen_of_row _ _ _ _ _ h.h1, h.bel.setCell (p := ⟨B, 1, none⟩) (by have := h.lo; show w0.heap.size ≤ B; omega) _, h.lo, h.n3, h.nle, (by rw [heap_setCell_same _ (B) 1 _ _ _ h.h1]; rfl), (Below.heap_setCell _ _ _ _ (by have := h.n3; show B + 1 ≠ B; omega)).trans h.h2, (Below.heap_setCell _ _ _ _ (by have := h.n3; show N3 ≠ B; omega)).trans h.h3, (Below.heap_setCell _ _ _ _ (by have := h.n3; show B + 3 ≠ B; omega)).trans h.h4, (Below.heap_setCell _ _ _ _ (by have := h.n3; show B + 4 ≠ B; omega)).trans h.h5, (Below.heap_setCell _ _ _ _ (by have := h.n3; show B + 5 ≠ B; omega)).trans h.h6, (Below.heap_setCell _ _ _ _ (by have := h.n3; show B + 6 ≠ B; omega)).trans h.h7, (Below.heap_setCell _ _ _ _ (by have := h.n3; show B + 7 ≠ B; omega)).trans h.h8⟩
theorem Es.sa (h : Es w0 W B N3 ph g1 n0 st P s0 a1 m0 m1 nt) (x : Int) : W.frozen? ⟨B + 6, 3, none⟩ = false ∧ Es w0 (W.setCell ⟨B + 6, 3, none⟩ (.int .i64 x)) B N3 ph g1 n0 st P s0 x m0 m1 nt :=
  ⟨frozen_of_row _ _ _ _ _ h.h7, h.bel.setCell (p := ⟨B + 6, 3, none⟩) (by have := h.lo; show w0.heap.size ≤ B + 6; omega) _, h.lo, h.n3, h.nle, (Below.heap_setCell _ _ _ _ (by have := h.n3; show B ≠ B + 6; omega)).trans h.h1, (Below.heap_setCell _ _ _ _ (by have := h.n3; show B + 1 ≠ B + 6; omega)).trans h.h2, (Below.heap_setCell _ _ _ _ (by have := h.n3; show N3 ≠ B + 6; omega)).trans h.h3, (Below.heap_setCell _ _ _ _ (by have := h.n3; show B + 3 ≠ B + 6; omega)).trans h.h4, (Below.heap_setCell _ _ _ _ (by have := h.n3; show B + 4 ≠ B + 6; omega)).trans h.h5, (Below.heap_setCell _ _ _ _ (by have := h.n3; show B + 5 ≠ B + 6; omega)).trans h.h6, (by rw [heap_setCell_same _ (B + 6) 3 _ _ _ h.h7]; rfl), (Below.heap_setCell _ _ _ _ (by have := h.n3; show B + 7 ≠ B + 6; omega)).trans h.h8⟩
theorem Es.ss (h : Es w0 W B N3 ph g1 n0 st P s0 a1 m0 m1 nt) (x : Int) : W.frozen? ⟨B + 4, 0, none⟩ = false ∧ Es w0 (W.setCell ⟨B + 4, 0, none⟩ (.int .i64 x)) B N3 ph g1 n0 st P x a1 m0 m1 nt :=
  ⟨frozen_of_row _ _ _ _ _ h.h5, h.bel.setCell (p := ⟨B + 4, 0, none⟩) (by have := h.lo; show w0.heap.size ≤ B + 4; omega) _, h.lo, h.n3, h.nle, (Below.heap_setCell _ _ _ _ (by have := h.n3; show B ≠ B + 4; omega)).trans h.h1, (Below.heap_setCell _ _ _ _ (by have := h.n3; show B + 1 ≠ B + 4; omega)).trans h.h2, (Below.heap_setCell _ _ _ _ (by have := h.n3; show N3 ≠ B + 4; omega)).trans h.h3, (Below.heap_setCell _ _ _ _ (by have := h.n3; show B + 3 ≠ B + 4; omega)).trans h.h4, (by rw [heap_setCell_same _ (B + 4) 0 _ _ _ h.h5]; rfl), (Below.heap_setCell _ _ _ _ (by have := h.n3; show B + 5 ≠ B + 4; omega)).trans h.h6, (Below.heap_setCell _ _ _ _ (by have := h.n3; show B + 6 ≠ B + 4; omega)).trans h.h7, (Below.heap_setCell _ _ _ _ (by have := h.n3; show B + 7 ≠ B + 4; omega)).trans h.h8⟩
theorem Es.sP (h : Es w0 W B N3 ph g1 n0 st P s0 a1 m0 m1 nt) (x : Int) : W.frozen? ⟨B + 3, 4, none⟩ = false ∧ Es w0 (W.setCell ⟨B + 3, 4, none⟩ (.int .i64 x)) B N3 ph g1 n0 st x s0 a1 m0 m1 nt :=
  ⟨frozen_of_row _ _ _ _ _ h.h4, h.bel.setCell (p := ⟨B + 3, 4, none⟩) (by have := h.lo; show w0.heap.size ≤ B + 3; omega) _, h.lo, h.n3, h.nle, (Below.heap_setCell _ _ _ _ (by have := h.n3; show B ≠ B + 3; omega)).trans h.h1, (Below.heap_setCell _ _ _ _ (by have := h.n3; show B + 1 ≠ B + 3; omega)).trans h.h2, (Below.heap_setCell _ _ _ _ (by have := h.n3; show N3 ≠ B + 3; omega)).trans h.h3, (by rw [heap_setCell_same _ (B + 3) 4 _ _ _ h.h4]; rfl), (Below.heap_setCell _ _ _ _ (by have := h.n3; show B + 4 ≠ B + 3; omega)).trans h.h5, (Below.heap_setCell _ _ _ _ (by have := h.n3; show B + 5 ≠ B + 3; omega)).trans h.h6, (Below.heap_setCell _ _ _ _ (by have := h.n3; show B + 6 ≠ B + 3; omega)).trans h.h7, (Below.heap_setCell _ _ _ _ (by have := h.n3; show B + 7 ≠ B + 3; omega)).trans h.h8⟩
theorem Es.sst (h : Es w0 W B N3 ph g1 n0 st P s0 a1 m0 m1 nt) (x : Int) : W.frozen? ⟨B + 3, 3, none⟩ = false ∧ Es w0 (W.setCell ⟨B + 3, 3, none⟩ (.int .i64 x)) B N3 ph g1 n0 x P s0 a1 m0 m1 nt :=
  ⟨frozen_of_row _ _ _ _ _ h.h4, h.bel.setCell (p := ⟨B + 3, 3, none⟩) (by have := h.lo; show w0.heap.size ≤ B + 3; omega) _, h.lo, h.n3, h.nle, (Below.heap_setCell _ _ _ _ (by have := h.n3; show B ≠ B + 3; omega)).trans h.h1, (Below.heap_setCell _ _ _ _ (by have := h.n3; show B + 1 ≠ B + 3; omega)).trans h.h2, (Below.heap_setCell _ _ _ _ (by have := h.n3; show N3 ≠ B + 3; omega)).trans h.h3, (by rw [heap_setCell_same _ (B + 3) 3 _ _ _ h.h4]; rfl), (Below.heap_setCell _ _ _ _ (by have := h.n3; show B + 4 ≠ B + 3; omega)).trans h.h5, (Below.heap_setCell _ _ _ _ (by have := h.n3; show B + 5 ≠ B + 3; omega)).trans h.h6, (Below.heap_setCell _ _ _ _ (by have := h.n3; show B + 6 ≠ B + 3; omega)).trans h.h7, (Below.heap_setCell _ _ _ _ (by have := h.n3; show B + 7 ≠ B + 3; omega)).trans h.h8⟩
theorem Es.snt (h : Es w0 W B N3 ph g1 n0 st P s0 a1 m0 m1 nt) (x : Int) : W.frozen? ⟨B + 7, 7, none⟩ = false ∧ Es w0 (W.setCell ⟨B + 7, 7, none⟩ (.int .i64 x)) B N3 ph g1 n0 st P s0 a1 m0 m1 x :=
  ⟨frozen_of_row _ _ _ _ _ h.h8, h.bel.setCell (p := ⟨B + 7, 7, none⟩) (by have := h.lo; show w0.heap.size ≤ B + 7; omega) _, h.lo, h.n3, h.nle, (Below.heap_setCell _ _ _ _ (by have := h.n3; show B ≠ B + 7; omega)).trans h.h1, (Below.heap_setCell _ _ _ _ (by have := h.n3; show B + 1 ≠ B + 7; omega)).trans h.h2, (Below.heap_setCell _ _ _ _ (by have := h.n3; show N3 ≠ B + 7; omega)).trans h.h3, (Below.heap_setCell _ _ _ _ (by have := h.n3; show B + 3 ≠ B + 7; omega)).trans h.h4, (Below.heap_setCell _ _ _ _ (by have := h.n3; show B + 4 ≠ B + 7; omega)).trans h.h5, (Below.heap_setCell _ _ _ _ (by have := h.n3; show B + 5 ≠ B + 7; omega)).trans h.h6, (Below.heap_setCell _ _ _ _ (by have := h.n3; show B + 6 ≠ B + 7; omega)).trans h.h7, (by rw [heap_setCell_same _ (B + 7) 7 _ _ _ h.h8]; rfl)⟩
theorem Es.sph (h : Es w0 W B N3 ph g1 n0 st P s0 a1 m0 m1 nt) (x : Int) : W.frozen? ⟨B + 7, 0, none⟩ = false ∧ Es w0 (W.setCell ⟨B + 7, 0, none⟩ (.int .i64 x)) B N3 x g1 n0 st P s0 a1 m0 m1 nt :=
  ⟨frozen_of_row _ _ _ _ _ h.h8, h.bel.setCell (p := ⟨B + 7, 0, none⟩) (by have := h.lo; show w0.heap.size ≤ B + 7; omega) _, h.lo, h.n3, h.nle, (Below.heap_setCell _ _ _ _ (by have := h.n3; show B ≠ B + 7; omega)).trans h.h1, (Below.heap_setCell _ _ _ _ (by have := h.n3; show B + 1 ≠ B + 7; omega)).trans h.h2, (Below.heap_setCell _ _ _ _ (by have := h.n3; show N3 ≠ B + 7; omega)).trans h.h3, (Below.heap_setCell _ _ _ _ (by have := h.n3; show B + 3 ≠ B + 7; omega)).trans h.h4, (Below.heap_setCell _ _ _ _ (by have := h.n3; show B + 4 ≠ B + 7; omega)).trans h.h5, (Below.heap_setCell _ _ _ _ (by have := h.n3; show B + 5 ≠ B + 7; omega)).trans h.h6, (Below.heap_setCell _ _ _ _ (by have := h.n3; show B + 6 ≠ B + 7; omega)).trans h.h7, (by rw [heap_setCell_same _ (B + 7) 0 _ _ _ h.h8]; rfl)⟩
theorem Es.sm0 (h : Es w0 W B N3 ph g1 n0 st P s0 a1 m0 m1 nt) (b : Bool) : W.frozen? ⟨B + 6, 2, none⟩ = false ∧ Es w0 (W.setCell ⟨B + 6, 2, none⟩ (.bool b)) B N3 ph g1 n0 st P s0 a1 b m1 nt :=
  ⟨frozen_of_row _ _ _ _ _ h.h7, h.bel.setCell (p := ⟨B + 6, 2, none⟩) (by have := h.lo; show w0.heap.size ≤ B + 6; omega) _, h.lo, h.n3, h.nle, (Below.heap_setCell _ _ _ _ (by have := h.n3; show B ≠ B + 6; omega)).trans h.h1, (Below.heap_setCell _ _ _ _ (by have := h.n3; show B + 1 ≠ B + 6; omega)).trans h.h2, (Below.heap_setCell _ _ _ _ (by have := h.n3; show N3 ≠ B + 6; omega)).trans h.h3, (Below.heap_setCell _ _ _ _ (by have := h.n3; show B + 3 ≠ B + 6; omega)).trans h.h4, (Below.heap_setCell _ _ _ _ (by have := h.n3; show B + 4 ≠ B + 6; omega)).trans h.h5, (Below.heap_setCell _ _ _ _ (by have := h.n3; show B + 5 ≠ B + 6; omega)).trans h.h6, (by rw [heap_setCell_same _ (B + 6) 2 _ _ _ h.h7]; rfl), (Below.heap_setCell _ _ _ _ (by have := h.n3; show B + 7 ≠ B + 6; omega)).trans h.h8⟩
theorem Es.sm1 (h : Es w0 W B N3 ph g1 n0 st P s0 a1 m0 m1 nt) (b : Bool) : W.frozen? ⟨B + 6, 5, none⟩ = false ∧ Es w0 (W.setCell ⟨B + 6, 5, none⟩ (.bool b)) B N3 ph g1 n0 st P s0 a1 m0 b nt :=
  ⟨frozen_of_row _ _ _ _ _ h.h7, h.bel.setCell (p := ⟨B + 6, 5, none⟩) (by have := h.lo; show w0.heap.size ≤ B + 6; omega) _, h.lo, h.n3, h.nle, (Below.heap_setCell _ _ _ _ (by have := h.n3; show B ≠ B + 6; omega)).trans h.h1, (Below.heap_setCell _ _ _ _ (by have := h.n3; show B + 1 ≠ B + 6; omega)).trans h.h2, (Below.heap_setCell _ _ _ _ (by have := h.n3; show N3 ≠ B + 6; omega)).trans h.h3, (Below.heap_setCell _ _ _ _ (by have := h.n3; show B + 3 ≠ B + 6; omega)).trans h.h4, (Below.heap_setCell _ _ _ _ (by have := h.n3; show B + 4 ≠ B + 6; omega)).trans h.h5, (Below.heap_setCell _ _ _ _ (by have := h.n3; show B + 5 ≠ B + 6; omega)).trans h.h6, (by rw [heap_setCell_same _ (B + 6) 5 _ _ _ h.h7]; rfl), (Below.heap_setCell _ _ _ _ (by have := h.n3; show B + 7 ≠ B + 6; omega)).trans h.h8⟩
theorem Es.sn0 (h : Es w0 W B N3 ph g1 n0 st P s0 a1 m0 m1 nt) : W.frozen? ⟨B + 3, 2, none⟩ = false ∧ Es w0 (W.setCell ⟨B + 3, 2, none⟩ (.slice (some ⟨B + 1, 0, none⟩) 15 16)) B N3 ph g1 15 st P s0 a1 m0 m1 nt :=
  ⟨frozen_of_row _ _ _ _ _ h.h4, h.bel.setCell (p := ⟨B + 3, 2, none⟩) (by have := h.lo; show w0.heap.size ≤ B + 3; omega) _, h.lo, h.n3, by omega, (Below.heap_setCell _ _ _ _ (by have := h.n3; show B ≠ B + 3; omega)).trans h.h1, (Below.heap_setCell _ _ _ _ (by have := h.n3; show B + 1 ≠ B + 3; omega)).trans h.h2, (Below.heap_setCell _ _ _ _ (by have := h.n3; show N3 ≠ B + 3; omega)).trans h.h3, (by rw [heap_setCell_same _ (B + 3) 2 _ _ _ h.h4]; rfl), (Below.heap_setCell _ _ _ _ (by have := h.n3; show B + 4 ≠ B + 3; omega)).trans h.h5, (Below.heap_setCell _ _ _ _ (by have := h.n3; show B + 5 ≠ B + 3; omega)).trans h.h6, (Below.heap_setCell _ _ _ _ (by have := h.n3; show B + 6 ≠ B + 3; omega)).trans h.h7, (Below.heap_setCell _ _ _ _ (by have := h.n3; show B + 7 ≠ B + 3; omega)).trans h.h8⟩
theorem Es.sg3 (h : Es w0 W B N3 ph g1 n0 st P s0 a1 m0 m1 nt) (hN : W.heap[N]? = some (.cells (cells (List.replicate 16 0)).toArray 3 (0, 0))) (hl : B + 7 < N) : W.frozen? ⟨B + 3, 5, none⟩ = false ∧ Es w0 (W.setCell ⟨B + 3, 5, none⟩ (.slice (some ⟨N, 0, none⟩) 16 16)) B N ph g1 n0 st P s0 a1 m0 m1 nt :=
  ⟨frozen_of_row _ _ _ _ _ h.h4, h.bel.setCell (p := ⟨B + 3, 5, none⟩) (by have := h.lo; show w0.heap.size ≤ B + 3; omega) _, h.lo, ⟨by omega, .inr hl⟩, h.nle, (Below.heap_setCell _ _ _ _ (by have := h.n3; show B ≠ B + 3; omega)).trans h.h1, (Below.heap_setCell _ _ _ _ (by have := h.n3; show B + 1 ≠ B + 3; omega)).trans h.h2, (Below.heap_setCell _ _ _ _ (by show N ≠ B + 3; omega)).trans hN, (by rw [heap_setCell_same _ (B + 3) 5 _ _ _ h.h4]; rfl), (Below.heap_setCell _ _ _ _ (by have := h.n3; show B + 4 ≠ B + 3; omega)).trans h.h5, (Below.heap_setCell _ _ _ _ (by have := h.n3; show B + 5 ≠ B + 3; omega)).trans h.h6, (Below.heap_setCell _ _ _ _ (by have := h.n3; show B + 6 ≠ B + 3; omega)).trans h.h7, (Below.heap_setCell _ _ _ _ (by have := h.n3; show B + 7 ≠ B + 3; omega)).trans h.h8⟩
theorem ints_zero {M n : Nat} (k : W.heap[M]? = some (.cells (cells (List.replicate 16 0)).toArray 3 (0, 0))) (hn : n ≤ 16) : Ints W Any (.slice (some ⟨M, 0, none⟩) n 16) (List.replicate n 0) := by
  refine ⟨_, 16, by rw [List.length_replicate], by rw [List.length_replicate]; omega, fun i hi => ⟨_, 0, rfl, trivial, block_lt k, ?_⟩⟩
  rw [List.length_replicate] at hi
  rw [Nat.zero_add]
  refine cell_of k ?_
  rw [List.getElem?_toArray]
  unfold cells
  rw [List.getElem?_map, List.getElem?_replicate, if_pos (by omega), List.getD_eq_getElem?_getD, List.getElem?_replicate, if_pos hi]; rfl
theorem wf_few {x : Int} (h1 : -1000 ≤ x) (h2 : x ≤ 1000) : WfI x := wfI (by omega) (by omega)
theorem Es.isV (h : Es w0 W B N3 ph g1 n0 st P s0 a1 m0 m1 nt) (w1 : WfI g1) (w2 : WfI s0) (w3 : WfI a1) : IsV W (VE ph g1 n0 st P s0 a1 m0 m1 nt) (.slice (some ⟨B, 0, none⟩) 2 2) (.slice (some ⟨B + 3, 0, none⟩) 2 2) (.slice (some ⟨B + 6, 0, none⟩) 2 2) := by
  refine ⟨ints_lit (zs := [64, g1]) h.h1 rfl (by decide), ⟨_, 2, rfl, by show 2 ≤ 9223372036854775807; decide, ?_⟩, ⟨_, 2, rfl, by show 2 ≤ 9223372036854775807; decide, ?_⟩, ?_⟩
  · refine two_cases ⟨_, 0, _, rfl, block_lt h.h4, cell_of h.h4 rfl, cell_of h.h4 rfl, cell_of h.h4 rfl, ints_zero h.h2 h.nle⟩ ⟨_, 0, _, rfl, block_lt h.h4, cell_of h.h4 rfl, cell_of h.h4 rfl, cell_of h.h4 rfl, ints_zero h.h3 (Nat.le_refl _)⟩
  · refine two_cases ⟨_, 0, _, rfl, block_lt h.h7, cell_of h.h7 rfl, cell_of h.h7 rfl, cell_of h.h7 rfl, ints_lit (zs := [s0]) h.h5 rfl (by decide)⟩ ⟨_, 0, _, rfl, block_lt h.h7, cell_of h.h7 rfl, cell_of h.h7 rfl, cell_of h.h7 rfl, ints_lit (zs := [0, 64]) h.h6 rfl (by decide)⟩
  · refine ⟨fun x hx => ?_, fun g hg x hx => ?_, fun o ho => ?_, fun o ho x hx => ?_⟩
    · have hx : x ∈ [64, g1] := hx
      rw [List.mem_cons, List.mem_singleton] at hx
      rcases hx with rfl | rfl
      · exact wf_few (by omega) (by omega)
      · exact w1
    · have hg : g ∈ [((2 : Int), (0 : Int), List.replicate n0 (0 : Int)), (st, P, List.replicate 16 0)] := hg
      rw [List.mem_cons, List.mem_singleton] at hg
      rcases hg with rfl | rfl
      · rw [List.eq_of_mem_replicate hx]; decide
      · rw [List.eq_of_mem_replicate hx]; decide
    · have ho : o ∈ [((64 : Int), [s0], m0), (a1, [0, 64], m1)] := ho
      rw [List.mem_cons, List.mem_singleton] at ho
      rcases ho with rfl | rfl
      · exact wf_few (show (-1000 : Int) ≤ 64 by omega) (show (64 : Int) ≤ 1000 by omega)
      · exact w3
    · have ho : o ∈ [((64 : Int), [s0], m0), (a1, [0, 64], m1)] := ho
      rw [List.mem_cons, List.mem_singleton] at ho
      rcases ho with rfl | rfl
      · have hx : x ∈ [s0] := hx
        rw [List.mem_singleton.1 hx]; exact w2
      · have hx : x ∈ [(0 : Int), 64] := hx
        rw [List.mem_cons, List.mem_singleton] at hx
        rcases hx with rfl | rfl
        · decide
        · decide
theorem ve_few (h : n0 ≤ 16) : Fw (VE ph g1 n0 st P s0 a1 m0 m1 nt) := by
  refine ⟨by show 2 ≤ 40; omega, by show 2 ≤ 40; omega, by show 2 ≤ 40; omega, fun g hg => ?_, fun o ho => ?_⟩
  · have hg : g ∈ [((2 : Int), (0 : Int), List.replicate n0 (0 : Int)), (st, P, List.replicate 16 0)] := hg
    rw [List.mem_cons, List.mem_singleton] at hg
    rcases hg with rfl | rfl
    · show (List.replicate n0 (0 : Int)).length ≤ 40
      rw [List.length_replicate]; omega
    · show (List.replicate 16 (0 : Int)).length ≤ 40
      rw [List.length_replicate]; omega
  · have ho : o ∈ [((64 : Int), [s0], m0), (a1, [0, 64], m1)] := ho
    rw [List.mem_cons, List.mem_singleton] at ho
    rcases ho with rfl | rfl
    · show 1 ≤ 300; omega
    · show 2 ≤ 300; omega
theorem ve_wfp (h : WfI P) : ∀ g ∈ (VE ph g1 n0 st P s0 a1 m0 m1 nt).gs, WfI g.2.1 := fun g hg => by
  have hg : g ∈ [((2 : Int), (0 : Int), List.replicate n0 (0 : Int)), (st, P, List.replicate 16 0)] := hg
  rw [List.mem_cons, List.mem_singleton] at hg
  rcases hg with rfl | rfl
  · show WfI 0
    decide
  · exact h
theorem Es.box (h : Es w0 W B N3 ph g1 n0 st P s0 a1 m0 m1 nt) : Box9 (B + 7) (VE ph g1 n0 st P s0 a1 m0 m1 nt) (.slice (some ⟨B, 0, none⟩) 2 2) (.slice (some ⟨B + 3, 0, none⟩) 2 2) (.slice (some ⟨B + 6, 0, none⟩) 2 2) W :=
  ⟨cell_of h.h8 rfl, cell_of h.h8 rfl, cell_of h.h8 rfl, cell_of h.h8 rfl, cell_of h.h8 rfl, cell_of h.h8 rfl, cell_of h.h8 rfl, cell_of h.h8 rfl, cell_of h.h8 rfl⟩
/-- What the rest asks: the view in its box, of few, its answers. -/
def Sp (w0 W : World) (B : Nat) (V : Vi) : Prop := Below w0.heap.size w0 W ∧ IsV W V (.slice (some ⟨B, 0, none⟩) 2 2) (.slice (some ⟨B + 3, 0, none⟩) 2 2) (.slice (some ⟨B + 6, 0, none⟩) 2 2) ∧ Box9 (B + 7) V (.slice (some ⟨B, 0, none⟩) 2 2) (.slice (some ⟨B + 3, 0, none⟩) 2 2) (.slice (some ⟨B + 6, 0, none⟩) 2 2) W ∧ Fw V ∧ ∀ g ∈ V.gs, WfI g.2.1
theorem Es.sp (h : Es w0 W B N3 ph g1 n0 st P s0 a1 m0 m1 nt) (w1 : WfI g1) (w2 : WfI s0) (w3 : WfI a1) (w4 : WfI P) : Sp w0 W B (VE ph g1 n0 st P s0 a1 m0 m1 nt) := ⟨h.bel, h.isV w1 w2 w3, h.box, ve_few h.nle, ve_wfp w4⟩
theorem Sp.below {V : Vi} (h : Sp w0 W B V) (hb : Below W.heap.size W w') : Sp w0 w' B V := ⟨h.1.trans (hb.mono h.1.size), h.2.1.below hb, h.2.2.1.below hb, h.2.2.2⟩
theorem Es.start (w : World) : ∃ U, (((((((w.alloc (.cells #[.int .i64 64, .int .i64 0] 3)).alloc (.cells (cells (List.replicate 16 0)).toArray 3)).alloc (.cells (cells (List.replicate 16 0)).toArray 3)).alloc (.cells #[.int .i64 2, .int .i64 0, .slice (some ⟨w.heap.size + 1, 0, none⟩) 16 16, .int .i64 3, .int .i64 (-1), .slice (some ⟨w.heap.size + 1 + 1, 0, none⟩) 16 16] 26)).alloc (.cells #[.int .i64 68] 3)).alloc (.cells #[.int .i64 0, .int .i64 64] 3)).alloc (.cells #[.int .i64 64, .slice (some ⟨w.heap.size + 1 + 1 + 1 + 1, 0, none⟩) 1 1, .bool false, .int .i64 68, .slice (some ⟨w.heap.size + 1 + 1 + 1 + 1 + 1, 0, none⟩) 2 2, .bool false] 29)).alloc (.cells #[.int .i64 0, .int .i64 0, .int .i64 0, .slice (some ⟨w.heap.size, 0, none⟩) 2 2, .slice (some ⟨w.heap.size + 1 + 1 + 1, 0, none⟩) 2 2, .slice (some ⟨w.heap.size + 1 + 1 + 1 + 1 + 1 + 1, 0, none⟩) 2 2, .int .i64 0, .int .i64 0, .int .i64 0] 32) = U ∧ Es w U w.heap.size (w.heap.size + 2) 0 0 16 3 (-1) 68 68 false false 0 := by
  refine ⟨_, rfl, ?_⟩
  obtain ⟨U6, e6, k1, k2, k3, k4, k5, k6, hb⟩ := al6 w (.cells #[.int .i64 64, .int .i64 0] 3) (.cells (cells (List.replicate 16 0)).toArray 3) (.cells (cells (List.replicate 16 0)).toArray 3) (.cells #[.int .i64 2, .int .i64 0, .slice (some ⟨w.heap.size + 1, 0, none⟩) 16 16, .int .i64 3, .int .i64 (-1), .slice (some ⟨w.heap.size + 1 + 1, 0, none⟩) 16 16] 26) (.cells #[.int .i64 68] 3) (.cells #[.int .i64 0, .int .i64 64] 3)
  have s6 : U6.heap.size = w.heap.size + 6 := by rw [← e6]; simp only [s_alloc]
  rw [e6]
  have k7 := heap_alloc_new U6 (.cells #[.int .i64 64, .slice (some ⟨w.heap.size + 1 + 1 + 1 + 1, 0, none⟩) 1 1, .bool false, .int .i64 68, .slice (some ⟨w.heap.size + 1 + 1 + 1 + 1 + 1, 0, none⟩) 2 2, .bool false] 29)
  have b7 := below_alloc (Below.refl _ U6) (.cells #[.int .i64 64, .slice (some ⟨w.heap.size + 1 + 1 + 1 + 1, 0, none⟩) 1 1, .bool false, .int .i64 68, .slice (some ⟨w.heap.size + 1 + 1 + 1 + 1 + 1, 0, none⟩) 2 2, .bool false] 29)
  obtain ⟨U7, e7⟩ : ∃ U7, U6.alloc (.cells #[.int .i64 64, .slice (some ⟨w.heap.size + 1 + 1 + 1 + 1, 0, none⟩) 1 1, .bool false, .int .i64 68, .slice (some ⟨w.heap.size + 1 + 1 + 1 + 1 + 1, 0, none⟩) 2 2, .bool false] 29) = U7 := ⟨_, rfl⟩
  have s7 : U7.heap.size = w.heap.size + 7 := by rw [← e7, s_alloc, s6]
  rw [e7] at k7 b7 ⊢
  rw [s6] at k7
  have b8 := below_alloc (Below.refl _ U7) (.cells #[.int .i64 0, .int .i64 0, .int .i64 0, .slice (some ⟨w.heap.size, 0, none⟩) 2 2, .slice (some ⟨w.heap.size + 1 + 1 + 1, 0, none⟩) 2 2, .slice (some ⟨w.heap.size + 1 + 1 + 1 + 1 + 1 + 1, 0, none⟩) 2 2, .int .i64 0, .int .i64 0, .int .i64 0] 32)
  have k8 := heap_alloc_new U7 (.cells #[.int .i64 0, .int .i64 0, .int .i64 0, .slice (some ⟨w.heap.size, 0, none⟩) 2 2, .slice (some ⟨w.heap.size + 1 + 1 + 1, 0, none⟩) 2 2, .slice (some ⟨w.heap.size + 1 + 1 + 1 + 1 + 1 + 1, 0, none⟩) 2 2, .int .i64 0, .int .i64 0, .int .i64 0] 32)
  rw [s7] at k8
  have kp : ∀ {i : Nat} {o : Go.Obj}, U6.heap[i]? = some o → i < U6.heap.size → (U7.alloc (.cells #[.int .i64 0, .int .i64 0, .int .i64 0, .slice (some ⟨w.heap.size, 0, none⟩) 2 2, .slice (some ⟨w.heap.size + 1 + 1 + 1, 0, none⟩) 2 2, .slice (some ⟨w.heap.size + 1 + 1 + 1 + 1 + 1 + 1, 0, none⟩) 2 2, .int .i64 0, .int .i64 0, .int .i64 0] 32)).heap[i]? = some o := fun h hi => (b8.block _ (by omega)).trans ((b7.block _ hi).trans h)
  exact ⟨hb.trans ((b7.trans (b8.mono b7.size)).mono hb.size), rfl, ⟨by omega, .inl rfl⟩, Nat.le_refl _, kp k1 (by omega), kp k2 (by omega), kp k3 (by omega), kp k4 (by omega), kp k5 (by omega), kp k6 (by omega), (b8.block _ (by omega)).trans k7, k8⟩
theorem made_ints (n : Nat) : madeCells #[Value.int .i64 0] n = (cells (List.replicate n 0)).toArray := by
  unfold madeCells cells
  apply Array.ext'
  simp only [List.map_replicate, Array.toList_map, Array.toList_range]
  refine List.ext_getElem (by simp) fun i h1 h2 => ?_
  simp [Nat.mod_one]
set_option maxRecDepth 100000 in
theorem stk_any (w : World) : Calls Try.prog 12 #[] w fun e w' => e = .returned (.slice (some ⟨w.heap.size, 0, none⟩) 16 16) ∧ w' = w.alloc (.cells (cells (List.replicate 16 0)).toArray 3) := by
  have hmk : ∀ W : World, (Instr.makeSlice 23 (.int .i64 16) (.int .i64 16)).run Try.prog W = .ok (.slice (some ⟨W.heap.size, 0, none⟩) 16 16) (W.alloc (.cells (cells (List.replicate 16 0)).toArray 3)) := fun W => by
    have := run_make_row' (P := Try.prog) 23 3 (.int .i64 0) 8 Try.underlying23 (by kernel_rfl) rfl .i64 .i64 16 (by omega) (by omega) W
    rw [made_ints] at this
    exact this
  obtain ⟨CC, hCC⟩ : ∃ CC, (cells (List.replicate 16 0)).toArray = CC := ⟨_, rfl⟩
  rw [hCC] at hmk ⊢
  go_enter Try.func12, Try.ntmps12
  go_wp2_with fail
  go_ret
  exact ⟨rfl, rfl⟩
end Vw
end Go.Proofs.Ytneibhcigbfigaa
