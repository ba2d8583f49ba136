/- A slice of operations (structs of two numbers and a bool) that came in, as the walk asks it. -/
import Derived.Test.YtoamabmnbldgkaaDoorPlaysAt
import Derived.Deep.Slices
namespace Go.Proofs.YtoamabmnbldgkaaDoor
open Go.ChangeShapes Go.WideShapes Go.WideElems Go.RowKit Go.Lib Go.Deep Fx Bm
set_option linter.unusedVariables false

/-- The slice v holds L operations: their kinds, numbers and bools. -/
def OpsArg (w : World) (v : Value) (L : Nat) (kf xf : Nat → Int) (hf : Nat → Bool) : Prop :=
  (∃ sp cap, v = .slice sp 0 cap ∧ L = 0) ∨ ∃ b off cap, v = .slice (some ⟨b, off, none⟩) L cap ∧ L ≤ 9223372036854775807 ∧ b < w.heap.size ∧
    ∀ i, i < L → w.cell? ⟨b, off + i * 3, none⟩ = some (.int .i64 (kf i)) ∧ w.cell? ⟨b, off + (i * 3 + 1), none⟩ = some (.int .i64 (xf i)) ∧ w.cell? ⟨b, off + (i * 3 + 2), none⟩ = some (.bool (hf i)) ∧ (Lit.int .i64 (kf i)).wf = true ∧ (Lit.int .i64 (xf i)).wf = true

theorem OpsArg.at_ {w : World} {v : Value} {L : Nat} {kf xf : Nat → Int} {hf : Nat → Bool} (h : OpsArg w v L kf xf hf) : ∃ sp cap, v = .slice sp L cap ∧ L ≤ 9223372036854775807 ∧ ∀ i, i < L → ∃ b off, sp = some ⟨b, off, none⟩ ∧ b < w.heap.size ∧
    w.cell? ⟨b, off + i * 3, none⟩ = some (.int .i64 (kf i)) ∧ w.cell? ⟨b, off + (i * 3 + 1), none⟩ = some (.int .i64 (xf i)) ∧ w.cell? ⟨b, off + (i * 3 + 2), none⟩ = some (.bool (hf i)) ∧ (Lit.int .i64 (kf i)).wf = true ∧ (Lit.int .i64 (xf i)).wf = true := by
  rcases h with ⟨sp, cap, rfl, rfl⟩ | ⟨b, off, cap, rfl, h1, h2, h3⟩
  · exact ⟨sp, cap, rfl, by omega, fun i hi => by omega⟩
  · exact ⟨_, cap, rfl, h1, fun i hi => ⟨b, off, rfl, h2, h3 i hi⟩⟩

section
variable {H : Type} {enc : TypeId × Value → H}
theorem ops_arg {W : World} {v : Value} {d : DataW H} {p : List MemPlace} (hval : Value.okWide Tryd.prog W .any 0 22 v) (h : DataW.Trod enc Tryd.prog W 0 (fun _ => true) true 22 v d p) : ∃ L kf xf hf, OpsArg W v L kf xf hf := by
  obtain ⟨a0, len, cap, rfl⟩ := okWide_slice Tryd.underlying22 hval
  obtain ⟨fuel, hf⟩ := h
  rcases open_slice Tryd.underlying22 hf with ⟨hcs, _⟩ | ⟨a, len', cap', m, n, D, Pl, hcs, _, hl, hm, hmm, _, hx⟩
  · simp [Value.cells] at hcs
    obtain ⟨rfl, rfl, rfl⟩ := hcs
    exact ⟨0, fun _ => 0, fun _ => 0, fun _ => false, Or.inl ⟨none, 0, rfl, rfl⟩⟩
  · simp [Value.cells] at hcs
    obtain ⟨rfl, rfl, rfl⟩ := hcs
    simp only [if_true] at hmm
    have ce : Tryd.prog.cellsOf 29 = 3 := by kernel_rfl
    have ci : Tryd.prog.cellsOf 3 = 1 := by kernel_rfl
    have cb : Tryd.prog.cellsOf 4 = 1 := by kernel_rfl
    have each : ∀ i, i < m → ∃ q : Int × Int × Bool, W.cell? (a.add (i * 3)) = some (.int .i64 q.1) ∧ W.cell? (a.add (i * 3 + 1)) = some (.int .i64 q.2.1) ∧ W.cell? (a.add (i * 3 + 2)) = some (.bool q.2.2) ∧ (Lit.int .i64 q.1).wf = true ∧ (Lit.int .i64 q.2.1).wf = true := by
      intro i hi
      obtain ⟨cs', h1, h2⟩ := hx i hi
      rw [ce] at h1
      obtain ⟨_, hlen, hcell⟩ := World.cells?_some h1
      obtain ⟨xs, k, hk, hxy, _, hxl, hf⟩ := DataW.trod_struct Tryd.underlying29 h2
      match xs, hxl, cs', hlen with
      | [y0, y1, y2], _, [v0, v1, v2], _ =>
        have g0 := hf 0 _ rfl
        have g1 := hf 1 _ rfl
        have g2 := hf 2 _ rfl
        simp [ci, cb] at g0 g1 g2
        obtain ⟨n0, e0, _, w0⟩ := DataW.trod_int Tryd.underlying3 g0
        obtain ⟨n1, e1, _, w1⟩ := DataW.trod_int Tryd.underlying3 g1
        obtain ⟨n2, e2, _⟩ := DataW.trod_bool Tryd.underlying4 g2
        simp at e0 e1 e2
        subst e0 e1 e2
        have k0 := hcell 0 (by omega)
        have k1 := hcell 1 (by omega)
        have k2 := hcell 2 (by omega)
        rw [add_add] at k0 k1 k2
        exact ⟨(n0, n1, n2), by simpa using k0, by simpa using k1, by simpa using k2, w0, w1⟩
    obtain ⟨q, hq⟩ := choose_lt each
    by_cases h0 : len = 0
    · subst h0; exact ⟨0, fun _ => 0, fun _ => 0, fun _ => false, Or.inl ⟨some a, cap, rfl, rfl⟩⟩
    · obtain ⟨b, off, spot⟩ := a
      have hlm : len ≤ m := by omega
      have c0 := (hq 0 (by omega)).1
      have hspot : spot = none := by simpa [Addr.add] using World.cell?_spot c0
      subst hspot
      refine ⟨len, fun i => (q i).1, fun i => (q i).2.1, fun i => (q i).2.2, Or.inr ⟨b, off, cap, rfl, by unfold maxLen at hm; omega, World.block_lt_of_cell? W _ c0, fun i hi => ?_⟩⟩
      rw [← addr_add, ← addr_add, ← addr_add]
      exact hq i (by omega)
end
end Go.Proofs.YtoamabmnbldgkaaDoor
