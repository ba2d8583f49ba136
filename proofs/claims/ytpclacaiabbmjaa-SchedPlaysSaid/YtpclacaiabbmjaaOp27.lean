/- A slice of operations (structs of some numbers and bools) that came in, as the walk asks it. -/
import Derived.Test.YtpclacaiabbmjaaRow
import Derived.Deep.Slices
namespace Go.Proofs.Ytpclacaiabbmjaa
open Go.ChangeShapes Go.WideShapes Go.WideElems Go.RowKit Go.Lib Go.Deep Fx Ho
set_option linter.unusedVariables false
namespace Rw
/-- The slice v holds the operations zs. -/
def Op27 (w : World) (v : Value) (zs : List (Int × Int × Int × Int × Int × Bool)) : Prop :=
  ∃ sp cap, v = .slice sp zs.length cap ∧ zs.length ≤ 9223372036854775807 ∧ ∀ i, i < zs.length → ∃ b off, sp = some ⟨b, off, none⟩ ∧ b < w.heap.size ∧ w.cell? ⟨b, off + i * 6, none⟩ = some (.int .i64 (zs.getD i (0, 0, 0, 0, 0, false)).1) ∧ w.cell? ⟨b, off + (i * 6 + 1), none⟩ = some (.int .i64 (zs.getD i (0, 0, 0, 0, 0, false)).2.1) ∧ w.cell? ⟨b, off + (i * 6 + 2), none⟩ = some (.int .i64 (zs.getD i (0, 0, 0, 0, 0, false)).2.2.1) ∧ w.cell? ⟨b, off + (i * 6 + 3), none⟩ = some (.int .i64 (zs.getD i (0, 0, 0, 0, 0, false)).2.2.2.1) ∧ w.cell? ⟨b, off + (i * 6 + 4), none⟩ = some (.int .i64 (zs.getD i (0, 0, 0, 0, 0, false)).2.2.2.2.1) ∧ w.cell? ⟨b, off + (i * 6 + 5), none⟩ = some (.bool (zs.getD i (0, 0, 0, 0, 0, false)).2.2.2.2.2)
section
variable {H : Type} {enc : TypeId × Value → H}
set_option maxRecDepth 100000 in
theorem op27_arg {W : World} {base : Nat} {v : Value} {d : DataW H} {p : List MemPlace} (hval : Value.okWide Try.prog W .any base 22 v) (h : DataW.Trod enc Try.prog W 0 (fun _ => true) true 22 v d p) : ∃ zs, Op27 W v zs := by
  obtain ⟨a0, len, cap, rfl⟩ := okWide_slice Try.underlying22 hval
  obtain ⟨fuel, hf⟩ := h
  rcases open_slice Try.underlying22 hf with ⟨hcs, _⟩ | ⟨a, len', cap', m, n, D, Pl, hcs, _, hl, hm, hmm, _, hx⟩
  · simp [Value.cells] at hcs
    obtain ⟨rfl, rfl, rfl⟩ := hcs
    exact ⟨[], none, 0, rfl, by simp, fun i hi => by simp at hi⟩
  · simp [Value.cells] at hcs
    obtain ⟨rfl, rfl, rfl⟩ := hcs
    simp only [if_true] at hmm
    have ce : Try.prog.cellsOf 30 = 6 := by kernel_rfl
    have cb : Try.prog.cellsOf 4 = 1 := by kernel_rfl
    have ci : Try.prog.cellsOf 3 = 1 := by kernel_rfl
    have each : ∀ i, i < m → ∃ q : Int × Int × Int × Int × Int × Bool, W.cell? (a.add (i * 6)) = some (.int .i64 q.1) ∧ W.cell? (a.add (i * 6 + 1)) = some (.int .i64 q.2.1) ∧ W.cell? (a.add (i * 6 + 2)) = some (.int .i64 q.2.2.1) ∧ W.cell? (a.add (i * 6 + 3)) = some (.int .i64 q.2.2.2.1) ∧ W.cell? (a.add (i * 6 + 4)) = some (.int .i64 q.2.2.2.2.1) ∧ W.cell? (a.add (i * 6 + 5)) = some (.bool q.2.2.2.2.2) := by
      intro i hi
      obtain ⟨cs', h1, h2⟩ := hx i hi
      rw [ce] at h1
      obtain ⟨_, hlen, hcell⟩ := World.cells?_some h1
      obtain ⟨xs, k, hk, hxy, _, hxl, hf⟩ := DataW.trod_struct Try.underlying30 h2
      match xs, hxl, cs', hlen with
      | [y0, y1, y2, y3, y4, y5], _, [v0, v1, v2, v3, v4, v5], _ =>
        have g0 := hf 0 _ rfl
        have g1 := hf 1 _ rfl
        have g2 := hf 2 _ rfl
        have g3 := hf 3 _ rfl
        have g4 := hf 4 _ rfl
        have g5 := hf 5 _ rfl
        simp [cb, ci] at g0 g1 g2 g3 g4 g5
        obtain ⟨n0, e0, _, w0⟩ := DataW.trod_int Try.underlying3 g0
        obtain ⟨n1, e1, _, w1⟩ := DataW.trod_int Try.underlying3 g1
        obtain ⟨n2, e2, _, w2⟩ := DataW.trod_int Try.underlying3 g2
        obtain ⟨n3, e3, _, w3⟩ := DataW.trod_int Try.underlying3 g3
        obtain ⟨n4, e4, _, w4⟩ := DataW.trod_int Try.underlying3 g4
        obtain ⟨n5, e5, _⟩ := DataW.trod_bool Try.underlying4 g5
        simp at e0 e1 e2 e3 e4 e5
        subst e0 e1 e2 e3 e4 e5
        have k0 := hcell 0 (by omega)
        have k1 := hcell 1 (by omega)
        have k2 := hcell 2 (by omega)
        have k3 := hcell 3 (by omega)
        have k4 := hcell 4 (by omega)
        have k5 := hcell 5 (by omega)
        rw [add_add] at k0 k1 k2 k3 k4 k5
        exact ⟨(n0, n1, n2, n3, n4, n5), by simpa using k0, by simpa using k1, by simpa using k2, by simpa using k3, by simpa using k4, by simpa using k5⟩
    obtain ⟨q, hq⟩ := choose_lt each
    by_cases h0 : len = 0
    · subst h0; exact ⟨[], some a, cap, rfl, by simp, fun i hi => by simp at hi⟩
    · obtain ⟨b, off, spot⟩ := a
      have hlm : len ≤ m := by omega
      have c0 := (hq 0 (by omega)).1
      have hspot : spot = none := by simpa [Addr.add] using World.cell?_spot c0
      subst hspot
      have hll : ((List.range len).map q).length = len := by simp
      refine ⟨(List.range len).map q, some ⟨b, off, none⟩, cap, by rw [hll], by rw [hll]; unfold maxLen at hm; omega, fun i hi => ⟨b, off, rfl, World.block_lt_of_cell? W _ c0, ?_⟩⟩
      rw [hll] at hi
      have e : ((List.range len).map q).getD i (0, 0, 0, 0, 0, false) = q i := by simp [List.getD, hi]
      rw [e, ← addr_add, ← addr_add, ← addr_add, ← addr_add, ← addr_add, ← addr_add]
      exact hq i (by omega)
end
end Rw
end Go.Proofs.Ytpclacaiabbmjaa
