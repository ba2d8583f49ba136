import Derived.Test.YtdnajpnnjfncbaaDoorMA1
import Derived.Deep.Slices
/- A slice of bools that came in, as the walk asks it. -/
namespace Go.Proofs.YtdnajpnnjfncbaaDoor
open Go.ChangeShapes Go.WideShapes Go.WideElems Go.RowKit Go.Lib Go.Deep Fx Ho
set_option linter.unusedVariables false
namespace Rw
/-- The slice v holds the bools zs. -/
def BoolsArg (w : World) (v : Value) (zs : List Bool) : Prop :=
  ∃ sp cap, v = .slice sp zs.length cap ∧ zs.length ≤ 9223372036854775807 ∧ ∀ i, i < zs.length → ∃ b off, sp = some ⟨b, off, none⟩ ∧ b < w.heap.size ∧ w.cell? ⟨b, off + i, none⟩ = some (.bool (zs.getD i false))
section
variable {H : Type} {enc : TypeId × Value → H}
set_option maxRecDepth 100000 in
theorem bools_arg {W : World} {base : Nat} {v : Value} {d : DataW H} {p : List MemPlace} (hval : Value.okWide Tryd.prog W .any base 50 v) (h : DataW.Trod enc Tryd.prog W 0 (fun _ => true) true 50 v d p) : ∃ zs, BoolsArg W v zs := by
  obtain ⟨a0, len, cap, rfl⟩ := okWide_slice Tryd.underlying50 hval
  obtain ⟨fuel, hf⟩ := h
  rcases open_slice Tryd.underlying50 hf with ⟨hcs, _⟩ | ⟨a, len', cap', m, n, D, Pl, hcs, _, hl, hm, hmm, _, hx⟩
  · simp [Value.cells] at hcs
    obtain ⟨rfl, rfl, rfl⟩ := hcs
    exact ⟨[], none, 0, rfl, by simp, fun i hi => by simp at hi⟩
  · simp [Value.cells] at hcs
    obtain ⟨rfl, rfl, rfl⟩ := hcs
    simp only [if_true] at hmm
    have ce : Tryd.prog.cellsOf 4 = 1 := by kernel_rfl
    have each : ∀ i, i < m → ∃ q : Bool, W.cell? (a.add i) = some (.bool q) := by
      intro i hi
      obtain ⟨cs', h1, h2⟩ := hx i hi
      rw [ce] at h1
      obtain ⟨_, hlen, hcell⟩ := World.cells?_some h1
      match cs', hlen with
      | [v0], _ =>
        obtain ⟨n2, e2, _⟩ := DataW.trod_bool Tryd.underlying4 h2
        have k0 := hcell 0 (by omega)
        rw [add_add] at k0
        exact ⟨n2, by simpa [e2] using k0⟩
    obtain ⟨q, hq⟩ := choose_lt each
    by_cases h0 : len = 0
    · subst h0; exact ⟨[], some a, cap, rfl, by simp, fun i hi => by simp at hi⟩
    · obtain ⟨b, off, spot⟩ := a
      have hlm : len ≤ m := by omega
      have c0 := hq 0 (by omega)
      have hspot : spot = none := by simpa [Addr.add] using World.cell?_spot c0
      subst hspot
      have hll : ((List.range len).map q).length = len := by simp
      refine ⟨(List.range len).map q, some ⟨b, off, none⟩, cap, by rw [hll], by rw [hll]; unfold maxLen at hm; omega, fun i hi => ⟨b, off, rfl, World.block_lt_of_cell? W _ c0, ?_⟩⟩
      rw [hll] at hi
      rw [← addr_add, hq i (by omega)]
      simp [List.getD, hi]
end
end Rw
end Go.Proofs.YtdnajpnnjfncbaaDoor
