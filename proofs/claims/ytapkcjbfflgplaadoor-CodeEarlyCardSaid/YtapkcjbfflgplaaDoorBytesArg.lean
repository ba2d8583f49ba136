/- A row of bytes that came in, as the walk asks it. -/
import Derived.Test.YtapkcjbfflgplaaDoorBackKit
import Derived.ChangeSlices
import Derived.Deep.Slices
import Derived.ChangeSame
namespace Go.Proofs.YtapkcjbfflgplaaDoor
open Go.ChangeShapes Go.WideShapes Go.WideElems Go.RowKit Go.Lib Go.Deep Fx Ho
set_option linter.unusedVariables false
namespace Cd
section
variable {H : Type} {enc : TypeId × Value → H}
set_option maxRecDepth 100000 in
theorem bytes_arg {W : World} {base : Nat} {v : Value} {d : DataW H} {p : List MemPlace} (hval : Value.okWide Tryd.prog W .any base 62 v) (h : DataW.Trod enc Tryd.prog W 0 (fun _ => true) true 62 v d p) : ∃ zs, BRow W (fun k => k < W.heap.size) v zs := by
  obtain ⟨a0, len, cap, rfl⟩ := okWide_slice Tryd.underlying62 hval
  obtain ⟨fuel, hf⟩ := h
  rcases open_ints Tryd.underlying62 Tryd.underlying5 (by kernel_rfl) hf with ⟨hcs, _⟩ | ⟨a, len', cap', zs, hcs, _, hl, hm, hz, _, hcell, hwf⟩
  · simp [Value.cells] at hcs
    obtain ⟨rfl, rfl, rfl⟩ := hcs
    exact ⟨[], none, 0, rfl, by simp, fun i hi => by simp at hi⟩
  · simp [Value.cells] at hcs
    obtain ⟨rfl, rfl, rfl⟩ := hcs
    simp only [if_true] at hz
    by_cases h0 : len = 0
    · subst h0; exact ⟨[], some a, cap, rfl, by simp, fun i hi => by simp at hi⟩
    · obtain ⟨b, off, spot⟩ := a
      have hspot : spot = none := by simpa [Addr.add] using World.cell?_spot (hcell 0 (by omega))
      subst hspot
      have hlen : (zs.take len).length = len := by rw [List.length_take]; omega
      have hb := World.block_lt_of_cell? W _ (hcell 0 (by omega))
      refine ⟨zs.take len, some ⟨b, off, none⟩, cap, by rw [hlen], by rw [hlen]; unfold maxLen at hm; omega, fun i hi => ?_⟩
      rw [hlen] at hi
      have e : (zs.take len).getD i 0 = zs.getD i 0 := by simp [List.getD, hi]
      have hw := wf_u8 (hwf (zs.getD i 0) (by rw [List.getD_eq_getElem?_getD, List.getElem?_eq_getElem (by omega)]; exact List.getElem_mem _))
      refine ⟨b, off, rfl, hb, hb, ?_, by rw [e]; exact hw.1, by rw [e]; exact hw.2⟩
      rw [← addr_add, hcell i (by omega), e]
end
end Cd
end Go.Proofs.YtapkcjbfflgplaaDoor
