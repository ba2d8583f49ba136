/- What the statements of code all ask first: told. -/
import Derived.Test.YtapkcjbfflgplaaDoorEncode
import Derived.Test.YtapkcjbfflgplaaDoorDecode
import Derived.Laws.BytesString
import Derived.Laws.IdiomStrings
namespace Go.Proofs.YtapkcjbfflgplaaDoor
open Go.RowKit Go.Lib Fx Ho Gr
set_option linter.unusedVariables false
namespace Cd
variable {w w' W wr : World} {v fv : Value} {G nf len n : Int} {fs : List (List Ins)} {zs A : List Int} {l : List Ins}
theorem brow_new (w : World) (zs : List Int) (e : TypeId) (hz : ∀ i, i < zs.length → 0 ≤ zs.getD i 0 ∧ zs.getD i 0 < 256) (hl : zs.length ≤ 1000000) : BRow (w.alloc (.cells (u8s zs).toArray e)) (fun k => k < (w.alloc (.cells (u8s zs).toArray e)).heap.size) (.slice (some ⟨w.heap.size, 0, none⟩) zs.length zs.length) zs := by
  have hb := heap_alloc_new w (.cells (u8s zs).toArray e)
  refine ⟨_, _, rfl, by omega, fun i hi => ⟨_, _, rfl, block_lt hb, block_lt hb, ?_, hz i hi⟩⟩
  rw [Nat.zero_add]
  refine cell_of hb ?_
  rw [List.getElem?_toArray]
  unfold u8s
  rw [List.getElem?_map, List.getElem?_eq_getElem hi, List.getD_eq_getElem?_getD, List.getElem?_eq_getElem hi]; rfl
def byts (zs : List Int) : ByteArray := ⟨(zs.map (fun z => UInt8.ofNat z.toNat)).toArray⟩
theorem grow_str (h : GRow 1 w v zs.length (u8s zs)) (h0 : 0 < zs.length) (hz : ∀ i, i < zs.length → 0 ≤ zs.getD i 0 ∧ zs.getD i 0 < 256) : (convert 62 9 v).run Tryd.prog w = .ok (.string (byts zs)) w := by
  obtain ⟨ao, b, off, cap, rfl, hle, hm, hc, hcell⟩ := h.cell
  obtain ⟨rfl, hb, _⟩ := hc (by omega)
  have := run_convert_bytes_back (P := Tryd.prog) w 62 9 5 ⟨b, off, none⟩ cap (zs.map (fun z => UInt8.ofNat z.toNat)) Tryd.underlying62 Tryd.underlying5 Tryd.underlying9 (fun j hj => by
    have hj' : j < zs.length := by simpa using hj
    rw [addr_add]
    rw [(hcell j (.int .u8 (zs.getD j 0)) (by unfold u8s; rw [List.getElem?_map, List.getElem?_eq_getElem hj', List.getD_eq_getElem?_getD, List.getElem?_eq_getElem hj']; rfl)).1]
    have hzz := hz j hj'
    have e1 : zs.getD j 0 = zs[j] := by rw [List.getD_eq_getElem?_getD, List.getElem?_eq_getElem hj']; rfl
    rw [e1] at hzz ⊢
    simp only [List.getElem_map]
    rw [show (UInt8.ofNat zs[j].toNat).toNat = zs[j].toNat % 256 from UInt8.toNat_ofNat']
    congr 2
    omega)
  rw [List.length_map] at this
  exact this
theorem prog1 : progE [1, 0, 1, 0, 0, 0, 0] = .ok (0, [[(0, 0, 0, 0)]]) := by rfl
theorem prog2 : progE [1, 0, 1, 14, 1, 0, 0] = .error 4 := by rfl
theorem may1 : MayIs 0 [[(0, 0, 0, 0)]] 0 := by
  refine .inr (.inl ⟨⟨by decide, by decide, by decide, by decide, fun i hi => ?_⟩, fun i hi j hj => ?_, rfl⟩)
  · obtain rfl : i = 0 := by simp at hi; omega
    decide
  · obtain rfl : i = 0 := by simp at hi; omega
    obtain rfl : j = 0 := by simp at hj; omega
    rfl
theorem may2 : MayIs 0 [] 1 := .inl ⟨fun h => by have := h.1; simp at this, rfl⟩
end Cd
end Go.Proofs.YtapkcjbfflgplaaDoor
