/- CodeBack: rows of bytes as Decode and append ask them. -/
import Derived.Test.YtapkcjbfflgplaaDoorSame
import Derived.Test.YtapkcjbfflgplaaDoorEncDec
namespace Go.Proofs.YtapkcjbfflgplaaDoor
open Go.RowKit Go.Lib Fx Ho Gr
set_option linter.unusedVariables false
namespace Cd
variable {w w' W wr : World} {v v2 fv : Value} {G nf len n : Int} {fs : List (List Ins)} {zs A : List Int} {l : List Ins}
theorem u8_at {i : Nat} (hi : i < zs.length) : (u8s zs)[i]? = some (.int .u8 (zs.getD i 0)) := by
  unfold u8s
  rw [List.getElem?_map, List.getElem?_eq_getElem hi, List.getD_eq_getElem?_getD, List.getElem?_eq_getElem hi]; rfl
theorem brow_of (h : GRow 1 w v zs.length (u8s zs)) (hz : ∀ i, i < zs.length → 0 ≤ zs.getD i 0 ∧ zs.getD i 0 < 256) : BRow w (fun k => k < w.heap.size) v zs := by
  obtain ⟨ao, b, off, cap, rfl, hle, hm, hc, hcell⟩ := h.cell
  refine ⟨ao, cap, rfl, by unfold maxLen at hm; omega, fun i hi => ?_⟩
  obtain ⟨rfl, hb, _⟩ := hc (by omega)
  exact ⟨b, off, rfl, hb, hb, (hcell i _ (u8_at hi)).1, hz i hi⟩
theorem src_grow (h : GRow 1 w v zs.length (u8s zs)) (h0 : 0 < zs.length) : Src Tryd.prog 1 62 v zs.length (u8s zs) w := by
  obtain ⟨ao, b, off, cap, rfl, hle, hm, hc, hcell⟩ := h.cell
  obtain ⟨rfl, hb, _⟩ := hc (by omega)
  exact Src.ofSlice _ Tryd.underlying62 ⟨b, off, none⟩ zs.length cap (u8s zs) (by rw [u8s_len]; omega) (fun j u hj => by rw [addr_add]; exact (hcell j u hj).1) (fun u hu => by
    obtain ⟨z, _, rfl⟩ := List.mem_map.1 hu
    rfl)
theorem lit_row {W : World} {K : Nat} (h : K < W.heap.size) : GRow 1 W (.slice (some ⟨K, 0, none⟩) 0 0) 0 [] := ⟨some ⟨K, 0, none⟩, K, 0, 0, rfl, ⟨by decide, fun h => (by omega), fun h => (by omega), by simp, fun j u h => (by simp at h), fun j h => (by omega)⟩, ⟨by decide, fun j h => by omega⟩, .inl ⟨rfl, h⟩⟩
theorem take_bytes {k : Nat} (hz : ∀ i, i < zs.length → 0 ≤ zs.getD i 0 ∧ zs.getD i 0 < 256) : ∀ i, i < (zs.take k).length → 0 ≤ (zs.take k).getD i 0 ∧ (zs.take k).getD i 0 < 256 := fun i hi => by
  rw [List.length_take] at hi
  rw [List.getD_eq_getElem?_getD, List.getElem?_take, if_pos (by omega), ← List.getD_eq_getElem?_getD]
  exact hz i (by omega)
theorem app_bytes {c : Int} (hz : ∀ i, i < zs.length → 0 ≤ zs.getD i 0 ∧ zs.getD i 0 < 256) (hc : 0 ≤ c ∧ c < 256) : ∀ i, i < (zs ++ [c]).length → 0 ≤ (zs ++ [c]).getD i 0 ∧ (zs ++ [c]).getD i 0 < 256 := fun i hi => by
  rw [List.length_append, List.length_singleton] at hi
  rcases Nat.lt_or_ge i zs.length with g | g
  · rw [List.getD_eq_getElem?_getD, List.getElem?_append_left g, ← List.getD_eq_getElem?_getD]; exact hz i g
  · obtain rfl : i = zs.length := by omega
    rw [List.getD_eq_getElem?_getD, List.getElem?_append_right (Nat.le_refl _), Nat.sub_self]; exact hc
theorem brow_take {sp : Option Addr} {cap k : Nat} (h : GRow 1 w (.slice sp zs.length cap) zs.length (u8s zs)) (hk : k ≤ zs.length) (hz : ∀ i, i < zs.length → 0 ≤ zs.getD i 0 ∧ zs.getD i 0 < 256) : BRow w (fun k => k < w.heap.size) (.slice sp k cap) (zs.take k) := by
  have h1 := h.take hk
  have e : (zs.take k).length = k := by rw [List.length_take]; omega
  have e2 : (u8s zs).take (k * 1) = u8s (zs.take k) := by unfold u8s; rw [Nat.mul_one, List.map_take]
  rw [e2] at h1
  exact brow_of (by rw [e]; exact h1) (take_bytes hz)
theorem wf_u8 {a : Int} (h : (Lit.int .u8 a).wf = true) : 0 ≤ a ∧ a < 256 := by
  simp [Lit.wf, IntKind.min, IntKind.max, IntKind.signed, IntKind.bits] at h
  omega
end Cd
end Go.Proofs.YtapkcjbfflgplaaDoor
