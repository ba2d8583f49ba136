/- CodeBounds: the program that it builds, and what may be of it. -/
import Derived.Test.YtbheabjemaaeoaaDoorRMay
import Derived.Deep.RegionLaw
namespace Go.Proofs.YtbheabjemaaeoaaDoor
open Go.RowKit Go.Lib Fx Ho Gr
set_option linter.unusedVariables false
namespace Cd
variable {w w' W wr : World} {v fv : Value} {G nf len n : Int} {fs : List (List Ins)} {zs A : List Int} {l : List Ins} {N M : Nat} {Bs : List Nat} {x : Ins}
structure Bn (w wr : World) (N M : Nat) (x : Ins) (G : Int) (fs : List (List Ins)) (Bs : List Nat) (fv : Value) : Prop where
  blk : wr.heap[M]? = some (.cells #[.int .i64 G, fv] 49 (0, 0))
  ins : wr.heap[N]? = some (.cells #[.int .i64 x.1, .int .i64 x.2.1, .int .i64 x.2.2.1, .int .i64 x.2.2.2] 29 (0, 0))
  fw : Fw (N + 1) M wr fv fs Bs
  low : Below w.heap.size w wr
  ord : N < M ∧ w.heap.size ≤ N
  asc : ∀ i j, i < j → j < fs.length → Bs.getD i 0 < Bs.getD j 0
theorem Bn.below (h : Bn w wr N M x G fs Bs fv) (hb : Below wr.heap.size wr w') : Bn w w' N M x G fs Bs fv :=
  ⟨(hb.block _ (block_lt h.blk)).trans h.blk, (hb.block _ (block_lt h.ins)).trans h.ins, h.fw.below hb, h.low.trans (hb.mono h.low.size), h.ord, h.asc⟩
theorem Bn.stored {w1 w8 : World} {B : Nat} {v8 : Value} (h : Bn w w1 N M x G fs Bs fv) (hB : IBlk w1 B l) (hl : l.length ≤ 64) (hMB : M < B) (hown : fv.ownBlock ≠ some B) (hlt : ∀ i, i < fs.length → Bs.getD i 0 < B) (hg : GRow 1 w8 v8 (fs.length + 1) (hd Bs fs ++ [.slice (some ⟨B, 0, none⟩) l.length l.length])) (hw : Wrote (fun k => fv.ownBlock = some k) w1 (fun k => v8.ownBlock = some k) w8) : w8.frozen? ⟨M, 1, none⟩ = false ∧ w8.cell? ⟨M, 1, none⟩ = some fv ∧ Bn w (w8.setCell ⟨M, 1, none⟩ v8) N M x G (fs ++ [l]) (Bs ++ [B]) v8 := by
  obtain ⟨o1, o2⟩ := h.ord
  have hM := block_lt h.blk
  have hs := h.low.size
  have hf := h.fw.more hB hl (by omega) (by omega) hown (by omega) hM hg hw
  have hno := h.fw.fvs
  have hblk : w8.heap[M]? = _ := (hw.block M hM (fun e => (hno M e).1 rfl)).trans h.blk
  have hins : w8.heap[N]? = _ := (hw.block N (block_lt h.ins) (fun e => by have := (hno N e).2; omega)).trans h.ins
  have w2 : Wrote (fun k => k = M) w8 (fun k => k = M) (w8.setCell ⟨M, 1, none⟩ v8) := wrote_setCell (a := ⟨M, 1, none⟩) rfl rfl rfl rfl rfl
  have hb2 : (w8.setCell ⟨M, 1, none⟩ v8).heap[M]? = some (.cells #[.int .i64 G, v8] 49 (0, 0)) := by rw [heap_setCell_same _ M 1 _ _ _ hblk]; rfl
  have b8 : Below w.heap.size w w8 := h.low.trans ⟨hw.os, hw.tape, hw.output, hw.size, fun k hk => hw.block k (by omega) (fun e => by have := (hno k e).2; omega)⟩
  have hs8 := b8.size
  refine ⟨frozen_of_row _ _ _ _ _ hblk, cell_of hblk rfl, hb2, (w2.block N (block_lt hins) (fun e => by have e : N = M := e; omega)).trans hins, hf.wrote w2 (fun k e => .inl e), b8.trans ⟨w2.os, w2.tape, w2.output, w2.size, fun k hk => w2.block k (by omega) (fun e => by have e : k = M := e; omega)⟩, h.ord, fun i j hij hj => ?_⟩
  have hfl := h.fw.len
  rw [List.length_append, List.length_singleton] at hj
  have e1 : ∀ t, t < fs.length → (Bs ++ [B]).getD t 0 = Bs.getD t 0 := fun t ht => by rw [List.getD_eq_getElem?_getD, List.getD_eq_getElem?_getD, List.getElem?_append_left (by omega)]
  rcases Nat.lt_or_ge j fs.length with g | g
  · rw [e1 i (by omega), e1 j g]; exact h.asc i j hij g
  · obtain rfl : j = fs.length := by omega
    have e2 : (Bs ++ [B]).getD fs.length 0 = B := by rw [List.getD_eq_getElem?_getD, List.getElem?_append_right (by omega), hfl, Nat.sub_self]; rfl
    rw [e1 i hij, e2]; exact hlt i hij
/-- An instruction is written. -/
theorem Bn.write (h : Bn w wr N M x G fs Bs fv) {i j : Nat} (hi : i < fs.length) (hj : j < (fs.getD i []).length) (y : Ins) : let V := (((wr.setCell ⟨Bs.getD i 0, j * 4, none⟩ (.int .i64 y.1)).setCell ⟨Bs.getD i 0, j * 4 + 1, none⟩ (.int .i64 y.2.1)).setCell ⟨Bs.getD i 0, j * 4 + 2, none⟩ (.int .i64 y.2.2.1)).setCell ⟨Bs.getD i 0, j * 4 + 3, none⟩ (.int .i64 y.2.2.2); ∃ hb : V.heap[M]? = some (.cells #[.int .i64 G, fv] 49 (0, 0)), Below w.heap.size w V ∧ (fs.length ≤ 1000000 → FRow V fv (fs.set i ((fs.getD i []).set j y))) := by
  obtain ⟨o1, o2⟩ := h.ord
  have hii := h.fw.ins i hi
  have hsep := h.fw.sep _ (getD_mem (show i < Bs.length by rw [h.fw.len]; exact hi))
  obtain ⟨hset, hw⟩ := hii.1.set j y
  have hs := h.low.size
  intro V
  refine ⟨(hw.block M (block_lt h.blk) (fun e => hsep.1 (show M = _ from e).symm)).trans h.blk, h.low.trans ⟨hw.os, hw.tape, hw.output, hw.size, fun k hk => hw.block k (by omega) (fun e => by have e : k = Bs.getD i 0 := e; omega)⟩, fun hsz => ?_⟩
  obtain ⟨ao, b, off, cap, rfl, h1, h2, h3, h4⟩ := (h.fw.row.wrote hw (fun k hk e => hsep.2.2 (by have e : k = Bs.getD i 0 := e; rw [← e]; exact hk))).cell
  have hll : (fs.set i ((fs.getD i []).set j y)).length = fs.length := List.length_set
  refine ⟨ao, cap, by rw [hll], by rw [hll]; omega, fun t ht => ?_⟩
  rw [hll] at ht
  obtain ⟨rfl, _, _⟩ := h3 (by omega)
  refine ⟨b, off, _, rfl, (h4 t _ (hd_get h.fw.len ht)).1, ?_⟩
  by_cases e : t = i
  · subst e
    have e1 : (fs.set t ((fs.getD t []).set j y)).getD t [] = (fs.getD t []).set j y := by rw [List.getD_eq_getElem?_getD, List.getElem?_set_self hi]; rfl
    have e2 : ((fs.getD t []).set j y).length = (fs.getD t []).length := List.length_set
    rw [e1]
    have := IBlk.row (cap := (fs.getD t []).length) hset (by rw [e2]; have := hii.2; omega)
    rw [e2] at this
    exact this
  · have e1 : (fs.set i ((fs.getD i []).set j y)).getD t [] = fs.getD t [] := by rw [List.getD_eq_getElem?_getD, List.getElem?_set_ne (fun h => e h.symm), ← List.getD_eq_getElem?_getD]
    rw [e1]
    have hit := h.fw.ins t ht
    have hne : Bs.getD t 0 ≠ Bs.getD i 0 := by
      rcases Nat.lt_or_gt_of_ne e with g | g
      · have := h.asc t i g hi; omega
      · have := h.asc i t g ht; omega
    have hb2 : IBlk V (Bs.getD t 0) (fs.getD t []) := (hw.block _ (block_lt hit.1) hne).trans hit.1
    exact hb2.row (by have := hit.2; omega)
end Cd
end Go.Proofs.YtbheabjemaaeoaaDoor
