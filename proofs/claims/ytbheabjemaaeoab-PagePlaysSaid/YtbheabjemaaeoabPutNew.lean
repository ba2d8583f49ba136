/- The document's own Put, where the number is new: three appends in one region. -/
import Derived.Test.YtbheabjemaaeoabPutL
namespace Go.Proofs.Ytbheabjemaaeoab
open Go.RowKit Go.Lib Fx Ho Qu
set_option linter.unusedVariables false
namespace Rw
variable {w w' : World} {v : Value} {zs A B : List Int} {S : Home}
theorem lt_new (w : World) (o : Obj) : w.heap.size < (w.alloc o).heap.size := by
  show _ < (w.heap.push _).size; rw [Array.size_push]; omega
theorem size_new (w : World) (o : Obj) : (w.alloc o).heap.size = w.heap.size + 1 := by
  show (w.heap.push _).size = _; rw [Array.size_push]
theorem lt_new1 {w W : World} {o : Obj} (h : W.heap.size = w.heap.size + 1) : w.heap.size + 1 < (W.alloc o).heap.size := by have := lt_new W o; omega
theorem heap_new1 {w W : World} {C : Array Value} {t : TypeId} (h : W.heap.size = w.heap.size + 1) : (W.alloc (.cells C t)).heap[w.heap.size + 1]? = some (.cells C t (0, 0)) := by rw [← h]; exact heap_alloc_new _ _
theorem old_new {w W : World} {C : Array Value} {t : TypeId} (hb : Below (w.alloc (.cells C t)).heap.size (w.alloc (.cells C t)) W) : W.heap[w.heap.size]? = some (.cells C t (0, 0)) := (hb.block _ (lt_new _ _)).trans (heap_alloc_new _ _)
theorem lit_off {W : World} {N : Nat} (h : N < W.heap.size) : OffRow W (.slice (some ⟨N, 0, none⟩) 0 0) [] := ⟨some ⟨N, 0, none⟩, N, 0, 0, rfl, ⟨by decide, fun h => (by simp at h), fun h => (by simp at h), by simp [cells], fun j u h => (by simp [cells] at h), fun j h => (by simp at h)⟩, ⟨by decide, fun j h => by omega⟩, .inl ⟨rfl, h⟩⟩
theorem src1_at {W : World} {N : Nat} {x : Int} (hb : W.heap[N]? = some (.cells #[.int .i64 x] 3 (0, 0))) : Src Try.prog 1 36 (.slice (some ⟨N, 0, none⟩) 1 1) [x].length (cells [x]) W :=
  Src.ofSlice _ Try.underlying36 ⟨N, 0, none⟩ 1 1 (cells [x]) rfl (fun j u hj => by
    cases j with
    | zero => simp [cells] at hj; subst hj; exact cell_of hb rfl
    | succ j => simp [cells] at hj) (cells_one _)
theorem off_one {wq W w1 : World} {N : Nat} {L : List Int} {v1 : Value} (hb : Below wq.heap.size wq W) (hN : wq.heap.size ≤ N) (g1 : OffRow w1 v1 ([] ++ L)) (g2 : Wrote (fun k => (Value.slice (some ⟨N, 0, none⟩) 0 0).ownBlock = some k) W (fun k => v1.ownBlock = some k) w1) : OffRow w1 v1 L ∧ Low wq.heap.size (fun k => v1.ownBlock = some k) ∧ Below wq.heap.size wq w1 ∧ ∀ k o, k ≠ N → W.heap[k]? = some o → w1.heap[k]? = some o := by
  have hlow := low_some (n := 0) (c := 0) hN
  exact ⟨g1, g2.low hlow hb.size, g2.below hlow hb, fun k o hk ho => (g2.block k (block_lt ho) (fun e => hk (Option.some.inj e).symm)).trans ho⟩
def PutNew (w : World) (zs : List Int) (e : Ending) (w' : World) : Prop := ∃ v', e = .returned v' ∧ OffRow w' v' zs ∧ Low w.heap.size (fun k => v'.ownBlock = some k) ∧ Below w.heap.size w w'
end Rw
end Go.Proofs.Ytbheabjemaaeoab
