/- The document's own Most: each one put in its place in a falling list. -/
import Derived.Test.YtinlbenifmcgaaaDoorRateLists
import Derived.Test.YtinlbenifmcgaaaDoorMinMax
namespace Go.Proofs.YtinlbenifmcgaaaDoor
open Go.RowKit Go.Lib Fx Ho Gr
set_option linter.unusedVariables false
namespace Pr
open Fk Fl Ieee Hm
variable {w w' : World} {x y r p : Nat} {v u v2 : Value} {zs ys L M : List Nat}
/-- x's place in the falling list M is k: those behind are less, those ahead are not. -/
def Place (M : List Nat) (x k : Nat) : Prop := k ≤ M.length ∧ (∀ j, k ≤ j → j < M.length → key (M.getD j 0) < key x) ∧ (0 < k → key x ≤ key (M.getD (k - 1) 0))
theorem ins_perm (M : List Nat) (x k : Nat) : (M.take k ++ [x] ++ M.drop k).Perm (M ++ [x]) := by
  rw [List.append_assoc]
  have h1 : (M.take k ++ ([x] ++ M.drop k)).Perm ([x] ++ (M.take k ++ M.drop k)) := by
    rw [← List.append_assoc, ← List.append_assoc]
    exact (List.perm_append_comm).append_right _
  rw [List.take_append_drop] at h1
  exact h1.trans List.perm_append_comm
theorem ins_fall {k : Nat} (h : Fall M) (hp : Place M x k) : Fall (M.take k ++ [x] ++ M.drop k) := by
  obtain ⟨h1, h2, h3⟩ := hp
  have hd : ∀ a ∈ M.drop k, key a < key x := fun a ha => by
    obtain ⟨i, hi, rfl⟩ := List.getElem_of_mem ha
    rw [List.length_drop] at hi
    have := h2 (k + i) (by omega) (by omega)
    rw [Hm.getD_at (by omega)] at this
    rw [List.getElem_drop]
    exact this
  have ht : ∀ a ∈ M.take k, key x ≤ key a := fun a ha => by
    obtain ⟨i, hi, rfl⟩ := List.getElem_of_mem ha
    rw [List.length_take] at hi
    rw [List.getElem_take]
    have hk : 0 < k := by omega
    have hx := h3 hk
    rw [Hm.getD_at (by omega)] at hx
    rcases Nat.lt_or_ge i (k - 1) with hi2 | hi2
    · have := (List.pairwise_iff_getElem.1 h) i (k - 1) (by omega) (by omega) hi2
      omega
    · have : i = k - 1 := by omega
      subst this
      exact hx
  have hap := h
  rw [← List.take_append_drop k M] at hap
  obtain ⟨p1, p2, p3⟩ := List.pairwise_append.1 hap
  rw [List.append_assoc]
  refine List.pairwise_append.2 ⟨p1, ?_, fun a ha b hb => ?_⟩
  · refine List.pairwise_append.2 ⟨by simp, p2, fun a ha b hb => ?_⟩
    simp only [List.mem_singleton] at ha
    subst ha
    exact Int.le_of_lt (hd b hb)
  · rcases List.mem_append.1 hb with hb | hb
    · simp only [List.mem_singleton] at hb
      subst hb
      exact ht a ha
    · exact p3 a ha b hb
/-- In the midst of it: the row u, of the call's own, holds M. -/
structure In (w wr : World) (u : Value) (M : List Nat) : Prop where
  row : GRow 1 wr u M.length (fc M)
  low : Low w.heap.size (fun k => u.ownBlock = some k)
  below : Below w.heap.size w wr
  wf : ∀ x ∈ M, Wf x
theorem In.to {wr : World} (h : In w wr u M) (hb : Below wr.heap.size wr w') : In w w' u M := ⟨h.row.below hb, h.low, h.below.trans (hb.mono h.below.size), h.wf⟩
theorem lit_row {W : World} {N : Nat} (h : N < W.heap.size) : GRow 1 W (.slice (some ⟨N, 0, none⟩) 0 0) 0 [] := ⟨some ⟨N, 0, none⟩, N, 0, 0, rfl, ⟨by decide, fun h => (by omega), fun h => (by omega), by simp, fun j u h => (by simp at h), fun j h => (by omega)⟩, ⟨by decide, fun j h => by omega⟩, .inl ⟨rfl, h⟩⟩
theorem src_row {n : Nat} {xs : List Value} (h : GRow 1 w v n xs) (h1 : ∀ u ∈ xs, u.oneCell' = true) : Src Tryd.prog 1 22 v n xs w := by
  have hlen := h.len
  obtain ⟨ao, b, off, cap, rfl, hc, hm, hx⟩ := h
  rcases hx with ⟨rfl, hb⟩ | ⟨rfl, rfl⟩
  · exact Src.ofSlice _ Tryd.underlying22 ⟨b, off, none⟩ n cap xs hlen (fun j u hj => by rw [addr_add]; exact hc.olds j u hj) h1
  · have h1 := hc.le
    have h0 : n = 0 := by omega
    subst h0
    have h2 := List.eq_nil_of_length_eq_zero (show xs.length = 0 by simpa using hlen)
    subst h2
    exact Src.ofNil _ Tryd.underlying22 0
theorem src_x {W : World} {N x : Nat} (hb : W.heap[N]? = some (.cells #[.float .f64 x] 23 (0, 0))) : Src Tryd.prog 1 22 (.slice (some ⟨N, 0, none⟩) 1 1) 1 [.float .f64 x] W :=
  src_new (s := 1) (A := #[.float .f64 x]) Tryd.underlying22 rfl (fun u hu => by simp at hu; subst hu; rfl) hb
theorem lt_new (w : World) (o : Obj) : w.heap.size < (w.alloc o).heap.size := by
  show _ < (w.heap.push _).size; rw [Array.size_push]; omega
theorem size_new (w : World) (o : Obj) : (w.alloc o).heap.size = w.heap.size + 1 := by
  show (w.heap.push _).size = _; rw [Array.size_push]
theorem lt_new1 {w W : World} {o : Obj} (h : W.heap.size = w.heap.size + 1) : w.heap.size + 1 < (W.alloc o).heap.size := by have := lt_new W o; omega
theorem heap_new1 {w W : World} {C : Array Value} {t : TypeId} (h : W.heap.size = w.heap.size + 1) : (W.alloc (.cells C t)).heap[w.heap.size + 1]? = some (.cells C t (0, 0)) := by rw [← h]; exact heap_alloc_new _ _
theorem old_new {w W : World} {C : Array Value} {t : TypeId} (hb : Below (w.alloc (.cells C t)).heap.size (w.alloc (.cells C t)) W) : W.heap[w.heap.size]? = some (.cells C t (0, 0)) := (hb.block _ (lt_new _ _)).trans (heap_alloc_new _ _)
theorem low_one {lo N n c : Nat} (h : lo ≤ N) : Low lo (fun k => (Value.slice (some ⟨N, 0, none⟩) n c).ownBlock = some k) := fun k hk => by
  obtain rfl : N = k := Option.some.inj hk
  exact h
/-- A row that is the region's own, since wq. -/
structure Own (wq W : World) (v : Value) (xs : List Value) (n : Nat) : Prop where
  row : GRow 1 W v n xs
  low : Low wq.heap.size (fun k => v.ownBlock = some k)
  below : Below wq.heap.size wq W
theorem own_one {wq W w1 : World} {N n : Nat} {v1 : Value} {xs : List Value} (hb : Below wq.heap.size wq W) (hN : wq.heap.size ≤ N) (g1 : GRow 1 w1 v1 (0 + n) ([] ++ xs)) (g2 : Wrote (fun k => (Value.slice (some ⟨N, 0, none⟩) 0 0).ownBlock = some k) W (fun k => v1.ownBlock = some k) w1) : Own wq w1 v1 xs n ∧ ∀ k o, k ≠ N → W.heap[k]? = some o → w1.heap[k]? = some o := by
  have hlow := low_one (n := 0) (c := 0) hN
  exact ⟨⟨by rw [Nat.zero_add] at g1; exact g1, g2.low hlow hb.size, g2.below hlow hb⟩, fun k o hk ho => (g2.block k (block_lt ho) (fun e => hk (Option.some.inj e).symm)).trans ho⟩
theorem Own.more {wq W W2 w1 : World} {v v1 : Value} {xs ys : List Value} {n m : Nat} (h : Own wq W v xs n) (hb : Below W.heap.size W W2) (g1 : GRow 1 w1 v1 (n + m) (xs ++ ys)) (g2 : Wrote (fun k => v.ownBlock = some k) W2 (fun k => v1.ownBlock = some k) w1) : Own wq w1 v1 (xs ++ ys) (n + m) := by
  have hB := h.below.trans (hb.mono h.below.size)
  exact ⟨g1, g2.low h.low hB.size, g2.below h.low hB⟩
end Pr
end Go.Proofs.YtinlbenifmcgaaaDoor
