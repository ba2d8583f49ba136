/- Rows of whole numbers in general: a row that a call owns is one that may lie anywhere; append in a region; the document's own Has and Out of a row; a box of one cell that holds a row which is only read. -/
import Derived.Test.YtbheabjemaaeoabQueue
import Derived.Deep.RegionLaw
namespace Go.Proofs.Ytbheabjemaaeoab
open Go.RowKit Go.Lib Fx Ho Qu
set_option linter.unusedVariables false
namespace Rw
variable {w w' : World} {p : Nat} {v : Value} {zs ys : List Int} {H H' S : Home}

theorem off_of_owns {base n : Nat} (h : w.ownsRow base 3 1 v n (cells zs)) : OffRow w v zs := by
  have hn : zs.length = n := by have := h.1; rw [cells_len] at this; omega
  have h0 := h
  rcases h.2 with ⟨rfl, h2⟩ | ⟨g, cap, cur, rfl, h1, h2, h3, h4, h5, h6⟩
  · obtain rfl : zs = [] := List.eq_nil_of_length_eq_zero (by omega)
    exact offrow_nil _
  · refine ⟨some ⟨g, 0, none⟩, g, 0, cap, by rw [hn], ⟨by omega, fun _ => rfl, fun _ => block_lt h2, by rw [cells_len]; omega, fun j u hj => ?_, fun j hj => ?_⟩, ⟨h4, fun j _ => frozen_of_row w g _ _ _ h2⟩, .inl ⟨rfl, block_lt h2⟩⟩
    · have e := h0.cells (g := g) rfl j u hj
      rwa [addr_add] at e
    · have hj2 : 0 + zs.length * 1 + j < cur.size := by omega
      exact ⟨by rw [cell_of h2 (Array.getElem?_eq_getElem hj2)]; rfl, frozen_of_row w g _ _ _ h2⟩
theorem off_empty {N : Nat} (h : w.heap[N]? = some (.cells #[] 3 (0, 0))) : OffRow w (.slice (some ⟨N, 0, none⟩) 0 0) [] :=
  off_of_owns (own_empty h (Nat.le_refl _))
theorem src_cells {xs : List Value} {N n c : Nat} (hl : xs.length = n) (h1 : ∀ u ∈ xs, u.oneCell' = true) (h : ∀ j u, xs[j]? = some u → w.cell? ⟨N, j, none⟩ = some u) : Src Try.prog 1 36 (.slice (some ⟨N, 0, none⟩) n c) n xs w :=
  Src.ofSlice w Try.underlying36 ⟨N, 0, none⟩ n c xs (by omega) (fun j u hj => by rw [addr_add, Nat.zero_add]; exact h j u hj) h1
theorem step_append_off {ops : Array Oper} {o : Oper} {a : Act} {K : Act → World → Prop} {Q : Exit → Act → World → Prop} {E : Prop} (hgd : o.guard = none) (s x : Operand)
    (ho : o.op = .call { callee := .builtin .append, args := #[s, x], argTypes := #[36, 36] }) (hty : o.type = 36) {v xv : Value} {zs ys : List Int} (h : OffRow w v zs) (hv : a.eval s = v) (hx : a.eval x = xv)
    (hs : Src Try.prog 1 36 xv ys.length (cells ys) w) (hn : zs.length + ys.length ≤ 1000000)
    (hK : ∀ v' w', OffRow w' v' (zs ++ ys) → Wrote (fun k => v.ownBlock = some k) w (fun k => v'.ownBlock = some k) w' → K (a.put o.dst v') w') :
    if Region.wanted o (yielded ops a.tmps) = true then Oper.wp Try.prog o a w K Q else E := by
  have hw : Region.wanted o (yielded ops a.tmps) = true := by simp [Region.wanted, hgd]
  rw [if_pos hw]
  obtain ⟨v', w', hr, h1, h2⟩ := append_off h xv ys hs hn
  unfold Oper.wp
  simp [execOp, ho, resolve, invoke, builtin, hv, hx, hty, hr, Result.andThen]
  exact hK v' w' h1 h2

theorem below_of_wrote {lo : Nat} (h : Wrote H w H' w') (hl : Low lo H) (hs : lo ≤ w.heap.size) : Below lo w w' :=
  ⟨h.os, h.tape, h.output, h.size, fun k hk => h.block k (Nat.lt_of_lt_of_le hk hs) (fun h' => by have := hl k h'; omega)⟩
/-- Append to a row whose block lies above lo: it lies above lo again, and below lo nothing has turned. -/
theorem append_low {lo : Nat} (h : OffRow w v zs) (hl : Low lo (fun k => v.ownBlock = some k)) (hs : lo ≤ w.heap.size) {x : Value} (hx : Src Try.prog 1 36 x ys.length (cells ys) w) (hn : zs.length + ys.length ≤ 1000000) :
    ∃ v' w', (Builtin.append_ #[36, 36] 36 #[v, x]).run Try.prog w = .ok v' w' ∧ OffRow w' v' (zs ++ ys) ∧ Low lo (fun k => v'.ownBlock = some k) ∧ Below lo w w' := by
  obtain ⟨v', w', hr, h1, h2⟩ := append_off h x ys hx hn
  exact ⟨v', w', hr, h1, h2.low hl hs, below_of_wrote h2 hl hs⟩
theorem wpList_append_low {ops : Array Oper} {rest : List Oper} {o : Oper} {a : Act} {Q : Exit → Act → World → Prop} (hgd : o.guard = none) (s x : Operand)
    (ho : o.op = .call { callee := .builtin .append, args := #[s, x], argTypes := #[36, 36] }) (hty : o.type = 36) {v xv : Value} {zs ys : List Int} (lo : Nat) (h : OffRow w v zs) (hl : Low lo (fun k => v.ownBlock = some k)) (hlo : lo ≤ w.heap.size) (hv : a.eval s = v) (hx : a.eval x = xv)
    (hs : Src Try.prog 1 36 xv ys.length (cells ys) w) (hn : zs.length + ys.length ≤ 1000000)
    (hK : ∀ v' w', OffRow w' v' (zs ++ ys) → Low lo (fun k => v'.ownBlock = some k) → Below lo w w' → wpList Try.prog ops Q rest (a.put o.dst v') w') : wpList Try.prog ops Q (o :: rest) a w := by
  refine wpList_plain hgd fun K hK' => ?_
  obtain ⟨v', w', hr, h1, h2, h3⟩ := append_low h hl hlo hs hn
  unfold Oper.wp
  simp [execOp, ho, resolve, invoke, builtin, hv, hx, hty, hr, Result.andThen]
  exact hK' _ _ (hK v' w' h1 h2 h3)
theorem step_append_low {ops : Array Oper} {o : Oper} {a : Act} {K : Act → World → Prop} {Q : Exit → Act → World → Prop} {E : Prop} (hgd : o.guard = none) (s x : Operand)
    (ho : o.op = .call { callee := .builtin .append, args := #[s, x], argTypes := #[36, 36] }) (hty : o.type = 36) {v xv : Value} {zs ys : List Int} (lo : Nat) (h : OffRow w v zs) (hl : Low lo (fun k => v.ownBlock = some k)) (hlo : lo ≤ w.heap.size) (hv : a.eval s = v) (hx : a.eval x = xv)
    (hs : Src Try.prog 1 36 xv ys.length (cells ys) w) (hn : zs.length + ys.length ≤ 1000000)
    (hK : ∀ v' w', OffRow w' v' (zs ++ ys) → Low lo (fun k => v'.ownBlock = some k) → Below lo w w' → K (a.put o.dst v') w') :
    if Region.wanted o (yielded ops a.tmps) = true then Oper.wp Try.prog o a w K Q else E := by
  have hw : Region.wanted o (yielded ops a.tmps) = true := by simp [Region.wanted, hgd]
  rw [if_pos hw]
  obtain ⟨v', w', hr, h1, h2, h3⟩ := append_low h hl hlo hs hn
  unfold Oper.wp
  simp [execOp, ho, resolve, invoke, builtin, hv, hx, hty, hr, Result.andThen]
  exact hK v' w' h1 h2 h3
/-- One number, in the block that the call itself makes for it. -/
theorem src_one (w : World) (x : Int) : Src Try.prog 1 36 (.slice (some ⟨w.heap.size, 0, none⟩) 1 1) [x].length (cells [x]) (w.alloc (.cells #[.int .i64 x] 3)) :=
  Src.ofSlice _ Try.underlying36 ⟨w.heap.size, 0, none⟩ 1 1 (cells [x]) rfl (fun j u hj => by
    cases j with
    | zero => simp [cells] at hj; subst hj; exact cell_of (heap_alloc_new _ _) rfl
    | succ j => simp [cells] at hj) (cells_one _)
theorem low_nil (lo : Nat) : Low lo (fun k => (Value.slice none 0 0).ownBlock = some k) := fun k hk => by cases hk
theorem low_some {lo N n c : Nat} (h : lo ≤ N) : Low lo (fun k => (Value.slice (some ⟨N, 0, none⟩) n c).ownBlock = some k) := fun k hk => by obtain rfl : N = k := Option.some.inj hk; exact h
theorem off_below (h : OffRow w v zs) (hb : Below w.heap.size w w') : OffRow w' v zs := h.wrote (H := fun _ => False) (Wrote.of_below hb) (fun _ _ h => h)
theorem off_slice {n : Nat} (h : OffRow w v zs) (hn : zs.length = n) : ∃ sp cap, v = .slice sp n cap := by
  obtain ⟨sp, cap, e⟩ := h.slice
  exact ⟨sp, cap, by rw [e, hn]⟩
/-- What lies anywhere but at p. -/
abbrev Apart (p : Nat) : Home := fun k => k ≠ p
theorem apart_of {lo : Nat} (h : OffRow w v zs) (hl : Low lo (fun k => v.ownBlock = some k)) (hp : p < lo) : Ints w (Apart p) v zs :=
  h.ints.wider (fun k hk _ e => by have := hl k hk; omega)
theorem low_of_owns {base n : Nat} {xs : List Value} {e : TypeId} {sz : Nat} (h : w.ownsRow base e sz v n xs) : Low base (fun k => v.ownBlock = some k) := fun k hk => (h.lt k hk).1
theorem wpList_append_lowg {ops : Array Oper} {rest : List Oper} {o : Oper} {a : Act} {Q : Exit → Act → World → Prop} (hgd : Region.wanted o (yielded ops a.tmps) = true) (s x : Operand)
    (ho : o.op = .call { callee := .builtin .append, args := #[s, x], argTypes := #[36, 36] }) (hty : o.type = 36) {v xv : Value} {zs ys : List Int} (lo : Nat) (h : OffRow w v zs) (hl : Low lo (fun k => v.ownBlock = some k)) (hlo : lo ≤ w.heap.size) (hv : a.eval s = v) (hx : a.eval x = xv)
    (hs : Src Try.prog 1 36 xv ys.length (cells ys) w) (hn : zs.length + ys.length ≤ 1000000)
    (hK : ∀ v' w', OffRow w' v' (zs ++ ys) → Low lo (fun k => v'.ownBlock = some k) → Below lo w w' → wpList Try.prog ops Q rest (a.put o.dst v') w') : wpList Try.prog ops Q (o :: rest) a w := by
  refine wpList_step fun K hK' => ?_
  rw [if_pos hgd]
  obtain ⟨v', w', hr, h1, h2, h3⟩ := append_low h hl hlo hs hn
  unfold Oper.wp
  simp [execOp, ho, resolve, invoke, builtin, hv, hx, hty, hr, Result.andThen]
  exact hK' _ _ (hK v' w' h1 h2 h3)

theorem ints_lit (w : World) (zs : List Int) (n : Nat) (hn : zs.length = n) (hs : n ≤ 1000) {A : Array Value} (hA : A.toList = cells zs) : Ints (w.alloc (.cells A 3)) (fun k => w.heap.size ≤ k) (.slice (some ⟨w.heap.size, 0, none⟩) n n) zs := by
  have h := World.ownsRow_lit (base := w.heap.size) (e := 3) (size := 1) w A n (Nat.le_refl _) (by unfold maxLen; omega) (by rw [← Array.length_toList, hA, cells_len, hn, Nat.mul_one])
  rw [hA] at h
  exact (ints_of_owns h).wider (fun k hk _ => (h.lt k hk).1)
/-- The first place of a number in a list. -/
theorem first_of {x : Int} : ∀ {L : List Int}, x ∈ L → ∃ A B, L = A ++ x :: B ∧ x ∉ A
  | [], h => by cases h
  | y :: L, h => by
    by_cases e : y = x
    · exact ⟨[], L, by rw [e]; rfl, by simp⟩
    · obtain ⟨A, B, h1, h2⟩ := first_of (L := L) (by rcases List.mem_cons.1 h with h | h; exact absurd h.symm e; exact h)
      exact ⟨y :: A, B, by rw [h1]; rfl, fun h3 => by rcases List.mem_cons.1 h3 with h3 | h3; exact e h3.symm; exact h2 h3⟩
theorem not_at {x : Int} {A : List Int} (h : x ∉ A) : ∀ j, j < A.length → A.getD j 0 ≠ x := fun j hj e => h (by
  rw [← e, List.getD_eq_getElem?_getD, List.getElem?_eq_getElem hj]; exact List.getElem_mem _)
theorem at_first {x : Int} {A B : List Int} : (A ++ x :: B).getD A.length 0 = x := by
  rw [List.getD_eq_getElem?_getD, List.getElem?_append_right (Nat.le_refl _), Nat.sub_self]; rfl
theorem before_first {x : Int} {A B : List Int} (h : x ∉ A) : ∀ j, j < A.length → (A ++ x :: B).getD j 0 ≠ x := fun j hj => by
  rw [List.getD_eq_getElem?_getD, List.getElem?_append_left hj, ← List.getD_eq_getElem?_getD]; exact not_at h j hj
/-- n numbers that rise by one, from c on. -/
def seqI (c : Int) : Nat → List Int
  | 0 => []
  | n + 1 => seqI c n ++ [c + (n : Int)]
theorem seq_len (c : Int) : ∀ n, (seqI c n).length = n
  | 0 => rfl
  | n + 1 => by show (seqI c n ++ _).length = _; rw [List.length_append, seq_len c n]; rfl
theorem gd_left {A B : List Int} {i : Nat} (h : i < A.length) : (A ++ B).getD i 0 = A.getD i 0 := by
  rw [List.getD_eq_getElem?_getD, List.getD_eq_getElem?_getD, List.getElem?_append_left h]
theorem gd_right {A B : List Int} {i : Nat} (h : A.length ≤ i) : (A ++ B).getD i 0 = B.getD (i - A.length) 0 := by
  rw [List.getD_eq_getElem?_getD, List.getD_eq_getElem?_getD, List.getElem?_append_right h]
theorem gd_take {A : List Int} {i n : Nat} (h : i < n) : (A.take n).getD i 0 = A.getD i 0 := by
  rw [List.getD_eq_getElem?_getD, List.getD_eq_getElem?_getD, List.getElem?_take_of_lt h]
theorem gd_drop {A : List Int} {i n : Nat} : (A.drop n).getD i 0 = A.getD (n + i) 0 := by
  rw [List.getD_eq_getElem?_getD, List.getD_eq_getElem?_getD, List.getElem?_drop]
theorem tk_more {A : List Int} {i : Nat} (h : i < A.length) : A.take (i + 1) = A.take i ++ [A.getD i 0] := by
  rw [List.take_succ_eq_append_getElem h, List.getD_eq_getElem?_getD, List.getElem?_eq_getElem h]; rfl
theorem seq_get (c : Int) : ∀ (n i : Nat), i < n → (seqI c n).getD i 0 = c + i
  | 0, i, h => by omega
  | n + 1, i, h => by
    show (seqI c n ++ _).getD i 0 = _
    by_cases e : i < n
    · rw [gd_left (by rw [seq_len]; exact e), seq_get c n i e]
    · obtain rfl : i = n := by omega
      rw [gd_right (by rw [seq_len]; exact Nat.le_refl _), seq_len, Nat.sub_self]; rfl

/-- A box of one cell at p, of type T, that holds the slice v, whose numbers lie in blocks of S. -/
structure Box (T : TypeId) (S : Home) (w : World) (p : Nat) (v : Value) (zs : List Int) : Prop where
  head : w.heap[p]? = some (.cells #[v] T (0, 0))
  row : Ints w S v zs
namespace Box
variable {T : TypeId}
theorem c0 (h : Box T S w p v zs) : w.cell? ⟨p, 0, none⟩ = some v := cell_of h.head rfl
theorem fz (h : Box T S w p v zs) : w.frozen? ⟨p, 0, none⟩ = false := frozen_of_row w p 0 _ _ h.head
theorem lt (h : Box T S w p v zs) : p < w.heap.size := block_lt h.head
theorem wrote (h : Box T S w p v zs) (ht : Wrote H w H' w') (ho : ¬ H p) (hs : Off S H) : Box T S w' p v zs :=
  ⟨by rw [ht.block p h.lt ho]; exact h.head, h.row.wrote ht hs⟩
theorem below (h : Box T S w p v zs) (hb : Below w.heap.size w w') : Box T S w' p v zs := h.wrote (H := fun _ => False) (Wrote.of_below hb) (fun h => h) (fun _ _ h => h)
theorem of_heap (h : Box T S w p v zs) (hh : w'.heap = w.heap) : Box T S w' p v zs := by
  refine ⟨by rw [hh]; exact h.head, ?_⟩
  obtain ⟨sp, cap, e, h1, h2⟩ := h.row
  refine ⟨sp, cap, e, h1, fun i hi => ?_⟩
  obtain ⟨b, off, e2, h3, h4, h5⟩ := h2 i hi
  exact ⟨b, off, e2, h3, by rw [hh]; exact h4, by rw [← h5]; unfold World.cell?; rw [hh]⟩
/-- Another row is laid into the box. -/
theorem stored {W1 W : World} {v1 : Value} {zs2 : List Int} (h : Box T S w p v zs) (hb : Below w.heap.size w W1) (hr : Ints W1 S v1 zs2) (hp : ¬ S p) (hh : W.heap = (W1.setCell ⟨p, 0, none⟩ v1).heap) (ho : W.os = W1.os) (ht : W.tape = W1.tape) (hu : W.output = W1.output) :
    Wrote (fun k => k = p) w (fun k => k = p) W ∧ Box T S W p v1 zs2 := by
  have h1 := h.below hb
  have hw : Wrote (fun k => k = p) W1 (fun k => k = p) W := wrote_setCell (H := fun k => k = p) (a := ⟨p, 0, none⟩) (u := v1) hh ho ht hu rfl
  refine ⟨(Wrote.of_below hb).trans hw, ?_, hr.wrote hw (fun k hk e => hp (e ▸ hk))⟩
  rw [hh, heap_setCell_same _ p 0 _ _ _ h1.head]; rfl
end Box
end Rw
end Go.Proofs.Ytbheabjemaaeoab
