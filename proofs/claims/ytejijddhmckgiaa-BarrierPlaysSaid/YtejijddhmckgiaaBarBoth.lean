/- A barrier of the program, and the document's own beside it. -/
import Derived.Test.YtejijddhmckgiaaRefBar
import Derived.Test.YtejijddhmckgiaaPairArg
namespace Go.Proofs.Ytejijddhmckgiaa
open Go.RowKit Go.Lib Fx Ho Rw Qu
set_option linter.unusedVariables false
namespace Bq
open Ba (Pairs pcells names)
def pPut (L : Pairs) (a b : Int) : Pairs := if L.length < 16 then (if a = 0 ∧ b = 0 then L else L ++ [(a, b)]) else L
theorem pPut_len (L : Pairs) (a b : Int) (h : L.length ≤ 16) : (pPut L a b).length ≤ 16 := by
  unfold pPut
  split
  · split
    · exact h
    · rw [List.length_append, List.length_singleton]; omega
  · exact h
/-- Both; N is where blocks that they did not begin with begin. -/
structure Bk (N : Nat) (W0 W : World) (p x : Nat) (L M : Pairs) : Prop where
  b : Ba.IsBar W p L
  c : ∃ v, Rba.IsR N W x v M
  px : p ≠ x
  lp : W0.heap.size ≤ p ∧ p < N
  lx : W0.heap.size ≤ x ∧ x < N
  nn : N ≤ W.heap.size
  ml : M.length ≤ 16
  bel : Below W0.heap.size W0 W
variable {N : Nat} {W0 W W' : World} {p x : Nat} {L M L' M' : Pairs}
namespace Bk
theorem below (h : Bk N W0 W p x L M) (hb : Below W.heap.size W W') : Bk N W0 W' p x L M := by
  obtain ⟨v, c⟩ := h.c
  exact ⟨h.b.below hb, ⟨v, c.below hb⟩, h.px, h.lp, h.lx, Nat.le_trans h.nn hb.size, h.ml, h.bel.trans (hb.mono h.bel.size)⟩
theorem left (h : Bk N W0 W p x L M) (ht : Wrote (fun k => k = p) W (fun k => k = p) W') (hr : Ba.IsBar W' p L') : Bk N W0 W' p x L' M := by
  obtain ⟨v, c⟩ := h.c
  exact ⟨hr, ⟨v, c.wrote ht (fun e => h.px e.symm) (fun k h1 h2 => by have := h.lp.2; have h2 : k = p := h2; omega)⟩, h.px, h.lp, h.lx, Nat.le_trans h.nn ht.size, h.ml, h.bel.trans (below_of_wrote ht (fun k hk => by rw [show k = p from hk]; exact h.lp.1) h.bel.size)⟩
theorem right (h : Bk N W0 W p x L M) (ht : Wrote (fun k => k = x) W (fun k => k = x) W') {v : Value} (hr : Rba.IsR N W' x v M') (hm : M'.length ≤ 16) : Bk N W0 W' p x L M' :=
  ⟨h.b.wrote ht h.px, ⟨v, hr⟩, h.px, h.lp, h.lx, Nat.le_trans h.nn ht.size, hm, h.bel.trans (below_of_wrote ht (fun k hk => by rw [show k = x from hk]; exact h.lx.1) h.bel.size)⟩
end Bk
theorem b_put (h : Bk N W0 W p x L M) (a b : Int) : Calls Try.prog 11 #[.pointer (some ⟨p, 0, none⟩), .int .i64 a, .int .i64 b] W fun e W' => e = .returned (.bool (decide (L.length < 16))) ∧ Bk N W0 W' p x (pPut L a b) M := by
  have hs := h.b.small
  by_cases hl : L.length < 16
  · rw [decide_eq_true hl]
    unfold pPut
    rw [if_pos hl]
    by_cases hab : a = 0 ∧ b = 0
    · rw [if_pos hab, hab.1, hab.2]
      exact (Ba.put_zero hl h.b).mono fun e w' ⟨he, ht, hr⟩ => ⟨he, h.left ht hr⟩
    · rw [if_neg hab]
      exact (Ba.put_room a b hab hl h.b).mono fun e w' ⟨he, ht, hr⟩ => ⟨he, h.left ht hr⟩
  · rw [decide_eq_false hl]
    unfold pPut
    rw [if_neg hl]
    exact (Ba.put_full a b (by omega) h.b).mono fun e w' ⟨he, hw⟩ => ⟨he, hw ▸ h⟩
theorem x_put (h : Bk N W0 W p x L M) (a b : Int) : Calls Try.prog 12 #[.pointer (some ⟨x, 0, none⟩), .int .i64 a, .int .i64 b] W fun e W' => e = .returned (.bool (decide (M.length < 16))) ∧ Bk N W0 W' p x L (pPut M a b) := by
  obtain ⟨v, c⟩ := h.c
  have hm := pPut_len M a b h.ml
  by_cases hl : M.length < 16
  · rw [decide_eq_true hl]
    unfold pPut at hm ⊢
    rw [if_pos hl] at hm ⊢
    by_cases hab : a = 0 ∧ b = 0
    · rw [if_pos hab] at hm ⊢
      rw [hab.1, hab.2]
      exact (Rba.put_zero hl c).mono fun e w' ⟨v', he, ht, hr⟩ => ⟨he, h.right ht hr hm⟩
    · rw [if_neg hab] at hm ⊢
      exact (Rba.put_room a b hab hl c h.lx.2 h.nn).mono fun e w' ⟨v', he, ht, hr⟩ => ⟨he, h.right ht hr hm⟩
  · rw [decide_eq_false hl]
    unfold pPut
    rw [if_neg hl]
    exact (Rba.put_full a b (by omega) c).mono fun e w' ⟨v', he, ht, hr⟩ => ⟨he, h.right ht hr h.ml⟩
theorem b_len (h : Bk N W0 W p x L M) : Calls Try.prog 14 #[.pointer (some ⟨p, 0, none⟩)] W (Still (.int .i64 L.length) W) := Ba.len_any h.b
/-- A slice that holds pairs. -/
def PRow (w : World) (v : Value) (L : Pairs) : Prop := ∃ sp cap, v = .slice sp L.length cap ∧ ∀ i, i < L.length → ∃ b off, sp = some ⟨b, off, none⟩ ∧ ∀ W, Below w.heap.size w W → W.cell? ⟨b, off + i * 2, none⟩ = some (.int .i64 (L.getD i (0, 0)).1) ∧ W.cell? ⟨b, off + i * 2 + 1, none⟩ = some (.int .i64 (L.getD i (0, 0)).2)
theorem b_all (h : Bk N W0 W p x L M) : Calls Try.prog 13 #[.pointer (some ⟨p, 0, none⟩)] W fun e W' => ∃ v', e = .returned v' ∧ PRow W' v' L ∧ Bk N W0 W' p x L M := (Ba.all_any h.b).mono fun e w' ⟨v', he, hb, ho⟩ => by
  refine ⟨v', he, ?_, h.below hb⟩
  obtain ⟨sp, cap, rfl⟩ := own_slice ho
  refine ⟨sp, cap, rfl, fun i hi => ?_⟩
  have ho2 := ho
  rcases ho.2 with ⟨_, h2⟩ | ⟨g, cap', cur, e, _⟩
  · omega
  · cases e
    obtain ⟨k1, k2⟩ := Rba.pcells_get L i hi
    refine ⟨g, 0, rfl, fun W hW => ?_⟩
    have g1 := ho2.cells (g := g) rfl _ _ k1
    have g2 := ho2.cells (g := g) rfl _ _ k2
    rw [addr_add] at g1 g2
    rw [Nat.add_assoc]
    exact ⟨cell_then hW g1, cell_then hW g2⟩
theorem x_row (h : Bk N W0 W p x L M) : ∃ v, PRow W v M ∧ ∀ W', Below W.heap.size W W' → W'.cell? ⟨x, 0, none⟩ = some v := by
  obtain ⟨v, c⟩ := h.c
  obtain ⟨s, cp, e⟩ := c.slice
  subst e
  refine ⟨_, ⟨s, cp, rfl, fun i hi => ?_⟩, fun W' hb => (c.below hb).c0⟩
  obtain ⟨b, off, c2, e, k1, k2⟩ := c.pair hi
  cases e
  refine ⟨b, off, rfl, fun W hW => ?_⟩
  rw [← Nat.add_assoc] at k2
  exact ⟨cell_then hW k1, cell_then hW k2⟩
/-- Both flush, and tell the same. -/
theorem b_flush (h : Bk N W0 W p x L M) : Calls Try.prog 16 #[.pointer (some ⟨p, 0, none⟩)] W fun e W1 => ∃ v1, e = .returned v1 ∧ Calls Try.prog 17 #[.pointer (some ⟨x, 0, none⟩)] W1 fun e W2 => ∃ v2, e = .returned v2 ∧ Bk N W0 W2 p x [] [] ∧ OffRow W2 v1 (names L) ∧ OffRow W2 v2 (names M) := (Ba.flush_any h.b).mono fun e W1 ⟨v1, he, ht, hr, ho, hlo⟩ => by
  have h1 := h.left ht hr
  obtain ⟨v, c⟩ := h1.c
  refine ⟨v1, he, (Rba.flush_any c (by have := h.ml; omega) h.lx.2 h1.nn).mono fun e W2 ⟨v2, he2, ho2, hlo2, ht2, hr2⟩ => ⟨v2, he2, h1.right ht2 hr2 (by simp), ?_, ho2⟩⟩
  refine ho.wrote ht2 (fun k hk e => ?_)
  have a := hlo k hk
  have b : k = x := e
  have c := h.lx.2
  have d := h.nn
  omega
def bar0 : Array Value := #[.slice none 0 0]
theorem built0 : Try.prog.built 28 [] = some bar0 := by kernel_rfl
/-- Both are made. -/
theorem new_both {w w1 : World} (hb : Below w.heap.size w w1) (hp : Ba.IsBar w1 w.heap.size []) : Bk (w1.heap.size + 1) w (w1.alloc (.cells bar0 28)) w.heap.size w1.heap.size [] [] := by
  have hb2 := below_alloc (Below.refl w1.heap.size w1) (.cells bar0 28)
  have h1 := hp.lt
  have h2 := hb.size
  refine ⟨hp.below hb2, ⟨.slice none 0 0, heap_alloc_new _ _, Gr.grow_nil 2 _, low_nil _⟩, by omega, ⟨Nat.le_refl _, by omega⟩, ⟨by omega, by omega⟩, ?_, by simp, hb.trans (hb2.mono hb.size)⟩
  rw [size_new]; exact Nat.le_refl _
end Bq
end Go.Proofs.Ytejijddhmckgiaa
