/- A chain, as a view: how it lies in memory while it is built. -/
import Derived.Test.YtneibhcigbfigaaVwChM
import Derived.Test.YtneibhcigbfigaaVwTold
namespace Go.Proofs.Ytneibhcigbfigaa
open Go.RowKit Go.Lib Fx Ho Gr
set_option linter.unusedVariables false
namespace Vw
variable {B w w' W X : World} {q k c n i M O : Nat} {b : Bool} {v vg vo : Value} {gl : List Int} {xs : List Value} {H H' : Home}
theorem eltO : Elt Try.prog 30 29 3 40 (.agg #[.int .i64 0, .slice none 0 0, .bool false]) := ⟨Try.underlying30, by kernel_rfl, by rfl, by decide, by decide⟩
theorem grow_lit {s N n : Nat} {A : Array Value} {t : TypeId} (hb : w.heap[N]? = some (.cells A t (0, 0))) (hA : A.size = n * s) (hn : n ≤ 1000000) : GRow s w (.slice (some ⟨N, 0, none⟩) n n) n A.toList := by
  have hmx : (1000000 : Nat) ≤ maxLen := by unfold maxLen; omega
  refine ⟨_, N, 0, n, rfl, ⟨Nat.le_refl _, fun _ => rfl, fun _ => block_lt hb, by simp [hA], fun j u hj => ?_, fun j hj => by simp at hj⟩, ⟨by omega, fun j hj => frozen_of_row _ _ _ _ _ hb⟩, .inl ⟨rfl, block_lt hb⟩⟩
  rw [Nat.zero_add]
  exact cell_of hb (by rw [← hj]; simp)
/-- The objects that stand so far. -/
def ORow (w : World) (vg vo : Value) (q k c n : Nat) (xs : List Value) : Prop := ∀ j, j < n → ∃ N, xs[j * 3]? = some (.int .i64 (64 + (j : Int))) ∧ xs[j * 3 + 1]? = some (.slice (some ⟨N, 0, none⟩) 1 1) ∧ xs[j * 3 + 2]? = some (.bool false) ∧ w.heap[N]? = some (.cells #[.int .i64 (vC k c j)] 3 (0, 0)) ∧ N ≠ q ∧ vo.ownBlock ≠ some N ∧ vg.ownBlock ≠ some N
structure Lp (B w : World) (q : Nat) (vg vo : Value) (k c : Nat) (gl : List Int) (n : Nat) (xs : List Value) : Prop where
  bel : Below B.heap.size B w
  lo : B.heap.size ≤ q
  box : w.heap[q]? = some (.cells #[.int .i64 0, .int .i64 0, .int .i64 0, vg, .slice none 0 0, vo, .int .i64 0, .int .i64 0, .int .i64 0] 32 (0, 0))
  gr : GRow 1 w vg gl.length (cells gl)
  go : ∀ r, vg.ownBlock = some r → B.heap.size ≤ r ∧ r ≠ q
  row : GRow 3 w vo n xs
  ro : ∀ r, vo.ownBlock = some r → B.heap.size ≤ r ∧ r ≠ q ∧ vg.ownBlock ≠ some r
  os : ORow w vg vo q k c n xs
namespace Lp
theorem wrote0 (h : Lp B w q vg vo k c gl n xs) (hb : Below w.heap.size w w') : Lp B w' q vg vo k c gl n xs :=
  ⟨h.bel.trans (hb.mono h.bel.size), h.lo, (hb.block q (block_lt h.box)).trans h.box, h.gr.below hb, h.go, h.row.below hb, h.ro, fun j hj => by
    obtain ⟨N, e1, e2, e3, e4, e5⟩ := h.os j hj
    exact ⟨N, e1, e2, e3, (hb.block N (block_lt e4)).trans e4, e5⟩⟩
theorem below (h : Lp B w q vg vo k c gl n xs) (hb : Below w.heap.size w w') : Lp B w' q vg vo k c gl n xs := h.wrote0 hb
theorem cell (h : Lp B w q vg vo k c gl n xs) : w.cell? ⟨q, 0, none⟩ = some (.int .i64 0) ∧ w.cell? ⟨q, 1, none⟩ = some (.int .i64 0) ∧ w.cell? ⟨q, 2, none⟩ = some (.int .i64 0) ∧ w.cell? ⟨q, 3, none⟩ = some vg ∧ w.cell? ⟨q, 4, none⟩ = some (.slice none 0 0) ∧ w.cell? ⟨q, 5, none⟩ = some vo ∧ w.cell? ⟨q, 6, none⟩ = some (.int .i64 0) ∧ w.cell? ⟨q, 7, none⟩ = some (.int .i64 0) ∧ w.cell? ⟨q, 8, none⟩ = some (.int .i64 0) :=
  ⟨cell_of h.box rfl, cell_of h.box rfl, cell_of h.box rfl, cell_of h.box rfl, cell_of h.box rfl, cell_of h.box rfl, cell_of h.box rfl, cell_of h.box rfl, cell_of h.box rfl⟩
/-- A store into a block that none of it is. -/
theorem set (h : Lp B w q vg vo k c gl n xs) {p : Nat} {o : Nat} {u : Value} (hB : B.heap.size ≤ p) (hq : p ≠ q) (hg : vg.ownBlock ≠ some p) (ho : vo.ownBlock ≠ some p) (hn : ∀ j N, j < n → xs[j * 3 + 1]? = some (.slice (some ⟨N, 0, none⟩) 1 1) → N ≠ p) : Lp B (w.setCell ⟨p, o, none⟩ u) q vg vo k c gl n xs := by
  have hw : Wrote (fun r => r = p) w (fun r => r = p) (w.setCell ⟨p, o, none⟩ u) := wrote_setCell (a := ⟨p, o, none⟩) rfl rfl rfl rfl rfl
  refine ⟨h.bel.setCell (p := ⟨p, o, none⟩) hB _, h.lo, (hw.block q (block_lt h.box) (fun e => hq e.symm)).trans h.box, h.gr.wrote hw (fun r hr e => hg (by rw [hr, e])), h.go, h.row.wrote hw (fun r hr e => ho (by rw [hr, e])), h.ro, fun j hj => ?_⟩
  obtain ⟨N, e1, e2, e3, e4, e5⟩ := h.os j hj
  exact ⟨N, e1, e2, e3, (hw.block N (block_lt e4) (hn j N hj e2)).trans e4, e5⟩
end Lp
/-- A round, when its object stands. -/
structure Lq (B X : World) (q : Nat) (vg vo : Value) (k c : Nat) (gl : List Int) (n : Nat) (xs : List Value) (M O : Nat) : Prop where
  lp : Lp B X q vg vo k c gl n xs
  m : X.heap[M]? = some (.cells #[.int .i64 (vC k c n)] 3 (0, 0))
  o : X.heap[O]? = some (.cells #[.int .i64 (64 + (n : Int)), .slice (some ⟨M, 0, none⟩) 1 1, .bool false] 29 (0, 0))
  nm : M ≠ q ∧ vo.ownBlock ≠ some M ∧ vg.ownBlock ≠ some M
theorem Lp.new (h : Lp B W q vg vo k c gl n xs) : ∃ U, (W.alloc (.cells #[.int .i64 0] 3)).alloc (.cells #[.int .i64 (64 + (n : Int)), .slice (some ⟨W.heap.size, 0, none⟩) 1 1, .bool false] 29) = U ∧ U.cell? ⟨W.heap.size, 0, none⟩ = some (.int .i64 0) ∧ U.frozen? ⟨W.heap.size, 0, none⟩ = false ∧ U.cell? ⟨W.heap.size + 1, 1, none⟩ = some (.slice (some ⟨W.heap.size, 0, none⟩) 1 1) ∧ (vC k c n = 0 → Lq B U q vg vo k c gl n xs W.heap.size (W.heap.size + 1)) ∧ (vC k c n = 65 + (n : Int) → Lq B (U.setCell ⟨W.heap.size, 0, none⟩ (.int .i64 (65 + (n : Int)))) q vg vo k c gl n xs W.heap.size (W.heap.size + 1)) := by
  have s1 := s_alloc W (.cells #[.int .i64 0] 3)
  have k1 := heap_alloc_new W (.cells #[.int .i64 0] 3)
  have b1 := below_alloc (Below.refl _ W) (.cells #[.int .i64 0] 3)
  have k2 := heap_alloc_new (W.alloc (.cells #[.int .i64 0] 3)) (.cells #[.int .i64 (64 + (n : Int)), .slice (some ⟨W.heap.size, 0, none⟩) 1 1, .bool false] 29)
  have b2 := below_alloc (Below.refl _ (W.alloc (.cells #[.int .i64 0] 3))) (.cells #[.int .i64 (64 + (n : Int)), .slice (some ⟨W.heap.size, 0, none⟩) 1 1, .bool false] 29)
  rw [s1] at k2
  have m2 := (b2.block W.heap.size (block_lt k1)).trans k1
  have hp := (h.below b1).below b2
  obtain ⟨U, hU⟩ : ∃ U, (W.alloc (.cells #[.int .i64 0] 3)).alloc (.cells #[.int .i64 (64 + (n : Int)), .slice (some ⟨W.heap.size, 0, none⟩) 1 1, .bool false] 29) = U := ⟨_, rfl⟩
  rw [hU] at k2 m2 hp
  have n1 : W.heap.size ≠ q := fun e => by have := block_lt h.box; omega
  have n2 : vo.ownBlock ≠ some W.heap.size := fun e => by have := h.row.lt e; omega
  have n3 : vg.ownBlock ≠ some W.heap.size := fun e => by have := h.gr.lt e; omega
  have hMO : W.heap.size + 1 ≠ W.heap.size := by omega
  have hw : Wrote (fun r => r = W.heap.size) U (fun r => r = W.heap.size) (U.setCell ⟨W.heap.size, 0, none⟩ (.int .i64 (65 + (n : Int)))) := wrote_setCell (a := ⟨W.heap.size, 0, none⟩) rfl rfl rfl rfl rfl
  refine ⟨U, hU, cell_of m2 rfl, frozen_of_row _ _ _ _ _ m2, cell_of k2 rfl, fun e => ⟨hp, by rw [e]; exact m2, k2, n1, n2, n3⟩, fun e => ⟨hp.set h.bel.size n1 n3 n2 (fun j N hj e2 => ?_), ?_, (hw.block _ (block_lt k2) hMO).trans k2, n1, n2, n3⟩⟩
  · obtain ⟨N', _, e3, _, e4, _⟩ := h.os j hj
    rw [e3] at e2
    cases e2
    have := block_lt e4
    omega
  · rw [heap_setCell_same _ W.heap.size 0 _ _ _ m2, e]; rfl
theorem Lq.next (h : Lq B X q vg vo k c gl n xs M O) {w9 : World} {v9 : Value} {o : Go.Obj} (hrow : GRow 3 w9 v9 (n + 1) (xs ++ [.int .i64 (64 + (n : Int)), .slice (some ⟨M, 0, none⟩) 1 1, .bool false])) (hw : Wrote (fun r => vo.ownBlock = some r) (X.alloc o) (fun r => v9.ownBlock = some r) w9) : w9.cell? ⟨q, 5, none⟩ = some vo ∧ w9.frozen? ⟨q, 5, none⟩ = false ∧ Lp B (w9.setCell ⟨q, 5, none⟩ v9) q vg v9 k c gl (n + 1) (xs ++ [.int .i64 (64 + (n : Int)), .slice (some ⟨M, 0, none⟩) 1 1, .bool false]) := by
  have hb := below_alloc (Below.refl _ X) o
  have h1 := h.lp.below hb
  have hm := (hb.block M (block_lt h.m)).trans h.m
  have hl := h1.row.len
  have hq9 := (hw.block q (block_lt h1.box) (fun e => (h1.ro q e).2.1 rfl)).trans h1.box
  have hm9 := (hw.block M (block_lt hm) (fun e => h.nm.2.1 e)).trans hm
  have own9 : ∀ r, v9.ownBlock = some r → vo.ownBlock = some r ∨ (X.alloc o).heap.size ≤ r := fun r hr => hw.home r hr
  have hw2 : Wrote (fun r => r = q) w9 (fun r => r = q) (w9.setCell ⟨q, 5, none⟩ v9) := wrote_setCell (a := ⟨q, 5, none⟩) rfl rfl rfl rfl rfl
  have ro9 : ∀ r, v9.ownBlock = some r → B.heap.size ≤ r ∧ r ≠ q ∧ vg.ownBlock ≠ some r := fun r hr => by
    rcases own9 r hr with e | e
    · exact h1.ro r e
    · exact ⟨Nat.le_trans h1.bel.size e, fun e2 => by have := block_lt h1.box; omega, fun e2 => by have := h1.gr.lt e2; omega⟩
  have hbw : Below B.heap.size B w9 := hw.below (fun r hr => (h1.ro r hr).1) h1.bel
  refine ⟨cell_of hq9 rfl, frozen_of_row _ _ _ _ _ hq9, ⟨hbw.setCell (p := ⟨q, 5, none⟩) h1.lo _, h1.lo, by rw [heap_setCell_same _ q 5 _ _ v9 hq9]; rfl, (h1.gr.wrote hw (fun r hr e => (h1.ro r e).2.2 hr)).wrote hw2 (fun r hr e => (h1.go r hr).2 e), h1.go, hrow.wrote hw2 (fun r hr e => (ro9 r hr).2.1 e), ro9, fun j hj => ?_⟩⟩
  have keep : ∀ (N : Nat) (y : Int), (X.alloc o).heap[N]? = some (.cells #[.int .i64 y] 3 (0, 0)) → N ≠ q → vo.ownBlock ≠ some N → (w9.setCell ⟨q, 5, none⟩ v9).heap[N]? = some (.cells #[.int .i64 y] 3 (0, 0)) ∧ v9.ownBlock ≠ some N := fun N y e1 e2 e3 => by
    have g1 := (hw.block N (block_lt e1) e3).trans e1
    refine ⟨(hw2.block N (block_lt g1) e2).trans g1, fun e => ?_⟩
    rcases own9 N e with e4 | e4
    · exact e3 e4
    · have := block_lt e1; omega
  by_cases hjn : j < n
  · obtain ⟨N, e1, e2, e3, e4, e5, e6, e7⟩ := h1.os j hjn
    obtain ⟨g1, g2⟩ := keep N _ e4 e5 e6
    exact ⟨N, by rw [List.getElem?_append_left (by omega)]; exact e1, by rw [List.getElem?_append_left (by omega)]; exact e2, by rw [List.getElem?_append_left (by omega)]; exact e3, g1, e5, g2, e7⟩
  · obtain rfl : j = n := by omega
    obtain ⟨g1, g2⟩ := keep M _ hm h.nm.1 h.nm.2.1
    refine ⟨M, ?_, ?_, ?_, g1, h.nm.1, g2, h.nm.2.2⟩
    · rw [List.getElem?_append_right (by omega), show j * 3 - xs.length = 0 by omega]; rfl
    · rw [List.getElem?_append_right (by omega), show j * 3 + 1 - xs.length = 1 by omega]; rfl
    · rw [List.getElem?_append_right (by omega), show j * 3 + 2 - xs.length = 2 by omega]; rfl
/-- The whole of it is a view. -/
theorem Lp.isV (h : Lp B w q vg vo k c (glC k b) k xs) (hk : 2 ≤ k) (h40 : k ≤ 40) : IsV w (VC k c b) vg (.slice none 0 0) vo := by
  refine ⟨?_, ⟨none, 0, rfl, (by show 0 ≤ _; omega), fun i hi => by simp [VC] at hi⟩, ?_, wfC hk h40⟩
  · exact (ints_grow (lo := 0) h.gr (by unfold glC; split; show 2 ≤ 1000000; omega; show 1 ≤ 1000000; omega) (fun _ _ => Nat.zero_le _)).wider (fun _ _ _ => trivial)
  · obtain ⟨ao, r, off, cap, rfl, hle, hm, hc, hcell⟩ := h.row.cell
    have hlen : (VC k c b).os.length = k := osC_len
    refine ⟨ao, cap, by rw [hlen], by rw [hlen]; omega, fun i hi => ?_⟩
    rw [hlen] at hi
    obtain ⟨rfl, hr, hro⟩ := hc (by omega)
    obtain ⟨N, e1, e2, e3, e4, e5, e6, e7⟩ := h.os i hi
    have hg : (VC k c b).os.getD i o0 = oC k c i := osC_get hi
    rw [hg]
    exact ⟨r, off, _, rfl, hr, (hcell _ _ e1).1, (hcell _ _ e2).1, (hcell _ _ e3).1, ints_lit (zs := [vC k c i]) e4 rfl (by decide)⟩
theorem src_obj (X : World) (a : Int) (M : Nat) (m : Bool) : Src Try.prog 3 30 (.slice (some ⟨X.heap.size, 0, none⟩) 1 1) 1 [.int .i64 a, .slice (some ⟨M, 0, none⟩) 1 1, .bool m] (X.alloc (.cells #[.int .i64 a, .slice (some ⟨M, 0, none⟩) 1 1, .bool m] 29)) :=
  src_new (s := 3) (A := #[.int .i64 a, .slice (some ⟨M, 0, none⟩) 1 1, .bool m]) Try.underlying30 rfl (by simp [Value.oneCell']) (heap_alloc_new X _)
theorem Lp.start (w : World) (k c : Nat) : ∃ U, (w.alloc (.cells #[.int .i64 64] 3)).alloc (.cells #[.int .i64 0, .int .i64 0, .int .i64 0, .slice (some ⟨w.heap.size, 0, none⟩) 1 1, .slice none 0 0, .slice none 0 0, .int .i64 0, .int .i64 0, .int .i64 0] 32) = U ∧ Lp w U (w.heap.size + 1) (.slice (some ⟨w.heap.size, 0, none⟩) 1 1) (.slice none 0 0) k c [64] 0 [] := by
  have s1 := s_alloc w (.cells #[.int .i64 64] 3)
  have k1 := heap_alloc_new w (.cells #[.int .i64 64] 3)
  have b1 := below_alloc (Below.refl _ w) (.cells #[.int .i64 64] 3)
  have k2 := heap_alloc_new (w.alloc (.cells #[.int .i64 64] 3)) (.cells #[.int .i64 0, .int .i64 0, .int .i64 0, .slice (some ⟨w.heap.size, 0, none⟩) 1 1, .slice none 0 0, .slice none 0 0, .int .i64 0, .int .i64 0, .int .i64 0] 32)
  have b2 := below_alloc (Below.refl _ (w.alloc (.cells #[.int .i64 64] 3))) (.cells #[.int .i64 0, .int .i64 0, .int .i64 0, .slice (some ⟨w.heap.size, 0, none⟩) 1 1, .slice none 0 0, .slice none 0 0, .int .i64 0, .int .i64 0, .int .i64 0] 32)
  rw [s1] at k2
  have m1 := (b2.block w.heap.size (block_lt k1)).trans k1
  refine ⟨_, rfl, b1.trans (b2.mono (by omega)), by omega, k2, grow_lit (n := 1) m1 rfl (by decide), fun r e => ?_, grow_nil 3 _, fun r e => (by cases e), fun j hj => (by omega)⟩
  obtain rfl : w.heap.size = r := Option.some.inj e
  omega
theorem vvC {f : FuncId} {vs : Value} {ex : Array Value} {R : Ending → World → Prop} (h : Calls Try.prog f (#[vv (VC k c b) vg vs vo] ++ ex) W R) : Calls Try.prog f (#[.agg #[.int .i64 0, .int .i64 0, .int .i64 0, vg, vs, vo, .int .i64 0, .int .i64 0, .int .i64 0]] ++ ex) W R := h
/-- One more that is named. -/
theorem Lp.more (h : Lp B w q vg vo k c gl n xs) {w9 : World} {v9 : Value} {o : Go.Obj} {x : Int} (hrow : GRow 1 w9 v9 (gl.length + 1) (cells gl ++ [.int .i64 x])) (hw : Wrote (fun r => vg.ownBlock = some r) (w.alloc o) (fun r => v9.ownBlock = some r) w9) : w9.cell? ⟨q, 3, none⟩ = some vg ∧ w9.frozen? ⟨q, 3, none⟩ = false ∧ Lp B (w9.setCell ⟨q, 3, none⟩ v9) q v9 vo k c (gl ++ [x]) n xs := by
  have hb := below_alloc (Below.refl _ w) o
  have h1 := h.below hb
  have hq9 := (hw.block q (block_lt h1.box) (fun e => (h1.go q e).2 rfl)).trans h1.box
  have own9 : ∀ r, v9.ownBlock = some r → vg.ownBlock = some r ∨ (w.alloc o).heap.size ≤ r := fun r hr => hw.home r hr
  have hw2 : Wrote (fun r => r = q) w9 (fun r => r = q) (w9.setCell ⟨q, 3, none⟩ v9) := wrote_setCell (a := ⟨q, 3, none⟩) rfl rfl rfl rfl rfl
  have go9 : ∀ r, v9.ownBlock = some r → B.heap.size ≤ r ∧ r ≠ q := fun r hr => by
    rcases own9 r hr with e | e
    · exact h1.go r e
    · exact ⟨Nat.le_trans h1.bel.size e, fun e2 => by have := block_lt h1.box; omega⟩
  have hbw : Below B.heap.size B w9 := hw.below (fun r hr => (h1.go r hr).1) h1.bel
  have hrow' : GRow 1 w9 v9 (gl ++ [x]).length (cells (gl ++ [x])) := by rw [cells_app, List.length_append]; exact hrow
  refine ⟨cell_of hq9 rfl, frozen_of_row _ _ _ _ _ hq9, ⟨hbw.setCell (p := ⟨q, 3, none⟩) h1.lo _, h1.lo, by rw [heap_setCell_same _ q 3 _ _ v9 hq9]; rfl, hrow'.wrote hw2 (fun r hr e => (go9 r hr).2 e), go9, (h1.row.wrote hw (fun r hr e => (h1.ro r hr).2.2 e)).wrote hw2 (fun r hr e => (h1.ro r hr).2.1 e), fun r hr => ⟨(h1.ro r hr).1, (h1.ro r hr).2.1, fun e => ?_⟩, fun j hj => ?_⟩⟩
  · rcases own9 r e with e4 | e4
    · exact (h1.ro r hr).2.2 e4
    · have := h1.row.lt hr; omega
  · obtain ⟨N, e1, e2, e3, e4, e5, e6, e7⟩ := h1.os j hj
    have g1 := (hw.block N (block_lt e4) e7).trans e4
    refine ⟨N, e1, e2, e3, (hw2.block N (block_lt g1) e5).trans g1, e5, e6, fun e => ?_⟩
    rcases own9 N e with e8 | e8
    · exact e7 e8
    · have := block_lt e4; omega
end Vw
end Go.Proofs.Ytneibhcigbfigaa
