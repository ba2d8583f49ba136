/- Less of a view: how it lies in memory while it is made. -/
import Derived.Test.YtneibhcigbfigaaVwLsM
import Derived.Test.YtneibhcigbfigaaVwChs
namespace Go.Proofs.Ytneibhcigbfigaa
open Go.RowKit Go.Lib Fx Ho Gr
set_option linter.unusedVariables false
namespace Vw
variable {B w w' w9 W X : World} {q k t n i N M O : Nat} {v v9 vg vs vo vr gq : Value} {V : Vi} {gl zs : List Int} {xs : List Value} {H H' : Home}
theorem src_of_ints {S : Home} {x : Value} {ys : List Int} (h : Ints w S x ys) : Src Try.prog 1 23 x ys.length (cells ys) w := by
  obtain ⟨sp, cap, rfl, _, hi⟩ := h
  cases ys with
  | nil =>
    cases sp with
    | none => exact Src.ofNil w Try.underlying23 cap
    | some a => exact Src.ofSlice w Try.underlying23 a 0 cap [] rfl (fun j u hj => by simp at hj) (fun u hu => by simp at hu)
  | cons y r =>
    obtain ⟨b, off, rfl, _, _, _⟩ := hi 0 (by simp)
    refine Src.ofSlice w Try.underlying23 ⟨b, off, none⟩ _ cap _ (by rw [cells_len]; omega) (fun j u hj => ?_) (cells_one _)
    have hl := (List.getElem?_eq_some_iff.1 hj).1
    rw [cells_len] at hl
    obtain ⟨b2, off2, e, _, _, hc⟩ := hi j hl
    cases e
    rw [addr_add, hc, ← hj]
    unfold cells
    rw [List.getElem?_map, List.getD_eq_getElem?_getD, List.getElem?_eq_getElem hl]; rfl
theorem lit_row1 {W : World} {K : Nat} (h : K < W.heap.size) : GRow 1 W (.slice (some ⟨K, 0, none⟩) 0 0) 0 [] := ⟨some ⟨K, 0, none⟩, K, 0, 0, rfl, ⟨by decide, fun h => (by omega), fun h => (by omega), by simp, fun j u h => (by simp at h), fun j h => (by omega)⟩, ⟨by decide, fun j h => by omega⟩, .inl ⟨rfl, h⟩⟩
/-- A copy by append([]int{}, row...): new, below it all stands. -/
theorem copy_new {X : World} {o : Go.Obj} (g1 : GRow 1 w9 v9 (0 + zs.length) ([] ++ cells zs)) (g2 : Wrote (fun r => (Value.slice (some ⟨X.heap.size, 0, none⟩) 0 0).ownBlock = some r) (X.alloc o) (fun r => v9.ownBlock = some r) w9) : GRow 1 w9 v9 zs.length (cells zs) ∧ (∀ r, v9.ownBlock = some r → X.heap.size ≤ r) ∧ Below X.heap.size X w9 := by
  have hb := below_alloc (Below.refl _ X) o
  have hl : ∀ r, (Value.slice (some ⟨X.heap.size, 0, none⟩) 0 0).ownBlock = some r → X.heap.size ≤ r := fun r e => by
    obtain rfl : X.heap.size = r := Option.some.inj e
    exact Nat.le_refl _
  refine ⟨by rw [Nat.zero_add] at g1; exact g1, fun r hr => (g2.home r hr).elim (hl r) fun e => Nat.le_trans hb.size e, g2.below (fun r hr => hl r hr) hb⟩
/-- A place of a copy, made 0. -/
theorem grow_zero (h : GRow 1 w v zs.length (cells zs)) (hi : i < zs.length) : ∃ b off cap, v = .slice (some ⟨b, off, none⟩) zs.length cap ∧ v.ownBlock = some b ∧ w.cell? ⟨b, off + i, none⟩ = some (.int .i64 (zs.getD i 0)) ∧ w.frozen? ⟨b, off + i, none⟩ = false ∧ GRow 1 (w.setCell ⟨b, off + i, none⟩ (.int .i64 0)) v (zs.set i 0).length (cells (zs.set i 0)) := by
  obtain ⟨ao, b, off, cap, rfl, hle, hm, hc, hcell⟩ := h.cell
  obtain ⟨rfl, hb, ho⟩ := hc (by omega)
  have hx := hcell i (.int .i64 (zs.getD i 0)) (by
    unfold cells
    rw [List.getElem?_map, List.getElem?_eq_getElem hi, List.getD_eq_getElem?_getD, List.getElem?_eq_getElem hi]; rfl)
  refine ⟨b, off, cap, rfl, ho, hx.1, hx.2, ?_⟩
  have := h.set (j := i) (u := .int .i64 0) (by omega)
  rw [cells_set] at this
  rw [List.length_set]
  exact this
structure Lw (B w : World) (V : Vi) (q : Nat) (gq vs vr : Value) (k t n : Nat) (xs : List Value) : Prop where
  bel : Below B.heap.size B w
  lo : B.heap.size ≤ q
  box : w.heap[q]? = some (.cells #[.int .i64 V.ph, .int .i64 V.cy, .int .i64 V.ck, gq, vs, vr, .int .i64 V.gr, .int .i64 V.nt, .int .i64 V.rt] 32 (0, 0))
  row : GRow 3 w vr n xs
  ro : ∀ r, vr.ownBlock = some r → B.heap.size ≤ r ∧ r ≠ q
  os : ∀ j, j < n → ∃ sv, xs[j * 3]? = some (.int .i64 (V.os.getD j o0).1) ∧ xs[j * 3 + 1]? = some sv ∧ xs[j * 3 + 2]? = some (.bool true) ∧ Ints w (fun r => r ≠ q ∧ vr.ownBlock ≠ some r) sv (slL k t j (V.os.getD j o0).2.1)
namespace Lw
theorem below (h : Lw B w V q gq vs vr k t n xs) (hb : Below w.heap.size w w') : Lw B w' V q gq vs vr k t n xs :=
  ⟨h.bel.trans (hb.mono h.bel.size), h.lo, (hb.block q (block_lt h.box)).trans h.box, h.row.below hb, h.ro, fun j hj => by
    obtain ⟨sv, e1, e2, e3, e4⟩ := h.os j hj
    exact ⟨sv, e1, e2, e3, e4.below hb⟩⟩
theorem start (W : World) : Lw W (W.alloc (.cells #[.int .i64 V.ph, .int .i64 V.cy, .int .i64 V.ck, gq, vs, .slice none 0 0, .int .i64 V.gr, .int .i64 V.nt, .int .i64 V.rt] 32)) V W.heap.size gq vs (.slice none 0 0) k t 0 [] :=
  ⟨below_alloc (Below.refl _ W) _, Nat.le_refl _, heap_alloc_new W _, grow_nil 3 _, fun r e => (by cases e), fun j hj => (by omega)⟩
/-- One object more. -/
theorem next (h : Lw B X V q gq vs vr k t n xs) {sv : Value} {o : Go.Obj} (hI : Ints X (fun r => r ≠ q ∧ vr.ownBlock ≠ some r) sv (slL k t n (V.os.getD n o0).2.1)) (hrow : GRow 3 w9 v9 (n + 1) (xs ++ [.int .i64 (V.os.getD n o0).1, sv, .bool true])) (hw : Wrote (fun r => vr.ownBlock = some r) (X.alloc o) (fun r => v9.ownBlock = some r) w9) : w9.cell? ⟨q, 5, none⟩ = some vr ∧ w9.frozen? ⟨q, 5, none⟩ = false ∧ Lw B (w9.setCell ⟨q, 5, none⟩ v9) V q gq vs v9 k t (n + 1) (xs ++ [.int .i64 (V.os.getD n o0).1, sv, .bool true]) := by
  have hb := below_alloc (Below.refl _ X) o
  have h1 := h.below hb
  have hI1 := hI.below hb
  have hl := h1.row.len
  have hq9 := (hw.block q (block_lt h1.box) (fun e => (h1.ro q e).2 rfl)).trans h1.box
  have own9 : ∀ r, v9.ownBlock = some r → vr.ownBlock = some r ∨ (X.alloc o).heap.size ≤ r := fun r hr => hw.home r hr
  have hw2 : Wrote (fun r => r = q) w9 (fun r => r = q) (w9.setCell ⟨q, 5, none⟩ v9) := wrote_setCell (a := ⟨q, 5, none⟩) rfl rfl rfl rfl rfl
  have ro9 : ∀ r, v9.ownBlock = some r → B.heap.size ≤ r ∧ r ≠ q := fun r hr => by
    rcases own9 r hr with e | e
    · exact h1.ro r e
    · exact ⟨Nat.le_trans h1.bel.size e, fun e2 => by have := block_lt h1.box; omega⟩
  have hbw : Below B.heap.size B w9 := hw.below (fun r hr => (h1.ro r hr).1) h1.bel
  have keep : ∀ {u : Value} {ys : List Int}, Ints (X.alloc o) (fun r => r ≠ q ∧ vr.ownBlock ≠ some r) u ys → Ints (w9.setCell ⟨q, 5, none⟩ v9) (fun r => r ≠ q ∧ v9.ownBlock ≠ some r) u ys := fun hu => by
    have g1 : Ints (X.alloc o) (fun r => r ≠ q ∧ vr.ownBlock ≠ some r ∧ r < (X.alloc o).heap.size) _ _ := hu.wider fun r hr hlt => ⟨hr.1, hr.2, hlt⟩
    have g2 := g1.wrote hw (fun r hr e => hr.2.1 e)
    have g3 := g2.wrote hw2 (fun r hr e => hr.1 e)
    exact g3.wider fun r hr _ => ⟨hr.1, fun e => (own9 r e).elim hr.2.1 fun e2 => by have := hr.2.2; omega⟩
  refine ⟨cell_of hq9 rfl, frozen_of_row _ _ _ _ _ hq9, ⟨hbw.setCell (p := ⟨q, 5, none⟩) h1.lo _, h1.lo, by rw [heap_setCell_same _ q 5 _ _ v9 hq9]; rfl, hrow.wrote hw2 (fun r hr e => (ro9 r hr).2 e), ro9, fun j hj => ?_⟩⟩
  by_cases hjn : j < n
  · obtain ⟨u, e1, e2, e3, e4⟩ := h1.os j hjn
    exact ⟨u, by rw [List.getElem?_append_left (by omega)]; exact e1, by rw [List.getElem?_append_left (by omega)]; exact e2, by rw [List.getElem?_append_left (by omega)]; exact e3, keep e4⟩
  · obtain rfl : j = n := by omega
    refine ⟨sv, ?_, ?_, ?_, keep hI1⟩
    · rw [List.getElem?_append_right (by omega), show j * 3 - xs.length = 0 by omega]; rfl
    · rw [List.getElem?_append_right (by omega), show j * 3 + 1 - xs.length = 1 by omega]; rfl
    · rw [List.getElem?_append_right (by omega), show j * 3 + 2 - xs.length = 2 by omega]; rfl
/-- Other globals. -/
theorem setG (h : Lw B w V q gq vs vr k t n xs) (u : Value) : w.cell? ⟨q, 3, none⟩ = some gq ∧ w.frozen? ⟨q, 3, none⟩ = false ∧ Lw B (w.setCell ⟨q, 3, none⟩ u) V q u vs vr k t n xs := by
  have hw2 : Wrote (fun r => r = q) w (fun r => r = q) (w.setCell ⟨q, 3, none⟩ u) := wrote_setCell (a := ⟨q, 3, none⟩) rfl rfl rfl rfl rfl
  refine ⟨cell_of h.box rfl, frozen_of_row _ _ _ _ _ h.box, ⟨h.bel.setCell (p := ⟨q, 3, none⟩) h.lo _, h.lo, by rw [heap_setCell_same _ q 3 _ _ u h.box]; rfl, h.row.wrote hw2 (fun r hr e => (h.ro r hr).2 e), h.ro, fun j hj => ?_⟩⟩
  obtain ⟨sv, e1, e2, e3, e4⟩ := h.os j hj
  exact ⟨sv, e1, e2, e3, e4.wrote hw2 (fun r hr e => hr.1 e)⟩
def less (V : Vi) (k t : Nat) (gl : List Int) : Vi := ⟨V.ph, V.cy, V.ck, gl, V.gs, osL V.os k t V.os.length, V.gr, V.nt, V.rt⟩
theorem isV (h : Lw B w V q gq vs vr k t V.os.length xs) (hV : IsV B V vg vs vo) (hg : Ints w Any gq gl) (hl : Less V (less V k t gl) k t) (hm : V.os.length ≤ 40) : IsV w (less V k t gl) gq vs vr := by
  refine ⟨hg, hV.gs.below h.bel, ?_, hl.wf hV.wf⟩
  obtain ⟨ao, r, off, cap, rfl, hle, hmx, hc, hcell⟩ := h.row.cell
  have hlen : (less V k t gl).os.length = V.os.length := osL_len
  refine ⟨ao, cap, by rw [hlen], by rw [hlen]; omega, fun i hi => ?_⟩
  rw [hlen] at hi
  obtain ⟨rfl, hr, hro⟩ := hc (by omega)
  obtain ⟨sv, e1, e2, e3, e4⟩ := h.os i hi
  have hgd : (less V k t gl).os.getD i o0 = oL V.os k t i := osL_get hi
  rw [hgd]
  exact ⟨r, off, sv, rfl, hr, (hcell _ _ e1).1, (hcell _ _ e2).1, (hcell _ _ e3).1, e4.wider fun _ _ _ => trivial⟩
theorem cell (h : Lw B w V q gq vs vr k t n xs) : w.cell? ⟨q, 0, none⟩ = some (.int .i64 V.ph) ∧ w.cell? ⟨q, 1, none⟩ = some (.int .i64 V.cy) ∧ w.cell? ⟨q, 2, none⟩ = some (.int .i64 V.ck) ∧ w.cell? ⟨q, 3, none⟩ = some gq ∧ w.cell? ⟨q, 4, none⟩ = some vs ∧ w.cell? ⟨q, 5, none⟩ = some vr ∧ w.cell? ⟨q, 6, none⟩ = some (.int .i64 V.gr) ∧ w.cell? ⟨q, 7, none⟩ = some (.int .i64 V.nt) ∧ w.cell? ⟨q, 8, none⟩ = some (.int .i64 V.rt) :=
  ⟨cell_of h.box rfl, cell_of h.box rfl, cell_of h.box rfl, cell_of h.box rfl, cell_of h.box rfl, cell_of h.box rfl, cell_of h.box rfl, cell_of h.box rfl, cell_of h.box rfl⟩
end Lw
/-- An object's copy, with a row of its own. -/
structure Cp (w Y : World) (O : Nat) (A : Int) (v : Value) (zs : List Int) : Prop where
  bel : Below w.heap.size w Y
  lo : w.heap.size ≤ O
  o : Y.heap[O]? = some (.cells #[.int .i64 A, v, .bool true] 29 (0, 0))
  row : GRow 1 Y v zs.length (cells zs)
  ro : ∀ r, v.ownBlock = some r → w.heap.size ≤ r ∧ r ≠ O
namespace Cp
variable {A : Int} {Y : World} {sv : Value}
theorem make (hX : X.heap[O]? = some (.cells #[.int .i64 A, sv, .bool true] 29 (0, 0))) (hb : Below w.heap.size w X) (hlo : w.heap.size ≤ O) (g1 : GRow 1 w9 v9 (0 + zs.length) ([] ++ cells zs)) {o : Go.Obj} (g2 : Wrote (fun r => (Value.slice (some ⟨X.heap.size, 0, none⟩) 0 0).ownBlock = some r) (X.alloc o) (fun r => v9.ownBlock = some r) w9) : (∃ s c, v9 = .slice s zs.length c) ∧ w9.cell? ⟨O, 1, none⟩ = some sv ∧ w9.frozen? ⟨O, 1, none⟩ = false ∧ Cp w (w9.setCell ⟨O, 1, none⟩ v9) O A v9 zs := by
  obtain ⟨h1, h2, h3⟩ := copy_new g1 g2
  have hO := (h3.block O (block_lt hX)).trans hX
  have hne : ∀ r, v9.ownBlock = some r → r ≠ O := fun r hr e => by have := h2 r hr; have := block_lt hX; omega
  have hw2 : Wrote (fun r => r = O) w9 (fun r => r = O) (w9.setCell ⟨O, 1, none⟩ v9) := wrote_setCell (a := ⟨O, 1, none⟩) rfl rfl rfl rfl rfl
  exact ⟨h1.slice, cell_of hO rfl, frozen_of_row _ _ _ _ _ hO, (hb.trans (h3.mono hb.size)).setCell (p := ⟨O, 1, none⟩) hlo _, hlo, by rw [heap_setCell_same _ O 1 _ _ v9 hO]; rfl, h1.wrote hw2 (fun r hr e => hne r hr e), fun r hr => ⟨Nat.le_trans hb.size (h2 r hr), hne r hr⟩⟩
theorem drewN (h : Cp w Y O A v zs) (m : Nat) : Cp w (Y.drewN m) O A v zs := by
  have hb := below_drewN (Below.refl Y.heap.size Y) m
  exact ⟨h.bel.trans (hb.mono h.bel.size), h.lo, (hb.block O (block_lt h.o)).trans h.o, h.row.below hb, h.ro⟩
theorem zero (h : Cp w Y O A v zs) (hi : i < zs.length) : ∃ b off cap, v = .slice (some ⟨b, off, none⟩) zs.length cap ∧ Y.cell? ⟨b, off + i, none⟩ = some (.int .i64 (zs.getD i 0)) ∧ Y.frozen? ⟨b, off + i, none⟩ = false ∧ Cp w (Y.setCell ⟨b, off + i, none⟩ (.int .i64 0)) O A v (zs.set i 0) := by
  obtain ⟨b, off, cap, e, ho, h1, h2, h3⟩ := grow_zero h.row hi
  have hw2 : Wrote (fun r => r = b) Y (fun r => r = b) (Y.setCell ⟨b, off + i, none⟩ (.int .i64 0)) := wrote_setCell (a := ⟨b, off + i, none⟩) rfl rfl rfl rfl rfl
  exact ⟨b, off, cap, e, h1, h2, h.bel.setCell (p := ⟨b, off + i, none⟩) (h.ro b ho).1 _, h.lo, (hw2.block O (block_lt h.o) (fun e => (h.ro b ho).2 e.symm)).trans h.o, h3, h.ro⟩
theorem step (h : Cp w Y O A v zs) (hl : Lw B w V q gq vs vr k t n xs) (hA : (V.os.getD n o0).1 = A) (hz : zs = slL k t n (V.os.getD n o0).2.1) (h300 : zs.length ≤ 1000000) : Y.cell? ⟨q, 5, none⟩ = some vr ∧ Y.cell? ⟨O, 0, none⟩ = some (.int .i64 A) ∧ Y.cell? ⟨O, 1, none⟩ = some v ∧ Y.cell? ⟨O, 2, none⟩ = some (.bool true) ∧ GRow 3 Y vr n xs ∧ ∀ v9 w9, GRow 3 w9 v9 (n + 1) (xs ++ [.int .i64 A, v, .bool true]) → ∀ o, Wrote (fun r => vr.ownBlock = some r) (Y.alloc o) (fun r => v9.ownBlock = some r) w9 → (∃ s c, v9 = .slice s (n + 1) c) ∧ w9.cell? ⟨q, 5, none⟩ = some vr ∧ w9.frozen? ⟨q, 5, none⟩ = false ∧ Hid (∃ vr xs, Lw B (w9.setCell ⟨q, 5, none⟩ v9) V q gq vs vr k t (n + 1) xs) := by
  have hl2 := hl.below h.bel
  have hI : Ints Y (fun r => r ≠ q ∧ vr.ownBlock ≠ some r) v (slL k t n (V.os.getD n o0).2.1) := by
    rw [← hz]
    refine (ints_grow (lo := w.heap.size) h.row h300 fun r hr => (h.ro r hr).1).wider fun r hr _ => ⟨fun e => by have := block_lt hl.box; omega, fun e => by have := hl.row.lt e; omega⟩
  refine ⟨cell_of hl2.box rfl, cell_of h.o rfl, cell_of h.o rfl, cell_of h.o rfl, hl2.row, fun v9 w9 g1 o g2 => ?_⟩
  rw [← hA] at g1
  obtain ⟨a1, a2, a3⟩ := hl2.next hI g1 g2
  exact ⟨g1.slice, a1, a2, Lib.hid ⟨_, _, a3⟩⟩
end Cp
theorem src_obj2 (X : World) (a : Int) (s : Option Addr) (n c : Nat) (m : Bool) : Src Try.prog 3 30 (.slice (some ⟨X.heap.size, 0, none⟩) 1 1) 1 [.int .i64 a, .slice s n c, .bool m] (X.alloc (.cells #[.int .i64 a, .slice s n c, .bool m] 29)) :=
  src_new (s := 3) (A := #[.int .i64 a, .slice s n c, .bool m]) Try.underlying30 rfl (by simp [Value.oneCell']) (heap_alloc_new X _)
end Vw
end Go.Proofs.Ytneibhcigbfigaa
