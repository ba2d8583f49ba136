/- A slice of operations on states that came in; states beside a list of the statement's own, and the operation at hand. -/
import Derived.Test.YteigcjgohhgjcaaStatesMore
import Derived.Deep.Slices
namespace Go.Proofs.Yteigcjgohhgjcaa
open Go.ChangeShapes Go.WideShapes Go.WideElems Go.RowKit Go.Lib Go.Deep Fx Ho
set_option linter.unusedVariables false
namespace St

/-- The slice v holds L operations: their kinds, goroutines and states. -/
def Op12 (w : World) (v : Value) (L : Nat) (kf gf tf : Nat → Int) : Prop :=
  ∃ sp cap, v = .slice sp L cap ∧ L ≤ 9223372036854775807 ∧ ∀ i, i < L → ∃ b off, sp = some ⟨b, off, none⟩ ∧ b < w.heap.size ∧
    w.cell? ⟨b, off + i * 3, none⟩ = some (.int .i64 (kf i)) ∧ w.cell? ⟨b, off + (i * 3 + 1), none⟩ = some (.int .i64 (gf i)) ∧ w.cell? ⟨b, off + (i * 3 + 2), none⟩ = some (.int .i64 (tf i)) ∧ (Lit.int .i64 (kf i)).wf = true
section
variable {E : Type} {enc : TypeId × Value → E}
theorem op12_arg {W : World} {base : Nat} {v : Value} {d : DataW E} {p : List MemPlace} (hval : Value.okWide Try.prog W .any base 60 v) (h : DataW.Trod enc Try.prog W 0 (fun _ => true) true 60 v d p) : ∃ L kf gf tf, Op12 W v L kf gf tf := by
  obtain ⟨a0, len, cap, rfl⟩ := okWide_slice Try.underlying60 hval
  obtain ⟨fuel, hf⟩ := h
  rcases open_slice Try.underlying60 hf with ⟨hcs, _⟩ | ⟨a, len', cap', m, n, D, Pl, hcs, _, hl, hm, hmm, _, hx⟩
  · simp [Value.cells] at hcs
    obtain ⟨rfl, rfl, rfl⟩ := hcs
    exact ⟨0, fun _ => 0, fun _ => 0, fun _ => 0, none, 0, rfl, by omega, fun i hi => by omega⟩
  · simp [Value.cells] at hcs
    obtain ⟨rfl, rfl, rfl⟩ := hcs
    simp only [if_true] at hmm
    have ce : Try.prog.cellsOf 64 = 3 := by kernel_rfl
    have ci : Try.prog.cellsOf 3 = 1 := by kernel_rfl
    have each : ∀ i, i < m → ∃ q : Int × Int × Int, W.cell? (a.add (i * 3)) = some (.int .i64 q.1) ∧ W.cell? (a.add (i * 3 + 1)) = some (.int .i64 q.2.1) ∧ W.cell? (a.add (i * 3 + 2)) = some (.int .i64 q.2.2) ∧ (Lit.int .i64 q.1).wf = true := by
      intro i hi
      obtain ⟨cs', h1, h2⟩ := hx i hi
      rw [ce] at h1
      obtain ⟨_, hlen, hcell⟩ := World.cells?_some h1
      obtain ⟨xs, k, hk, hxy, _, hxl, hf⟩ := DataW.trod_struct Try.underlying64 h2
      match xs, hxl, cs', hlen with
      | [y0, y1, y2], _, [v0, v1, v2], _ =>
        have g0 := hf 0 _ rfl
        have g1 := hf 1 _ rfl
        have g2 := hf 2 _ rfl
        simp [ci] at g0 g1 g2
        obtain ⟨n0, e0, _, w0⟩ := DataW.trod_int Try.underlying3 g0
        obtain ⟨n1, e1, _, w1⟩ := DataW.trod_int Try.underlying3 g1
        obtain ⟨n2, e2, _, w2⟩ := DataW.trod_int Try.underlying3 g2
        simp at e0 e1 e2
        subst e0 e1 e2
        have k0 := hcell 0 (by omega)
        have k1 := hcell 1 (by omega)
        have k2 := hcell 2 (by omega)
        rw [add_add] at k0 k1 k2
        exact ⟨(n0, n1, n2), by simpa using k0, by simpa using k1, by simpa using k2, w0⟩
    obtain ⟨q, hq⟩ := choose_lt each
    by_cases h0 : len = 0
    · subst h0; exact ⟨0, fun _ => 0, fun _ => 0, fun _ => 0, some a, cap, rfl, by omega, fun i hi => by omega⟩
    · obtain ⟨b, off, spot⟩ := a
      have hlm : len ≤ m := by omega
      have c0 := (hq 0 (by omega)).1
      have hspot : spot = none := by simpa [Addr.add] using World.cell?_spot c0
      subst hspot
      refine ⟨len, fun i => (q i).1, fun i => (q i).2.1, fun i => (q i).2.2, some ⟨b, off, none⟩, cap, rfl, by unfold maxLen at hm; omega, fun i hi => ⟨b, off, rfl, World.block_lt_of_cell? W _ c0, ?_⟩⟩
      rw [← addr_add, ← addr_add, ← addr_add]
      exact hq i (by omega)
end

variable {W0 w w' W : World} {p o : Nat} {v v' u u' : Value} {L L' R : List Int} {kd g t : Int}
/-- States since W0, and a list of the statement's own in the row u. -/
structure Sq (W0 w : World) (p : Nat) (v : Value) (L : List Int) (u : Value) (R : List Int) : Prop where
  ss : Ss W0 w p v L
  row : w.ownsRow W0.heap.size 3 1 u R.length (cells R)
  off : ∀ k, u.ownBlock = some k → ¬ home p v k
namespace Sq
theorem turns (h : Sq W0 w p v L u R) (ht : Wrote (home p v) w (home p v') w') (hs : IsSt w' p v' L') : Sq W0 w' p v' L' u R := by
  refine ⟨h.ss.turns ht hs, ⟨h.row.1, ?_⟩, fun k hk h' => (ht.home k h').elim (h.off k hk) (fun h2 => by have := (h.row.lt k hk).2; omega)⟩
  rcases h.row.2 with hn | ⟨b, cap, cur, rfl, hb, hgg, rest⟩
  · exact .inl hn
  · exact .inr ⟨b, cap, cur, rfl, hb, by rw [ht.block b (block_lt hgg) (h.off b rfl)]; exact hgg, rest⟩
theorem below (h : Sq W0 w p v L u R) (hb : Below w.heap.size w w') : Sq W0 w' p v L u R := by
  refine ⟨h.ss.below hb, ⟨h.row.1, ?_⟩, h.off⟩
  rcases h.row.2 with hn | ⟨b, cap, cur, rfl, hb', hgg, rest⟩
  · exact .inl hn
  · exact .inr ⟨b, cap, cur, rfl, hb', by rw [hb.block b (block_lt hgg)]; exact hgg, rest⟩
theorem more {x : Int} {ob : Obj} (h : Sq W0 w p v L u R) (ho : w'.ownsRow W0.heap.size 3 1 u' (R.length + 1) (cells R ++ [.int .i64 x])) (hg : (w.alloc ob).grownBy w' u.ownBlock) (hw : u'.ownBlock = u.ownBlock ∨ u'.ownBlock = some (w.alloc ob).heap.size) : Sq W0 w' p v L u' (R ++ [x]) := by
  have hsz : (w.alloc ob).heap.size = w.heap.size + 1 := by show (w.heap.push ob).size = _; rw [Array.size_push]
  have hwr : Wrote (fun k => u.ownBlock = some k) w (fun k => u.ownBlock = some k) w' :=
    ⟨hg.os, hg.tape, hg.output, by have := hg.size; omega, fun k hk hn => by rw [hg.block k (by omega) (fun e => hn e.symm)]; exact Below.heap_alloc _ _ _ hk, fun _ h => Or.inl h⟩
  refine ⟨h.ss.wrote hwr (fun k hk => (h.row.lt k hk).1) (fun k h1 h2 => h.off k h2 h1), by rw [cells_app, List.length_append]; exact ho, fun k hk h' => ?_⟩
  rcases hw with hw | hw
  · exact h.off k (hw ▸ hk) h'
  · rw [hw] at hk
    have := Option.some.inj hk
    have := h.ss.st.lt k h'
    omega
theorem put {i : Nat} {x : Int} {b cap : Nat} (h : Sq W0 w p v L u R) (hu : u = .slice (some ⟨b, 0, none⟩) R.length cap) (hh : W.heap = (w.setCell ⟨b, i, none⟩ (.int .i64 x)).heap) (ho : W.os = w.os) (ht : W.tape = w.tape) (hu2 : W.output = w.output) : Sq W0 W p v L u (R.set i x) := by
  subst hu
  have hw : Wrote (fun k => k = b) w (fun k => k = b) W := wrote_setCell (a := ⟨b, i, none⟩) (u := .int .i64 x) hh ho ht hu2 rfl
  refine ⟨h.ss.wrote hw (fun k hk => by rw [hk]; exact (h.row.lt b rfl).1) (fun k h1 h2 => h.off b rfl (by rw [← show k = b from h2]; exact h1)), ?_, h.off⟩
  have hst := (h.row.stored i (.int .i64 x)).1
  rw [cells_set] at hst
  rw [List.length_set]
  refine ⟨hst.1, ?_⟩
  rcases hst.2 with hn | ⟨b', cap', cur, e, hb', hgg, rest⟩
  · exact .inl hn
  · exact .inr ⟨b', cap', cur, e, hb', by rw [hh]; exact hgg, rest⟩
end Sq
/-- With the operation at hand in its box. -/
structure Sr (W0 w : World) (p : Nat) (v : Value) (L : List Int) (u : Value) (R : List Int) (o : Nat) (kd g t : Int) : Prop where
  sq : Sq W0 w p v L u R
  op : w.heap[o]? = some (.cells #[.int .i64 kd, .int .i64 g, .int .i64 t] 64 (0, 0))
  oo : ¬ home p v o ∧ u.ownBlock ≠ some o
namespace Sr
theorem below (h : Sr W0 w p v L u R o kd g t) (hb : Below w.heap.size w w') : Sr W0 w' p v L u R o kd g t :=
  ⟨h.sq.below hb, by rw [hb.block o (block_lt h.op)]; exact h.op, h.oo⟩
theorem put {i : Nat} {x : Int} {b cap : Nat} (h : Sr W0 w p v L u R o kd g t) (hu : u = .slice (some ⟨b, 0, none⟩) R.length cap) (hh : W.heap = (w.setCell ⟨b, i, none⟩ (.int .i64 x)).heap) (ho : W.os = w.os) (ht : W.tape = w.tape) (hu2 : W.output = w.output) : Sr W0 W p v L u (R.set i x) o kd g t :=
  ⟨h.sq.put hu hh ho ht hu2, by rw [hh, Below.heap_setCell _ _ _ _ (fun e => h.oo.2 (by rw [hu, e]; rfl))]; exact h.op, h.oo⟩
theorem c0 (h : Sr W0 w p v L u R o kd g t) : w.cell? ⟨o, 0, none⟩ = some (.int .i64 kd) := cell_of h.op rfl
theorem c1 (h : Sr W0 w p v L u R o kd g t) : w.cell? ⟨o, 1, none⟩ = some (.int .i64 g) := cell_of h.op rfl
theorem c2 (h : Sr W0 w p v L u R o kd g t) : w.cell? ⟨o, 2, none⟩ = some (.int .i64 t) := cell_of h.op rfl
end Sr
theorem sq_spawn (h : Sq W0 w p v L u R) (hs : L.length < 1024) : Calls Try.prog 39 #[.pointer (some ⟨p, 0, none⟩)] w fun e w' => e = .returned (.tuple #[.int .i64 L.length, .int .i64 0]) ∧ ∃ v', Sq W0 w' p v' (L ++ [1]) u R :=
  (spawn_any w h.ss.st hs).mono fun _ _ ⟨he, v', ht, hs⟩ => ⟨he, v', h.turns ht hs⟩
theorem sq_move (i : Nat) (t : Int) (h : Sq W0 w p v L u R) (hg : i < L.length) (hm : mayB (L.getD i 0) t = true) : Calls Try.prog 41 #[.pointer (some ⟨p, 0, none⟩), .int .i64 i, .int .i64 t] w fun e w' => e = .returned (.int .i64 0) ∧ ∃ v', Sq W0 w' p v' (L.set i t) u R :=
  (move_ok i t hg hm w h.ss.st).mono fun _ _ ⟨he, v', ht, hs⟩ => ⟨he, v', h.turns ht hs⟩
theorem sq_not (i : Nat) (t : Int) (h : Sq W0 w p v L u R) (hg : i < L.length) (hm : mayB (L.getD i 0) t = false) : Calls Try.prog 41 #[.pointer (some ⟨p, 0, none⟩), .int .i64 i, .int .i64 t] w fun e w' => e = .returned (.int .i64 5) ∧ Sq W0 w' p v L u R :=
  (move_not i t hg hm w h.ss.st).mono fun _ _ ⟨he, hb⟩ => ⟨he, h.below hb⟩
theorem sq_none (i t : Int) (h : Sq W0 w p v L u R) (hg : ¬ (0 ≤ i ∧ i < L.length)) : Calls Try.prog 41 #[.pointer (some ⟨p, 0, none⟩), .int .i64 i, .int .i64 t] w fun e w' => e = .returned (.int .i64 4) ∧ Sq W0 w' p v L u R :=
  (move_none i t hg w h.ss.st).mono fun _ _ ⟨he, hw⟩ => ⟨he, hw ▸ h⟩
theorem cnt_take (R : List Int) (k : Int) {j : Nat} (hj : j < R.length) : cnt (R.take (j + 1)) k = cnt (R.take j) k + (if R.getD j 0 = k then 1 else 0) := by
  rw [List.take_succ_eq_append_getElem hj, cnt_app, List.getD_eq_getElem?_getD, List.getElem?_eq_getElem hj]
  simp [cnt]
/-- Of each state below k, how many. -/
def sumTo (R : List Int) : Nat → Int
  | 0 => 0
  | k + 1 => sumTo R k + (if k = 0 then 0 else cnt R k)
theorem sum_all : ∀ (R : List Int), (∀ x ∈ R, 1 ≤ x ∧ x ≤ 5) → sumTo R 6 = R.length
  | [], _ => by simp [sumTo, cnt]
  | x :: R, h => by
    have ih := sum_all R (fun y hy => h y (List.mem_cons_of_mem _ hy))
    have hx := h x List.mem_cons_self
    simp [sumTo, cnt] at ih ⊢
    rcases (show x = 1 ∨ x = 2 ∨ x = 3 ∨ x = 4 ∨ x = 5 by omega) with rfl | rfl | rfl | rfl | rfl
    all_goals (simp; omega)
theorem sum_in (R : List Int) : ∀ k, 0 ≤ sumTo R k ∧ sumTo R k ≤ k * R.length
  | 0 => by simp [sumTo]
  | k + 1 => by
    have ih := sum_in R k
    have hc := cnt_in R k
    show 0 ≤ sumTo R k + _ ∧ sumTo R k + _ ≤ _
    rw [show (((k + 1 : Nat) : Int)) * (R.length : Int) = (k : Int) * (R.length : Int) + (R.length : Int) by rw [Int.natCast_add, Int.add_mul]; simp]
    split <;> omega
end St
end Go.Proofs.Yteigcjgohhgjcaa
