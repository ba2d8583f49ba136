/- Two buffers of the program, and the document's own two beside them. -/
import Derived.Test.YtclldajbibhcbaaRefHalf
namespace Go.Proofs.Ytclldajbibhcbaa
open Go.RowKit Go.Lib Fx Ho Rw Qu
set_option linter.unusedVariables false
namespace Bb
def bPut (A : List Int) (g : Int) : List Int := if A.length < 32 then A ++ [g] else A
def bGet (A : List Int) : List Int := A.take (A.length - 1)
def bGot (A : List Int) : Int × Bool := (A.getD (A.length - 1) 0, decide (0 < A.length))
def hN (A B : List Int) : Nat := if A.length / 2 + B.length ≤ 32 then A.length / 2 else 0
def hA (A B : List Int) : List Int := if A.length / 2 + B.length ≤ 32 then A.take (A.length - A.length / 2) else A
def hB (A B : List Int) : List Int := if A.length / 2 + B.length ≤ 32 then B ++ A.drop (A.length - A.length / 2) else B
/-- All four; N is where blocks that they did not begin with begin. -/
structure Rk (N : Nat) (W0 W : World) (p q x y : Nat) (A B C D : List Int) : Prop where
  a : Bu.IsBuf W p A
  b : Bu.IsBuf W q B
  c : ∃ v, Rb.IsB (fun k => N ≤ k) W x v C
  d : ∃ v, Rb.IsB (fun k => N ≤ k) W y v D
  pq : p ≠ q
  px : p ≠ x
  py : p ≠ y
  qx : q ≠ x
  qy : q ≠ y
  xy : x ≠ y
  lp : W0.heap.size ≤ p ∧ p < N
  lq : W0.heap.size ≤ q ∧ q < N
  lx : W0.heap.size ≤ x ∧ x < N
  ly : W0.heap.size ≤ y ∧ y < N
  nn : N ≤ W.heap.size
  bel : Below W0.heap.size W0 W
/-- Blocks from N on are as they were. -/
def Kn (N : Nat) (W W' : World) : Prop := Wrote (fun k => k < N) W (fun k => k < N) W'
variable {N : Nat} {W0 W W' W2 : World} {p q x y : Nat} {A B C D A' B' C' D' : List Int}
theorem Kn.trans (h : Kn N W W') (k : Kn N W' W2) : Kn N W W2 := Wrote.trans h k
theorem kn_of {H H' : Home} (h : Wrote H W H' W') (hl : ∀ k, H k → k < N) : Kn N W W' := ⟨h.os, h.tape, h.output, h.size, fun k hk hn => h.block k hk (fun e => hn (hl k e)), fun k hk => Or.inl hk⟩
theorem kn_below (h : Below W.heap.size W W') : Kn N W W' := kn_of (Wrote.of_below (H := fun _ => False) h) (fun _ h => h.elim)
theorem Kn.block (h : Kn N W W') {z : Nat} {o : Obj} (hz : N ≤ z) (ho : W.heap[z]? = some o) : W'.heap[z]? = some o := (Wrote.block h z (block_lt ho) (fun e => by omega)).trans ho
namespace Rk
theorem swap (h : Rk N W0 W p q x y A B C D) : Rk N W0 W q p y x B A D C := ⟨h.b, h.a, h.d, h.c, fun e => h.pq e.symm, h.qy, h.qx, h.py, h.px, fun e => h.xy e.symm, h.lq, h.lp, h.ly, h.lx, h.nn, h.bel⟩
theorem below (h : Rk N W0 W p q x y A B C D) (hb : Below W.heap.size W W') : Rk N W0 W' p q x y A B C D := by
  obtain ⟨c1, c3⟩ := h.c
  obtain ⟨d1, d3⟩ := h.d
  exact ⟨h.a.below hb, h.b.below hb, ⟨c1, c3.below hb⟩, ⟨d1, d3.below hb⟩, h.pq, h.px, h.py, h.qx, h.qy, h.xy, h.lp, h.lq, h.lx, h.ly, Nat.le_trans h.nn hb.size, h.bel.trans (hb.mono h.bel.size)⟩
theorem left (h : Rk N W0 W p q x y A B C D) (ht : Wrote (fun k => k = p) W (fun k => k = p) W') (hr : Bu.IsBuf W' p A') : Rk N W0 W' p q x y A' B C D := by
  obtain ⟨c1, c3⟩ := h.c
  obtain ⟨d1, d3⟩ := h.d
  have ho : Off (fun k => N ≤ k) (fun k => k = p) := fun k h1 h2 => by have := h.lp.2; omega
  exact ⟨hr, h.b.wrote ht (fun e => h.pq e.symm), ⟨c1, c3.wrote ht (fun e => h.px e.symm) ho⟩, ⟨d1, d3.wrote ht (fun e => h.py e.symm) ho⟩, h.pq, h.px, h.py, h.qx, h.qy, h.xy, h.lp, h.lq, h.lx, h.ly, Nat.le_trans h.nn ht.size, h.bel.trans (Rw.below_of_wrote ht (fun k hk => by rw [show k = p from hk]; exact h.lp.1) h.bel.size)⟩
theorem right (h : Rk N W0 W p q x y A B C D) (ht : Wrote (fun k => k = x) W (fun k => k = x) W') {v : Value} (hr : Rb.IsB (fun k => N ≤ k) W' x v C') : Rk N W0 W' p q x y A B C' D := by
  obtain ⟨d1, d3⟩ := h.d
  have ho : Off (fun k => N ≤ k) (fun k => k = x) := fun k h1 h2 => by have := h.lx.2; omega
  exact ⟨h.a.wrote ht h.px, h.b.wrote ht h.qx, ⟨_, hr⟩, ⟨d1, d3.wrote ht (fun e => h.xy e.symm) ho⟩, h.pq, h.px, h.py, h.qx, h.qy, h.xy, h.lp, h.lq, h.lx, h.ly, Nat.le_trans h.nn ht.size, h.bel.trans (Rw.below_of_wrote ht (fun k hk => by rw [show k = x from hk]; exact h.lx.1) h.bel.size)⟩
theorem two (h : Rk N W0 W p q x y A B C D) (ht : Wrote (fun k => k = p ∨ k = q) W (fun k => k = p ∨ k = q) W') (hr : Bu.IsBuf W' p A') (hs : Bu.IsBuf W' q B') : Rk N W0 W' p q x y A' B' C D := by
  obtain ⟨c1, c3⟩ := h.c
  obtain ⟨d1, d3⟩ := h.d
  have ho : Off (fun k => N ≤ k) (fun k => k = p ∨ k = q) := fun k h1 h2 => by have := h.lp.2; have := h.lq.2; rcases h2 with h2 | h2 <;> omega
  exact ⟨hr, hs, ⟨c1, c3.wrote ht (fun e => e.elim (fun e => h.px e.symm) (fun e => h.qx e.symm)) ho⟩, ⟨d1, d3.wrote ht (fun e => e.elim (fun e => h.py e.symm) (fun e => h.qy e.symm)) ho⟩, h.pq, h.px, h.py, h.qx, h.qy, h.xy, h.lp, h.lq, h.lx, h.ly, Nat.le_trans h.nn ht.size, h.bel.trans (Rw.below_of_wrote ht (fun k hk => hk.elim (fun e => by rw [e]; exact h.lp.1) (fun e => by rw [e]; exact h.lq.1)) h.bel.size)⟩
theorem twoR (h : Rk N W0 W p q x y A B C D) (ht : Wrote (fun k => k = x ∨ k = y) W (fun k => k = x ∨ k = y) W') {u v : Value} (hr : Rb.IsB (fun k => N ≤ k) W' x v C') (hs : Rb.IsB (fun k => N ≤ k) W' y u D') : Rk N W0 W' p q x y A B C' D' :=
  ⟨h.a.wrote ht (fun e => e.elim h.px h.py), h.b.wrote ht (fun e => e.elim h.qx h.qy), ⟨_, hr⟩, ⟨_, hs⟩, h.pq, h.px, h.py, h.qx, h.qy, h.xy, h.lp, h.lq, h.lx, h.ly, Nat.le_trans h.nn ht.size, h.bel.trans (Rw.below_of_wrote ht (fun k hk => hk.elim (fun e => by rw [e]; exact h.lx.1) (fun e => by rw [e]; exact h.ly.1)) h.bel.size)⟩
end Rk
theorem b_put (h : Rk N W0 W p q x y A B C D) (g : Int) : Calls Try.prog 67 #[.pointer (some ⟨p, 0, none⟩), .int .i64 g] W fun e W' => e = .returned (.bool (decide (A.length < 32))) ∧ Rk N W0 W' p q x y (bPut A g) B C D ∧ Kn N W W' := by
  have hk : ∀ {w'}, Wrote (fun k => k = p) W (fun k => k = p) w' → Kn N W w' := fun ht => kn_of ht (fun k hk => by rw [show k = p from hk]; exact h.lp.2)
  unfold bPut
  by_cases hl : A.length < 32
  · simp only [hl, if_true, decide_true]
    exact (Bu.put_room g hl h.a).mono fun _ W' ⟨he, ht, hr⟩ => ⟨he, h.left ht hr, hk ht⟩
  · simp only [hl, if_false, decide_false]
    exact (Bu.put_full g (by have := h.a.small; omega) h.a).mono fun _ W' ⟨he, hw⟩ => ⟨he, by rw [← hw]; exact h, by rw [← hw]; exact kn_below (Below.refl _ _)⟩
theorem b_rput (h : Rk N W0 W p q x y A B C D) (g : Int) : Calls Try.prog 68 #[.pointer (some ⟨x, 0, none⟩), .int .i64 g] W fun e W' => e = .returned (.bool (decide (C.length < 32))) ∧ Rk N W0 W' p q x y A B (bPut C g) D ∧ Kn N W W' := by
  have hk : ∀ {w'}, Wrote (fun k => k = x) W (fun k => k = x) w' → Kn N W w' := fun ht => kn_of ht (fun k hk => by rw [show k = x from hk]; exact h.lx.2)
  obtain ⟨v, hc⟩ := h.c
  unfold bPut
  by_cases hl : C.length < 32
  · simp only [hl, if_true, decide_true]
    exact (Rb.put_room g hl hc (fun e => by have := h.lx.2; omega) (fun k hk => Nat.le_trans h.nn hk)).mono fun _ W' ⟨_, he, ht, hr⟩ => ⟨he, h.right ht hr, hk ht⟩
  · simp only [hl, if_false, decide_false]
    exact (Rb.put_full g (by omega) hc).mono fun _ W' ⟨he, hw⟩ => ⟨he, by rw [← hw]; exact h, by rw [← hw]; exact kn_below (Below.refl _ _)⟩
theorem got_none : bGot [] = (0, false) := rfl
theorem b_get (h : Rk N W0 W p q x y A B C D) : Calls Try.prog 69 #[.pointer (some ⟨p, 0, none⟩)] W fun e W' => e = .returned (.tuple #[.int .i64 (bGot A).1, .bool (bGot A).2]) ∧ Rk N W0 W' p q x y (bGet A) B C D ∧ Kn N W W' := by
  have hk : ∀ {w'}, Wrote (fun k => k = p) W (fun k => k = p) w' → Kn N W w' := fun ht => kn_of ht (fun k hk => by rw [show k = p from hk]; exact h.lp.2)
  obtain ⟨n, hn⟩ | hn : (∃ n, A.length = n + 1) ∨ A.length = 0 := (Nat.eq_zero_or_pos A.length).elim (fun h => .inr h) (fun h => .inl ⟨A.length - 1, by omega⟩)
  · unfold bGot bGet
    simp only [hn, Nat.add_sub_cancel, Nat.succ_pos, decide_true]
    exact (Bu.get_some hn h.a).mono fun _ W' ⟨he, ht, hr⟩ => ⟨he, h.left ht hr, hk ht⟩
  · obtain rfl := List.eq_nil_of_length_eq_zero hn
    exact (Bu.get_none h.a).mono fun _ W' ⟨he, hw⟩ => ⟨he, by rw [← hw]; exact h, by rw [← hw]; exact kn_below (Below.refl _ _)⟩
theorem b_rget (h : Rk N W0 W p q x y A B C D) (hs : C.length ≤ 32) : Calls Try.prog 70 #[.pointer (some ⟨x, 0, none⟩)] W fun e W' => e = .returned (.tuple #[.int .i64 (bGot C).1, .bool (bGot C).2]) ∧ Rk N W0 W' p q x y A B (bGet C) D ∧ Kn N W W' := by
  have hk : ∀ {w'}, Wrote (fun k => k = x) W (fun k => k = x) w' → Kn N W w' := fun ht => kn_of ht (fun k hk => by rw [show k = x from hk]; exact h.lx.2)
  obtain ⟨v, hc⟩ := h.c
  obtain ⟨n, hn⟩ | hn : (∃ n, C.length = n + 1) ∨ C.length = 0 := (Nat.eq_zero_or_pos C.length).elim (fun h => .inr h) (fun h => .inl ⟨C.length - 1, by omega⟩)
  · unfold bGot bGet
    simp only [hn, Nat.add_sub_cancel, Nat.succ_pos, decide_true]
    exact (Rb.get_some hn (by omega) hc (fun e => by have := h.lx.2; omega)).mono fun _ W' ⟨_, he, ht, hr⟩ => ⟨he, h.right ht hr, hk ht⟩
  · obtain rfl := List.eq_nil_of_length_eq_zero hn
    exact (Rb.get_none hc).mono fun _ W' ⟨he, hw⟩ => ⟨he, by rw [← hw]; exact h, by rw [← hw]; exact kn_below (Below.refl _ _)⟩
theorem b_half (h : Rk N W0 W p q x y A B C D) : Calls Try.prog 71 #[.pointer (some ⟨p, 0, none⟩), .pointer (some ⟨q, 0, none⟩)] W fun e W' => e = .returned (.int .i64 (hN A B : Nat)) ∧ Rk N W0 W' p q x y (hA A B) (hB A B) C D ∧ Kn N W W' := by
  have hk : ∀ {w'}, Wrote (fun k => k = p ∨ k = q) W (fun k => k = p ∨ k = q) w' → Kn N W w' := fun ht => kn_of ht (fun k hk => hk.elim (fun e => by rw [e]; exact h.lp.2) (fun e => by rw [e]; exact h.lq.2))
  unfold hN hA hB
  by_cases hr : A.length / 2 + B.length ≤ 32
  · simp only [hr, if_true]
    exact (Bu.half_ok (k := A.length - A.length / 2) rfl (by omega) hr h.pq h.a h.b).mono fun _ W' ⟨he, ht, hr, hs⟩ => ⟨he, h.two ht hr hs, hk ht⟩
  · simp only [hr, if_false]
    exact (Bu.half_no rfl (by omega) h.pq h.a h.b).mono fun _ W' ⟨he, hw⟩ => ⟨he, by rw [← hw]; exact h, by rw [← hw]; exact kn_below (Below.refl _ _)⟩
theorem b_rhalf (h : Rk N W0 W p q x y A B C D) (hc3 : C.length ≤ 32) (hd3 : D.length ≤ 32) : Calls Try.prog 72 #[.pointer (some ⟨x, 0, none⟩), .pointer (some ⟨y, 0, none⟩)] W fun e W' => e = .returned (.int .i64 (hN C D : Nat)) ∧ Rk N W0 W' p q x y A B (hA C D) (hB C D) ∧ Kn N W W' := by
  have hk : ∀ {w'}, Wrote (fun k => k = x ∨ k = y) W (fun k => k = x ∨ k = y) w' → Kn N W w' := fun ht => kn_of ht (fun k hk => hk.elim (fun e => by rw [e]; exact h.lx.2) (fun e => by rw [e]; exact h.ly.2))
  obtain ⟨v, hc⟩ := h.c
  obtain ⟨u, hd⟩ := h.d
  unfold hN hA hB
  by_cases hr : C.length / 2 + D.length ≤ 32
  · simp only [hr, if_true]
    exact (Rb.half_ok (k := C.length - C.length / 2) rfl (by omega) hr hc3 h.xy hc hd (fun e => by have := h.lx.2; omega) (fun e => by have := h.ly.2; omega) (fun k hk => Nat.le_trans h.nn hk)).mono fun _ W' ⟨_, _, he, ht, hr, hs⟩ => ⟨he, h.twoR ht hr hs, hk ht⟩
  · simp only [hr, if_false]
    exact (Rb.half_no rfl (by omega) (by omega) hd3 h.xy hc hd).mono fun _ W' ⟨he, hw⟩ => ⟨he, by rw [← hw]; exact h, by rw [← hw]; exact kn_below (Below.refl _ _)⟩
theorem b_len (h : Rk N W0 W p q x y A B C D) : Calls Try.prog 73 #[.pointer (some ⟨p, 0, none⟩)] W (Still (.int .i64 (A.length : Nat)) W) := Bu.len_any h.a
theorem b_all (h : Rk N W0 W p q x y A B C D) : Calls Try.prog 75 #[.pointer (some ⟨p, 0, none⟩)] W fun e W' => ∃ v, e = .returned v ∧ Below W.heap.size W W' ∧ Ints W' (fun k => N ≤ k) v A :=
  (Bu.all_any h.a).mono fun _ W' ⟨v, he, hb, ho⟩ => ⟨v, he, hb, (ints_of_owns ho).wider (fun k hk _ => Nat.le_trans h.nn (ho.lt k hk).1)⟩
theorem new4 {w w1 w2 : World} (hb1 : Below w.heap.size w w1) (ha : Bu.IsBuf w1 w.heap.size []) (hb2 : Below w1.heap.size w1 w2) (hb : Bu.IsBuf w2 w1.heap.size []) :
    Rk (w2.heap.size + 2) w ((w2.alloc (.cells #[.slice none 0 0] 86)).alloc (.cells #[.slice none 0 0] 86)) w.heap.size w1.heap.size w2.heap.size (w2.heap.size + 1) [] [] [] [] := by
  have l1 := ha.lt
  have l2 := hb.lt
  have hs1 : (w2.alloc (.cells #[.slice none 0 0] 86)).heap.size = w2.heap.size + 1 := size_new _ _
  have hs2 := size_new (w2.alloc (.cells #[.slice none 0 0] 86)) (.cells #[.slice none 0 0] 86)
  have hA := below_alloc (Below.refl _ w2) (.cells #[.slice none 0 0] 86)
  have hB := hA.trans ((below_alloc (Below.refl _ (w2.alloc (.cells #[.slice none 0 0] 86))) (.cells #[.slice none 0 0] 86)).mono hA.size)
  have hx : ((w2.alloc (.cells #[.slice none 0 0] 86)).alloc (.cells #[.slice none 0 0] 86)).heap[w2.heap.size]? = some (.cells #[.slice none 0 0] 86 (0, 0)) := by
    rw [(below_alloc (Below.refl _ (w2.alloc (.cells #[.slice none 0 0] 86))) (.cells #[.slice none 0 0] 86)).block _ (by omega)]
    exact heap_alloc_new _ _
  have hy : ((w2.alloc (.cells #[.slice none 0 0] 86)).alloc (.cells #[.slice none 0 0] 86)).heap[w2.heap.size + 1]? = some (.cells #[.slice none 0 0] 86 (0, 0)) := by
    rw [← hs1]; exact heap_alloc_new _ _
  have ha2 := ha.below hb2
  exact ⟨ha2.wrote (H := fun _ => False) (Wrote.of_below hB) (fun h => h), hb.below hB, ⟨_, hx, ints_nil _ _, fun s n c e => by cases e; exact Nat.le_refl _⟩, ⟨_, hy, ints_nil _ _, fun s n c e => by cases e; exact Nat.le_refl _⟩, by omega, by have := hb2.size; omega, by have := hb2.size; omega, by omega, by omega, by omega, by have := hb2.size; omega, by have := hb1.size; omega, by have := hb1.size; have := hb2.size; omega, by have := hb1.size; have := hb2.size; omega, by omega, (hb1.trans (hb2.mono hb1.size)).trans (hB.mono (Nat.le_trans hb1.size hb2.size))⟩
end Bb
end Go.Proofs.Ytclldajbibhcbaa
