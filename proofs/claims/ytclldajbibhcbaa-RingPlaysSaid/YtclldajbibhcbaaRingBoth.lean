/- Two rings of the program, and the document's own two beside them. -/
import Derived.Test.YtclldajbibhcbaaRefRing3
import Derived.Test.YtclldajbibhcbaaRefRing4
import Derived.Test.YtclldajbibhcbaaRefRing5
namespace Go.Proofs.Ytclldajbibhcbaa
open Go.RowKit Go.Lib Fx Ho Ri Rw Qu
set_option linter.unusedVariables false
namespace Rr
/-- Who is next, and the row. -/
abbrev Pr := Option Int × List Int
def pPut (A : Pr) (g : Int) (b : Bool) : Pr := (Ri.putN A.1 g b, Ri.putL A.2 (Ri.putG A.1 g b))
def pOut (A : Pr) (g : Int) (b : Bool) : List Int := Ri.putO A.2 (Ri.putG A.1 g b)
def pGet (A : Pr) : Pr := match A with
  | (some _, L) => (none, L)
  | (none, L) => (none, L.tail)
def pGot (A : Pr) : Int × Bool := match A with
  | (some g, _) => (g, true)
  | (none, g :: _) => (g, true)
  | (none, []) => (0, false)
def pDel (A : Pr) (g : Int) : Pr := (dN A.1 g, dL A.1 A.2 g)
def sK (A B : Pr) : Nat := if B.2.length = 0 then (if B.1 = none ∨ A.2.length = 256 then 0 else 1) else min (B.2.length - B.2.length / 2) (256 - A.2.length)
def sA (A B : Pr) : Pr := if B.2.length = 0 then (if B.1 = none ∨ A.2.length = 256 then A else (A.1, A.2 ++ B.1.toList)) else (A.1, A.2 ++ B.2.take (sK A B))
def sB (A B : Pr) : Pr := if B.2.length = 0 then (if B.1 = none ∨ A.2.length = 256 then B else (none, [])) else (B.1, B.2.drop (sK A B))
/-- All four; N is where blocks that they did not begin with begin. -/
structure Rb (N : Nat) (W0 W : World) (p q x y : Nat) (A B C D : Pr) : Prop where
  a : IsRing W p A.1 A.2
  b : IsRing W q B.1 B.2
  c : ∃ nv lv, IsR (fun k => N ≤ k) W x nv lv C.1 C.2
  d : ∃ nv lv, IsR (fun k => N ≤ k) W y nv lv D.1 D.2
  pq : p ≠ q
  px : p ≠ x
  py : p ≠ y
  qx : q ≠ x
  qy : q ≠ y
  xy : x ≠ y
  lp : W0.heap.size ≤ p ∧ p < N
  lq : W0.heap.size ≤ q ∧ q < N
  lx : W0.heap.size ≤ x ∧ x < N
  ly : W0.heap.size ≤ y ∧ y < N
  nn : N ≤ W.heap.size
  bel : Below W0.heap.size W0 W
/-- Blocks from N on are as they were. -/
def Kn (N : Nat) (W W' : World) : Prop := Wrote (fun k => k < N) W (fun k => k < N) W'
variable {N : Nat} {W0 W W' W2 : World} {p q x y : Nat} {A B C D A' B' C' D' : Pr}
theorem Kn.trans (h : Kn N W W') (k : Kn N W' W2) : Kn N W W2 := Wrote.trans h k
theorem kn_of {H H' : Home} (h : Wrote H W H' W') (hl : ∀ k, H k → k < N) : Kn N W W' := ⟨h.os, h.tape, h.output, h.size, fun k hk hn => h.block k hk (fun e => hn (hl k e)), fun k hk => Or.inl hk⟩
theorem kn_below (h : Below W.heap.size W W') : Kn N W W' := kn_of (Wrote.of_below (H := fun _ => False) h) (fun _ h => h.elim)
theorem Kn.ints (h : Kn N W W') {v : Value} {zs : List Int} (hi : Ints W (fun k => N ≤ k) v zs) : Ints W' (fun k => N ≤ k) v zs := hi.wrote h (fun k h1 h2 => by omega)
theorem Kn.block (h : Kn N W W') {z : Nat} {o : Obj} (hz : N ≤ z) (ho : W.heap[z]? = some o) : W'.heap[z]? = some o := (Wrote.block h z (block_lt ho) (fun e => by omega)).trans ho
namespace Rb
theorem swap (h : Rb N W0 W p q x y A B C D) : Rb N W0 W q p y x B A D C := ⟨h.b, h.a, h.d, h.c, fun e => h.pq e.symm, h.qy, h.qx, h.py, h.px, fun e => h.xy e.symm, h.lq, h.lp, h.ly, h.lx, h.nn, h.bel⟩
theorem below (h : Rb N W0 W p q x y A B C D) (hb : Below W.heap.size W W') : Rb N W0 W' p q x y A B C D := by
  obtain ⟨c1, c2, c3⟩ := h.c
  obtain ⟨d1, d2, d3⟩ := h.d
  exact ⟨h.a.wrote (H := fun _ => False) (Wrote.of_below hb) (fun h => h), h.b.wrote (H := fun _ => False) (Wrote.of_below hb) (fun h => h), ⟨c1, c2, c3.below hb⟩, ⟨d1, d2, d3.below hb⟩, h.pq, h.px, h.py, h.qx, h.qy, h.xy, h.lp, h.lq, h.lx, h.ly, Nat.le_trans h.nn hb.size, h.bel.trans (hb.mono h.bel.size)⟩
theorem left (h : Rb N W0 W p q x y A B C D) (ht : Wrote (fun k => k = p) W (fun k => k = p) W') (hr : IsRing W' p A'.1 A'.2) : Rb N W0 W' p q x y A' B C D := by
  obtain ⟨c1, c2, c3⟩ := h.c
  obtain ⟨d1, d2, d3⟩ := h.d
  have ho : Off (fun k => N ≤ k) (fun k => k = p) := fun k h1 h2 => by have := h.lp.2; omega
  exact ⟨hr, h.b.wrote ht (fun e => h.pq e.symm), ⟨c1, c2, c3.wrote ht (fun e => h.px e.symm) ho⟩, ⟨d1, d2, d3.wrote ht (fun e => h.py e.symm) ho⟩, h.pq, h.px, h.py, h.qx, h.qy, h.xy, h.lp, h.lq, h.lx, h.ly, Nat.le_trans h.nn ht.size, h.bel.trans (Rw.below_of_wrote ht (fun k hk => by rw [show k = p from hk]; exact h.lp.1) h.bel.size)⟩
theorem right (h : Rb N W0 W p q x y A B C D) (ht : Wrote (fun k => k = x) W (fun k => k = x) W') {nv lv : Value} (hr : IsR (fun k => N ≤ k) W' x nv lv C'.1 C'.2) : Rb N W0 W' p q x y A B C' D := by
  obtain ⟨d1, d2, d3⟩ := h.d
  have ho : Off (fun k => N ≤ k) (fun k => k = x) := fun k h1 h2 => by have := h.lx.2; omega
  exact ⟨h.a.wrote ht h.px, h.b.wrote ht h.qx, ⟨_, _, hr⟩, ⟨d1, d2, d3.wrote ht (fun e => h.xy e.symm) ho⟩, h.pq, h.px, h.py, h.qx, h.qy, h.xy, h.lp, h.lq, h.lx, h.ly, Nat.le_trans h.nn ht.size, h.bel.trans (Rw.below_of_wrote ht (fun k hk => by rw [show k = x from hk]; exact h.lx.1) h.bel.size)⟩
theorem two (h : Rb N W0 W p q x y A B C D) (ht : Wrote (both p q) W (both p q) W') (hr : IsRing W' p A'.1 A'.2) (hs : IsRing W' q B'.1 B'.2) : Rb N W0 W' p q x y A' B' C D := by
  obtain ⟨c1, c2, c3⟩ := h.c
  obtain ⟨d1, d2, d3⟩ := h.d
  have ho : Off (fun k => N ≤ k) (both p q) := fun k h1 h2 => by have := h.lp.2; have := h.lq.2; rcases h2 with h2 | h2 <;> omega
  exact ⟨hr, hs, ⟨c1, c2, c3.wrote ht (fun e => e.elim (fun e => h.px e.symm) (fun e => h.qx e.symm)) ho⟩, ⟨d1, d2, d3.wrote ht (fun e => e.elim (fun e => h.py e.symm) (fun e => h.qy e.symm)) ho⟩, h.pq, h.px, h.py, h.qx, h.qy, h.xy, h.lp, h.lq, h.lx, h.ly, Nat.le_trans h.nn ht.size, h.bel.trans (Rw.below_of_wrote ht (fun k hk => hk.elim (fun e => by rw [show k = p from e]; exact h.lp.1) (fun e => by rw [show k = q from e]; exact h.lq.1)) h.bel.size)⟩
theorem twoR (h : Rb N W0 W p q x y A B C D) (ht : Wrote (both x y) W (both x y) W') {nv lv mv kv : Value} (hr : IsR (fun k => N ≤ k) W' x nv lv C'.1 C'.2) (hs : IsR (fun k => N ≤ k) W' y mv kv D'.1 D'.2) : Rb N W0 W' p q x y A B C' D' :=
  ⟨h.a.wrote ht (fun e => e.elim h.px h.py), h.b.wrote ht (fun e => e.elim h.qx h.qy), ⟨_, _, hr⟩, ⟨_, _, hs⟩, h.pq, h.px, h.py, h.qx, h.qy, h.xy, h.lp, h.lq, h.lx, h.ly, Nat.le_trans h.nn ht.size, h.bel.trans (Rw.below_of_wrote ht (fun k hk => hk.elim (fun e => by rw [show k = x from e]; exact h.lx.1) (fun e => by rw [show k = y from e]; exact h.ly.1)) h.bel.size)⟩
end Rb
theorem b_put (h : Rb N W0 W p q x y A B C D) (g : Int) (b : Bool) : Calls Try.prog 17 #[.pointer (some ⟨p, 0, none⟩), .int .i64 g, .bool b] W fun e W' => ∃ v, e = .returned v ∧ Rb N W0 W' p q x y (pPut A g b) B C D ∧ Kn N W W' ∧ Ints W' (fun k => N ≤ k) v (pOut A g b) :=
  (put_all g b W h.a).mono fun _ W' ⟨v, he, ht, hr, hi⟩ => ⟨v, he, h.left (A' := pPut A g b) ht hr, kn_of ht (fun k hk => by rw [show k = p from hk]; exact h.lp.2), hi.wider (fun k hk _ => Nat.le_trans h.nn hk)⟩
theorem b_rput (h : Rb N W0 W p q x y A B C D) (hs : C.2.length ≤ 256) (g : Int) (b : Bool) : Calls Try.prog 18 #[.pointer (some ⟨x, 0, none⟩), .int .i64 g, .bool b] W fun e W' => ∃ v, e = .returned v ∧ Rb N W0 W' p q x y A B (pPut C g b) D ∧ Kn N W W' ∧ Ints W' (fun k => N ≤ k) v (pOut C g b) := by
  obtain ⟨nv, lv, hc⟩ := h.c
  exact (rput_any g b hc hs (fun e => by have := h.lx.2; omega) (fun k hk => Nat.le_trans h.nn hk)).mono fun _ W' ⟨v, nv', lv', he, ht, hr, hi⟩ => ⟨v, he, h.right (C' := pPut C g b) ht hr, kn_of ht (fun k hk => by rw [show k = x from hk]; exact h.lx.2), hi⟩
theorem b_get (h : Rb N W0 W p q x y A B C D) : Calls Try.prog 19 #[.pointer (some ⟨p, 0, none⟩)] W fun e W' => e = .returned (.tuple #[.int .i64 (pGot A).1, .bool (pGot A).2]) ∧ Rb N W0 W' p q x y (pGet A) B C D ∧ Kn N W W' := by
  obtain ⟨nx, L⟩ := A
  have hk : ∀ {w'}, Wrote (fun k => k = p) W (fun k => k = p) w' → Kn N W w' := fun ht => kn_of ht (fun k hk => by rw [show k = p from hk]; exact h.lp.2)
  cases nx with
  | some g => exact (get_next W h.a).mono fun _ W' ⟨he, ht, hr⟩ => ⟨he, h.left (A' := (none, L)) ht hr, hk ht⟩
  | none => cases L with
    | nil => exact (get_none W h.a).mono fun _ W' ⟨he, hw⟩ => ⟨he, by rw [← hw]; exact h, by rw [← hw]; exact kn_below (Below.refl _ _)⟩
    | cons g L => exact (get_row W h.a).mono fun _ W' ⟨he, ht, hr⟩ => ⟨he, h.left (A' := (none, L)) ht hr, hk ht⟩
theorem b_rget (h : Rb N W0 W p q x y A B C D) : Calls Try.prog 20 #[.pointer (some ⟨x, 0, none⟩)] W fun e W' => e = .returned (.tuple #[.int .i64 (pGot C).1, .bool (pGot C).2]) ∧ Rb N W0 W' p q x y A B (pGet C) D ∧ Kn N W W' := by
  obtain ⟨nx, L⟩ := C
  obtain ⟨nv, lv, hc⟩ := h.c
  have hp : ¬ N ≤ x := by have := h.lx.2; omega
  have hk : ∀ {w'}, Wrote (fun k => k = x) W (fun k => k = x) w' → Kn N W w' := fun ht => kn_of ht (fun k hk => by rw [show k = x from hk]; exact h.lx.2)
  cases nx with
  | some g => exact (rget_next hc hp).mono fun _ W' ⟨_, _, he, ht, hr⟩ => ⟨he, h.right (C' := (none, L)) ht hr, hk ht⟩
  | none => cases L with
    | nil => exact (rget_none hc).mono fun _ W' ⟨he, hw⟩ => ⟨he, by rw [← hw]; exact h, by rw [← hw]; exact kn_below (Below.refl _ _)⟩
    | cons g L => exact (rget_row hc hp).mono fun _ W' ⟨_, _, he, ht, hr⟩ => ⟨he, h.right (C' := (none, L)) ht hr, hk ht⟩
theorem b_rdel (h : Rb N W0 W p q x y A B C D) (hs : C.2.length ≤ 256) (g : Int) : Calls Try.prog 24 #[.pointer (some ⟨x, 0, none⟩), .int .i64 g] W fun e W' => e = .returned (.bool (dB C.1 C.2 g)) ∧ Rb N W0 W' p q x y A B (pDel C g) D ∧ Kn N W W' := by
  obtain ⟨nv, lv, hc⟩ := h.c
  exact (rdel_any g hs hc (fun e => by have := h.lx.2; omega) (fun k hk => Nat.le_trans h.nn hk)).mono fun _ W' ⟨_, _, he, ht, hr⟩ => ⟨he, h.right (C' := pDel C g) ht hr, kn_of ht (fun k hk => by rw [show k = x from hk]; exact h.lx.2)⟩
theorem b_del (h : Rb N W0 W p q x y A B C D) (g : Int) : Calls Try.prog 23 #[.pointer (some ⟨p, 0, none⟩), .int .i64 g] W fun e W' => e = .returned (.bool (dB A.1 A.2 g)) ∧ Rb N W0 W' p q x y (pDel A g) B C D ∧ Kn N W W' := by
  obtain ⟨nx, L⟩ := A
  have hk : ∀ {w'}, Wrote (fun k => k = p) W (fun k => k = p) w' → Kn N W w' := fun ht => kn_of ht (fun k hk => by rw [show k = p from hk]; exact h.lp.2)
  unfold pDel dB dN dL
  dsimp only
  by_cases hx : nx = some g
  · subst hx
    simp only [if_pos, decide_true, Bool.true_or]
    exact (del_next g W h.a).mono fun _ W' ⟨he, ht, hr⟩ => ⟨he, h.left (A' := (none, L)) ht hr, hk ht⟩
  · simp only [if_neg hx, decide_eq_false hx, Bool.false_or]
    by_cases hg : g ∈ L
    · obtain ⟨P, R, rfl, hno⟩ := first_of hg
      have e2 : (P ++ g :: R).erase g = P ++ R := by rw [List.erase_append_right _ hno, List.erase_cons_head]
      have e3 : (P ++ g :: R).eraseIdx P.length = P ++ R := by rw [List.eraseIdx_append_of_length_le (Nat.le_refl _), Nat.sub_self]; rfl
      rw [e2, decide_eq_true hg]
      exact (del_row g P.length hx (by simp) at_first (before_first hno) W h.a).mono fun _ W' ⟨he, ht, hr⟩ => ⟨he, h.left (A' := (nx, P ++ R)) ht (by rw [← e3]; exact hr), hk ht⟩
    · rw [List.erase_of_not_mem hg, decide_eq_false hg]
      exact (del_not g hx (not_at hg) W h.a).mono fun _ W' hd => ⟨hd.1, h.below (by obtain ⟨_, n, rfl⟩ := hd; exact below_drewN (Below.refl _ _) n), kn_below (by obtain ⟨_, n, rfl⟩ := hd; exact below_drewN (Below.refl _ _) n)⟩
theorem b_len (h : Rb N W0 W p q x y A B C D) : Calls Try.prog 25 #[.pointer (some ⟨p, 0, none⟩)] W (Still (.int .i64 ((A.1.toList ++ A.2).length : Nat)) W) := by
  refine (Ri.len_any W h.a).mono fun _ _ ⟨he, hw⟩ => ⟨?_, hw⟩
  rw [he]
  obtain ⟨nx, L⟩ := A
  cases nx <;> simp [len1] <;> omega
theorem b_all (h : Rb N W0 W p q x y A B C D) : Calls Try.prog 28 #[.pointer (some ⟨p, 0, none⟩)] W fun e W' => ∃ v, e = .returned v ∧ Below W.heap.size W W' ∧ Ints W' (fun k => N ≤ k) v (A.1.toList ++ A.2) := by
  have e : allOf A.1 A.2 = A.1.toList ++ A.2 := by obtain ⟨nx, L⟩ := A; cases nx <;> rfl
  refine (Ri.all_any W h.a).mono fun _ W' ⟨v, he, hb, ho⟩ => ⟨v, he, hb, ?_⟩
  rw [e] at ho
  exact (ints_of_owns ho).wider (fun k hk _ => Nat.le_trans h.nn (ho.lt k hk).1)
theorem b_rall (h : Rb N W0 W p q x y A B C D) (hs : C.2.length ≤ 256) : Calls Try.prog 26 #[.pointer (some ⟨x, 0, none⟩)] W fun e W' => ∃ s c, e = .returned (.slice s (C.1.toList ++ C.2).length c) ∧ Below W.heap.size W W' ∧ Ints W' (fun k => N ≤ k) (.slice s (C.1.toList ++ C.2).length c) (C.1.toList ++ C.2) := by
  obtain ⟨nv, lv, hc⟩ := h.c
  exact (rall_any hc (by omega)).mono fun _ W' ⟨v, he, hr, hl, hb⟩ => by
    obtain ⟨s, c, e⟩ := hr.slice
    subst e
    exact ⟨s, c, he, hb, hr.ints.wider (fun k hk _ => Nat.le_trans h.nn (hl k hk))⟩
theorem b_rall2 {n : Nat} (hn : (C.1.toList ++ C.2).length = n) (h : Rb N W0 W p q x y A B C D) (hs : C.2.length ≤ 256) : Calls Try.prog 26 #[.pointer (some ⟨x, 0, none⟩)] W fun e W' => ∃ s c, e = .returned (.slice s n c) ∧ Below W.heap.size W W' ∧ Ints W' (fun k => N ≤ k) (.slice s n c) (C.1.toList ++ C.2) := by
  subst hn; exact b_rall h hs
theorem b_steal (h : Rb N W0 W p q x y A B C D) : Calls Try.prog 21 #[.pointer (some ⟨p, 0, none⟩), .pointer (some ⟨q, 0, none⟩)] W fun e W' => e = .returned (.int .i64 (sK A B : Nat)) ∧ Rb N W0 W' p q x y (sA A B) (sB A B) C D ∧ Kn N W W' := by
  have hk : ∀ {w'}, Wrote (both p q) W (both p q) w' → Kn N W w' := fun ht => kn_of ht (fun k hk => hk.elim (fun e => by rw [show k = p from e]; exact h.lp.2) (fun e => by rw [show k = q from e]; exact h.lq.2))
  obtain ⟨nx, L⟩ := A
  obtain ⟨ny, M⟩ := B
  unfold sK sA sB sK
  dsimp only
  by_cases hM : M.length = 0
  · obtain rfl : M = [] := List.eq_nil_of_length_eq_zero hM
    simp only [List.length_nil, if_pos]
    by_cases hno : ny = none ∨ L.length = 256
    · simp only [if_pos hno]
      exact (steal_row 0 h.pq (by simp) (fun _ => hno) W h.a h.b).mono fun _ W' ⟨he, ht, hr, hs⟩ => ⟨he, h.two (A' := (nx, L)) (B' := (ny, [])) ht (by simpa using hr) (by simpa using hs), hk ht⟩
    · simp only [if_neg hno]
      cases ny with
      | none => exact absurd (Or.inl rfl) hno
      | some y =>
        have hl : L.length < 256 := by have hs : L.length ≤ 256 := h.a.small; have : L.length ≠ 256 := fun e => hno (Or.inr e); omega
        exact (steal_next h.pq hl W h.a h.b).mono fun _ W' ⟨he, ht, hr, hs⟩ => ⟨he, h.two (A' := (nx, L ++ [y])) (B' := (none, [])) ht hr hs, hk ht⟩
  · simp only [if_neg hM]
    exact (steal_row _ h.pq rfl (fun e => absurd e hM) W h.a h.b).mono fun _ W' ⟨he, ht, hr, hs⟩ => ⟨he, h.two (A' := (nx, _)) (B' := (ny, _)) ht hr hs, hk ht⟩
theorem b_rsteal (h : Rb N W0 W p q x y A B C D) (hc : C.2.length ≤ 256) (hd : D.2.length ≤ 256) : Calls Try.prog 22 #[.pointer (some ⟨x, 0, none⟩), .pointer (some ⟨y, 0, none⟩)] W fun e W' => e = .returned (.int .i64 (sK C D : Nat)) ∧ Rb N W0 W' p q x y A B (sA C D) (sB C D) ∧ Kn N W W' := by
  have hk : ∀ {w'}, Wrote (both x y) W (both x y) w' → Kn N W w' := fun ht => kn_of ht (fun k hk => hk.elim (fun e => by rw [show k = x from e]; exact h.lx.2) (fun e => by rw [show k = y from e]; exact h.ly.2))
  have hx : ¬ N ≤ x := by have := h.lx.2; omega
  have hy : ¬ N ≤ y := by have := h.ly.2; omega
  have hS : ∀ k, W.heap.size ≤ k → N ≤ k := fun k hk => Nat.le_trans h.nn hk
  obtain ⟨nx, L⟩ := C
  obtain ⟨ny, M⟩ := D
  obtain ⟨nv, lv, h1⟩ := h.c
  obtain ⟨mv, kv, h2⟩ := h.d
  unfold sK sA sB sK
  dsimp only at *
  by_cases hM : M.length = 0
  · obtain rfl : M = [] := List.eq_nil_of_length_eq_zero hM
    simp only [List.length_nil, if_pos]
    by_cases hno : ny = none ∨ L.length = 256
    · simp only [if_pos hno]
      exact (rsteal_no h.xy h1 h2 hno).mono fun _ W' ⟨he, hw⟩ => ⟨he, by rw [← hw]; exact h, by rw [← hw]; exact kn_below (Below.refl _ _)⟩
    · simp only [if_neg hno]
      cases ny with
      | none => exact absurd (Or.inl rfl) hno
      | some y =>
        have hl : L.length < 256 := by have : L.length ≠ 256 := fun e => hno (Or.inr e); omega
        exact (rsteal_next h.xy hl h1 h2 hx hy hS).mono fun _ W' ⟨_, _, _, _, he, ht, hr, hs⟩ => ⟨he, h.twoR (C' := (nx, L ++ [y])) (D' := (none, [])) ht hr hs, hk ht⟩
  · simp only [if_neg hM]
    exact (rsteal_row h.xy hc (by omega) hd rfl h1 h2 hx hy hS).mono fun _ W' ⟨_, _, _, _, he, ht, hr, hs⟩ => ⟨he, h.twoR (C' := (nx, _)) (D' := (ny, _)) ht hr hs, hk ht⟩
theorem new4 {w w1 w2 : World} (hb1 : Below w.heap.size w w1) (ha : IsRing w1 w.heap.size none []) (hb2 : Below w1.heap.size w1 w2) (hb : IsRing w2 w1.heap.size none []) :
    Rb (w2.heap.size + 2) w ((w2.alloc (.cells #[.slice none 0 0, .slice none 0 0] 28)).alloc (.cells #[.slice none 0 0, .slice none 0 0] 28)) w.heap.size w1.heap.size w2.heap.size (w2.heap.size + 1) (none, []) (none, []) (none, []) (none, []) := by
  have l1 := ha.lt
  have l2 := hb.lt
  have hs1 : (w2.alloc (.cells #[.slice none 0 0, .slice none 0 0] 28)).heap.size = w2.heap.size + 1 := size_new _ _
  have hs2 := size_new (w2.alloc (.cells #[.slice none 0 0, .slice none 0 0] 28)) (.cells #[.slice none 0 0, .slice none 0 0] 28)
  have hA := below_alloc (Below.refl _ w2) (.cells #[.slice none 0 0, .slice none 0 0] 28)
  have hB := hA.trans ((below_alloc (Below.refl _ (w2.alloc (.cells #[.slice none 0 0, .slice none 0 0] 28))) (.cells #[.slice none 0 0, .slice none 0 0] 28)).mono hA.size)
  have hx : ((w2.alloc (.cells #[.slice none 0 0, .slice none 0 0] 28)).alloc (.cells #[.slice none 0 0, .slice none 0 0] 28)).heap[w2.heap.size]? = some (.cells #[.slice none 0 0, .slice none 0 0] 28 (0, 0)) := by
    rw [(below_alloc (Below.refl _ (w2.alloc (.cells #[.slice none 0 0, .slice none 0 0] 28))) (.cells #[.slice none 0 0, .slice none 0 0] 28)).block _ (by omega)]
    exact heap_alloc_new _ _
  have hy : ((w2.alloc (.cells #[.slice none 0 0, .slice none 0 0] 28)).alloc (.cells #[.slice none 0 0, .slice none 0 0] 28)).heap[w2.heap.size + 1]? = some (.cells #[.slice none 0 0, .slice none 0 0] 28 (0, 0)) := by
    rw [← hs1]; exact heap_alloc_new _ _
  have ha2 := ha.wrote (H := fun _ => False) (Wrote.of_below hb2) (fun h => h)
  have wb := Wrote.of_below (H := fun _ => False) hB
  exact ⟨ha2.wrote wb (fun h => h), hb.wrote wb (fun h => h), ⟨_, _, hx, ints_nil _ _, ints_nil _ _, fun s n c e => by cases e; exact Nat.le_refl _⟩, ⟨_, _, hy, ints_nil _ _, ints_nil _ _, fun s n c e => by cases e; exact Nat.le_refl _⟩, by omega, by have := hb2.size; omega, by have := hb2.size; omega, by omega, by omega, by omega, by have := hb2.size; omega, by have := hb1.size; omega, by have := hb1.size; have := hb2.size; omega, by have := hb1.size; have := hb2.size; omega, by omega, (hb1.trans (hb2.mono hb1.size)).trans (hB.mono (Nat.le_trans hb1.size hb2.size))⟩
end Rr
end Go.Proofs.Ytclldajbibhcbaa
