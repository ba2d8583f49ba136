/- The common queue of the program, and the document's own one beside it; blocks T that are of neither stay as they were. -/
import Derived.Test.YtclldajbibhcbaaQd
import Derived.Test.YtclldajbibhcbaaOut
import Derived.Test.YtclldajbibhcbaaQueueTold
import Derived.Test.YtclldajbibhcbaaGRow
import Derived.Test.YtclldajbibhcbaaPutNew
namespace Go.Proofs.Ytclldajbibhcbaa
open Go.RowKit Go.Lib Fx Ho Rw Qu
set_option linter.unusedVariables false
namespace Qd
structure Qx (W0 W : World) (p y : Nat) (v u : Value) (zs zx : List Int) : Prop where
  q : IsQ W p v zs
  x : IsX W y u zx
  lo : Low W0.heap.size (home p v)
  lx : Low W0.heap.size (home y u)
  o : Off (home p v) (home y u)
  b : Below W0.heap.size W0 W
variable {W0 W W' : World} {p y : Nat} {v u v' u' : Value} {zs zx zs' : List Int} {H H' T T' : Home}
namespace Qx
theorem below (h : Qx W0 W p y v u zs zx) (hb : Below W.heap.size W W') : Qx W0 W' p y v u zs zx := ⟨h.q.below hb, h.x.below hb, h.lo, h.lx, h.o, h.b.trans (hb.mono h.b.size)⟩
theorem left (h : Qx W0 W p y v u zs zx) (hw : Wrote (home p v) W (home p v') W') (hq : IsQ W' p v' zs') : Qx W0 W' p y v' u zs' zx :=
  ⟨hq, h.x.wrote hw (fun k h1 h2 => h.o k h2 h1), hw.low h.lo h.b.size, h.lx, fun k h1 h2 => (hw.off (S := home y u) (fun k h1 h2 => h.o k h2 h1) (fun k hk => h.x.home_lt hk)) k h2 h1, hw.below h.lo h.b⟩
theorem right (h : Qx W0 W p y v u zs zx) (hw : Wrote (home y u) W (home y u') W') (hx : IsX W' y u' zs') : Qx W0 W' p y v u' zs zs' :=
  ⟨h.q.wrote hw h.o, hx, h.lo, hw.low h.lx h.b.size, hw.off h.o (fun k hk => h.q.home_lt hk), hw.below h.lx h.b⟩
theorem scr (h : Qx W0 W p y v u zs zx) (hw : Wrote H W H' W') (h1 : Off (home p v) H) (h2 : Off (home y u) H) (hl : Low W0.heap.size H) : Qx W0 W' p y v u zs zx :=
  ⟨h.q.wrote hw h1, h.x.wrote hw h2, h.lo, h.lx, h.o, hw.below hl h.b⟩
end Qx
/-- Both; what lies in T is of neither. -/
def Qt (T : Home) (W0 W : World) (p y : Nat) (zs zx : List Int) : Prop := ∃ v u, Qx W0 W p y v u zs zx ∧ Off T (home p v) ∧ Off T (home y u) ∧ ∀ k, T k → k < W.heap.size
/-- What lies in T is as it was. -/
def Kp (T : Home) (W W' : World) : Prop := Wrote (fun k => ¬ T k) W (fun k => ¬ T k) W'
theorem kp_of (h : Wrote H W H' W') (ho : Off T H) : Kp T W W' := ⟨h.os, h.tape, h.output, h.size, fun k hk hn => h.block k hk (fun hh => ho k (Classical.not_not.1 hn) hh), fun k hk => Or.inl hk⟩
theorem kp_below (h : Below W.heap.size W W') : Kp T W W' := kp_of (Wrote.of_below (H := fun _ => False) h) (fun _ _ h => h)
theorem Kp.trans {W2 : World} (h : Kp T W W') (k : Kp T W' W2) : Kp T W W2 := Wrote.trans h k
theorem kp_less (h : Kp T W W') (ht : ∀ k, T' k → T k) : Kp T' W W' := ⟨h.os, h.tape, h.output, h.size, fun k hk hn => Wrote.block h k hk (fun e => hn (fun h' => e (ht k h'))), fun k hk => Or.inl hk⟩
theorem Kp.block (h : Kp T W W') {k : Nat} {o : Obj} (hk : T k) (ho : W.heap[k]? = some o) : W'.heap[k]? = some o := (Wrote.block h k (block_lt ho) (fun hh => hh hk)).trans ho
theorem Kp.off (h : Kp T W W') {z : Value} {ys : List Int} (hr : OffRow W z ys) (hv : ∀ k, z.ownBlock = some k → T k) : OffRow W' z ys := hr.wrote h (fun k hk hn => hn (hv k hk))
theorem Kp.ints (h : Kp T W W') {S : Home} {z : Value} {ys : List Int} (hi : Ints W S z ys) (hs : ∀ k, S k → T k) : Ints W' S z ys := hi.wrote h (fun k hk hn => hn (hs k hk))
namespace Qt
theorem out (h : Qt T W0 W p y zs zx) : Below W0.heap.size W0 W := by obtain ⟨_, _, h, _⟩ := h; exact h.b
theorem below (h : Qt T W0 W p y zs zx) (hb : Below W.heap.size W W') : Qt T W0 W' p y zs zx := by
  obtain ⟨v, u, h, h1, h2, h3⟩ := h
  exact ⟨v, u, h.below hb, h1, h2, fun k hk => Nat.lt_of_lt_of_le (h3 k hk) hb.size⟩
/-- Less, or more of new blocks. -/
theorem more (h : Qt T W0 W p y zs zx) (hb : Below W.heap.size W W') (ht : ∀ k, T' k → T k ∨ W.heap.size ≤ k ∧ k < W'.heap.size) : Qt T' W0 W' p y zs zx := by
  obtain ⟨v, u, h, h1, h2, h3⟩ := h
  refine ⟨v, u, h.below hb, fun k hk hh => (ht k hk).elim (fun e => h1 k e hh) (fun e => by have := h.q.home_lt hh; omega), fun k hk hh => (ht k hk).elim (fun e => h2 k e hh) (fun e => by have := h.x.home_lt hh; omega), fun k hk => (ht k hk).elim (fun e => Nat.lt_of_lt_of_le (h3 k e) hb.size) (fun e => e.2)⟩
theorem less (h : Qt T W0 W p y zs zx) (ht : ∀ k, T' k → T k) : Qt T' W0 W p y zs zx := h.more (Below.refl _ _) (fun k hk => Or.inl (ht k hk))
/-- Something of T is written. -/
theorem scr (h : Qt T W0 W p y zs zx) (hw : Wrote H W H' W') (ht : ∀ k, H k → T k) (hl : Low W0.heap.size H) : Qt T W0 W' p y zs zx := by
  obtain ⟨v, u, h, h1, h2, h3⟩ := h
  exact ⟨v, u, h.scr hw (fun k hk hh => h1 k (ht k hh) hk) (fun k hk hh => h2 k (ht k hh) hk) hl, h1, h2, fun k hk => Nat.lt_of_lt_of_le (h3 k hk) hw.size⟩
end Qt
theorem qt_put (h : Qt T W0 W p y zs zx) {S : Home} {x : Value} {ys : List Int} (hx : Ints W S x ys) (hn : zs.length + ys.length ≤ 1000000) :
    Calls Try.prog 31 #[.pointer (some ⟨p, 0, none⟩), x] W fun e W' => e = .returned (.tuple #[]) ∧ Qt T W0 W' p y (zs ++ ys) zx ∧ Kp T W W' := by
  obtain ⟨v, u, h, h1, h2, h3⟩ := h
  exact (put_any W h.q hx hn).mono fun _ _ ⟨he, v', hw, hq⟩ => ⟨he, ⟨v', u, h.left hw hq, hw.off h1 h3, h2, fun k hk => Nat.lt_of_lt_of_le (h3 k hk) hw.size⟩, kp_of hw h1⟩
theorem qt_len (h : Qt T W0 W p y zs zx) : Calls Try.prog 36 #[.pointer (some ⟨p, 0, none⟩)] W (Still (.int .i64 zs.length) W) := by
  obtain ⟨v, u, h, _⟩ := h
  exact len_any W h.q
theorem qt_all (h : Qt T W0 W p y zs zx) (hs : zs.length ≤ 1000000) : Calls Try.prog 37 #[.pointer (some ⟨p, 0, none⟩)] W fun e W' => ∃ r, e = .returned r ∧ Below W.heap.size W W' ∧ Ints W' (fun k => W.heap.size ≤ k) r zs := by
  obtain ⟨v, u, h, _⟩ := h
  exact (all_any W h.q hs).mono fun _ _ ⟨r, he, hb, ho⟩ => ⟨r, he, hb, (ints_of_owns ho).wider (fun k hk _ => (ho.lt k hk).1)⟩
/-- How many Get tells. -/
def howMany (ps am : Int) (l : Nat) : Nat := min (min (min (l / (if 1 > ps then 1 else ps).toNat + 1) (if 0 > am then 0 else am).toNat) 128) l
theorem qt_get (h : Qt T W0 W p y zs zx) {ps am : Int} (hp : ps ≤ 9223372036854775807) (ha : am ≤ 9223372036854775807) (hs : zs.length ≤ 1000000) :
    Calls Try.prog 32 #[.pointer (some ⟨p, 0, none⟩), .int .i64 ps, .int .i64 am] W fun e W' => ∃ r, e = .returned r ∧ Qt (fun k => T k ∨ r.ownBlock = some k) W0 W' p y (zs.drop (howMany ps am zs.length)) zx ∧ Kp T W W' ∧ Ints W' (fun k => r.ownBlock = some k) r (zs.take (howMany ps am zs.length)) := by
  have e1 : 1 ≤ (if 1 > ps then 1 else ps) ∧ (if 1 > ps then 1 else ps) ≤ 9223372036854775807 := by split <;> omega
  have e2 : 0 ≤ (if 0 > am then 0 else am) ∧ (if 0 > am then 0 else am) ≤ 9223372036854775807 := by split <;> omega
  obtain ⟨v, u, h, h1, h2, h3⟩ := h
  unfold howMany
  have e3 : (if 1 > ps then 1 else ps) = ((if 1 > ps then 1 else ps).toNat : Int) := (Int.toNat_of_nonneg (by omega)).symm
  have e4 : (if 0 > am then 0 else am) = ((if 0 > am then 0 else am).toNat : Int) := (Int.toNat_of_nonneg e2.1).symm
  refine (get_gen W h.q (ps := ps) (am := am) (q := (if 1 > ps then 1 else ps).toNat) (m := (if 0 > am then 0 else am).toNat) e3 e4 (by rw [e3] at e1; omega) (by rw [e3] at e1; omega) (by rw [e4] at e2; omega) hs rfl).mono fun _ W' ⟨r, v', he, hw, hq, ho, hw2, hv⟩ => ?_
  refine ⟨r, he, ⟨v', u, h.left hw hq, fun k hk hh => hk.elim (fun hk => hw.off h1 h3 k hk hh) (fun hk => ?_), fun k hk hh => hk.elim (fun hk => h2 k hk hh) (fun hk => ?_), fun k hk => hk.elim (fun hk => Nat.lt_of_lt_of_le (h3 k hk) hw.size) (fun hk => (ho.lt k hk).2)⟩, kp_of hw h1, ints_of_owns ho⟩
  · have := (ho.lt k hk).1
    rcases hh with rfl | hh
    · have := block_lt h.q.head; omega
    · have := h.q.row.lt (hv k hh); omega
  · have := (ho.lt k hk).1
    have := h.x.home_lt hh; omega
theorem qx_get (h : Qt T W0 W p y zs zx) {ps am : Int} (hp : ps ≤ 9223372036854775807) (ha : am ≤ 9223372036854775807) (hs : zx.length ≤ 1000000) :
    Calls Try.prog 33 #[.pointer (some ⟨y, 0, none⟩), .int .i64 ps, .int .i64 am] W fun e W' => ∃ r, e = .returned r ∧ Qt T W0 W' p y zs (zx.drop (howMany ps am zx.length)) ∧ Kp T W W' ∧ Ints W' (fun _ => True) r (zx.take (howMany ps am zx.length)) := by
  have e1 : 1 ≤ (if 1 > ps then 1 else ps) ∧ (if 1 > ps then 1 else ps) ≤ 9223372036854775807 := by split <;> omega
  have e2 : 0 ≤ (if 0 > am then 0 else am) ∧ (if 0 > am then 0 else am) ≤ 9223372036854775807 := by split <;> omega
  obtain ⟨v, u, h, h1, h2, h3⟩ := h
  unfold howMany
  have e3 : (if 1 > ps then 1 else ps) = ((if 1 > ps then 1 else ps).toNat : Int) := (Int.toNat_of_nonneg (by omega)).symm
  have e4 : (if 0 > am then 0 else am) = ((if 0 > am then 0 else am).toNat : Int) := (Int.toNat_of_nonneg e2.1).symm
  refine (Qd.get_any W h.x (ps := ps) (am := am) (q := (if 1 > ps then 1 else ps).toNat) (m := (if 0 > am then 0 else am).toNat) e3 e4 (by rw [e3] at e1; omega) (by rw [e3] at e1; omega) (by rw [e4] at e2; omega) hs rfl).mono fun _ W' ⟨r, u', he, hw, hx, hi⟩ => ?_
  exact ⟨r, he, ⟨v, u', h.right hw hx, h1, hw.off h2 h3, fun k hk => Nat.lt_of_lt_of_le (h3 k hk) hw.size⟩, kp_of hw h2, hi.wider (fun _ _ _ => trivial)⟩
theorem erase_at {x : Int} {A B : List Int} (h : x ∉ A) : (A ++ x :: B).erase x = A ++ B := by
  rw [List.erase_append_right _ h, List.erase_cons_head]
theorem qt_del (h : Qt T W0 W p y zs zx) (x : Int) (hs : zs.length ≤ 1000000) : Calls Try.prog 35 #[.pointer (some ⟨p, 0, none⟩), .int .i64 x] W fun e W' => e = .returned (.bool (decide (x ∈ zs))) ∧ Qt T W0 W' p y (zs.erase x) zx ∧ Kp T W W' := by
  obtain ⟨v, u, h, h1, h2, h3⟩ := h
  by_cases hx : x ∈ zs
  · obtain ⟨A, B, rfl, hno⟩ := first_of hx
    rw [decide_eq_true hx, erase_at hno]
    exact (del_some h.q hno hs).mono fun _ _ ⟨he, v', hw, hq⟩ => ⟨he, ⟨v', u, h.left hw hq, hw.off h1 h3, h2, fun k hk => Nat.lt_of_lt_of_le (h3 k hk) hw.size⟩, kp_of hw h1⟩
  · rw [decide_eq_false hx, List.erase_of_not_mem hx]
    exact (del_none h.q hx).mono fun _ _ ⟨he, hw⟩ => ⟨he, by rw [← hw]; exact ⟨v, u, h, h1, h2, h3⟩, by rw [← hw]; exact kp_below (Below.refl _ _)⟩
/-- Another row is laid into the document's box. -/
theorem qx_lay (h : Qx W0 W p y v u zs zx) (h1 : Off T (home p v)) (h2 : Off T (home y u)) (h3 : ∀ k, T k → k < W.heap.size) {W1 : World} {u1 : Value} {z2 : List Int} (hr : OffRow W1 u1 z2) (hw : Wrote (fun k => u.ownBlock = some k) W (fun k => u1.ownBlock = some k) W1) :
    Qt T W0 (W1.setCell ⟨y, 0, none⟩ u1) p y zs z2 ∧ Kp T W (W1.setCell ⟨y, 0, none⟩ u1) := by
  obtain ⟨k1, k2⟩ := h.x.stored hr hw rfl
  exact ⟨⟨v, u1, h.right k1 k2, h1, k1.off h2 h3, fun k hk => Nat.lt_of_lt_of_le (h3 k hk) k1.size⟩, kp_of k1 h2⟩
theorem off_set {w : World} {b o n c j : Nat} {zs : List Int} (h : Qu.OffRow w (.slice (some ⟨b, o, none⟩) n c) zs) (hn : zs.length = n) (hj : j < n) (x : Int) : Qu.OffRow (w.setCell ⟨b, o + j, none⟩ (.int .i64 x)) (.slice (some ⟨b, o, none⟩) n c) (zs.set j x) := by
  obtain ⟨ao, b', off', cap', e, hc, hm, hxx⟩ := h
  rw [hn] at e
  cases e
  have hg : Gr.GRow 1 w (.slice (some ⟨b, o, none⟩) n c) n (Ho.cells zs) := ⟨_, b', off', _, rfl, by rw [hn] at hc; exact hc, ⟨hm.1, fun j hj => hm.2 j (by omega)⟩, hxx⟩
  have hs := hg.set (j := j) (u := .int .i64 x) (by omega)
  rw [Ho.cells_set] at hs
  obtain ⟨ao, b2, off2, cap2, e2, hc2, hm2, hxx2⟩ := hs
  have hl : (zs.set j x).length = n := by rw [List.length_set]; exact hn
  exact ⟨ao, b2, off2, cap2, by rw [hl]; exact e2, by rw [hl]; exact hc2, ⟨hm2.1, fun j hj => hm2.2 j (by omega)⟩, hxx2⟩
theorem off_at {w : World} {n c j : Nat} {sp : Option Addr} {zs : List Int} (h : Qu.OffRow w (.slice sp n c) zs) (hn : zs.length = n) (hj : j < n) : ∃ b o y, sp = some ⟨b, o, none⟩ ∧ w.cell? ⟨b, o + j, none⟩ = some (.int .i64 y) ∧ w.frozen? ⟨b, o + j, none⟩ = false := by
  obtain ⟨ao, b, off, cap, e, hc, hm, hxx⟩ := h
  have hle := hc.le
  have ha := hc.addr (by omega)
  subst ha
  cases e
  refine ⟨b, off, zs.getD j 0, rfl, hc.olds j _ ?_, hm.2 j (by omega)⟩
  unfold Ho.cells
  rw [List.getElem?_map, List.getD_eq_getElem?_getD, List.getElem?_eq_getElem (by omega)]; rfl
/-- What Out makes of the document's row, and what the box is once that is laid into it. -/
def OutK (T : Home) (W0 W : World) (p y : Nat) (u : Value) (zs zx : List Int) (x : Int) (e : Ending) (W1 : World) : Prop :=
  ∃ s1 c1, e = .returned (.tuple #[.slice s1 (zx.erase x).length c1, .bool (decide (x ∈ zx))]) ∧ W1.cell? ⟨y, 0, none⟩ = some u ∧ W1.frozen? ⟨y, 0, none⟩ = false ∧ Kp T W W1 ∧ Hid (Qt T W0 (W1.setCell ⟨y, 0, none⟩ (.slice s1 (zx.erase x).length c1)) p y zs (zx.erase x) ∧ Kp T W (W1.setCell ⟨y, 0, none⟩ (.slice s1 (zx.erase x).length c1)))
theorem qx_out (h : Qx W0 W p y v u zs zx) (h1 : Off T (home p v)) (h2 : Off T (home y u)) (h3 : ∀ k, T k → k < W.heap.size) (x : Int) (hs : zx.length ≤ 500000) : Calls Try.prog 34 #[u, .int .i64 x] W (OutK T W0 W p y u zs zx x) := by
  by_cases hx : x ∈ zx
  · obtain ⟨A, B, rfl, hno⟩ := first_of hx
    obtain ⟨ao, b, off, cap, e, hle, hm, hab, _⟩ := h.x.row.cell
    subst e
    refine (out_some h.x.row.ints hno rfl hle hs).mono fun e W1 ⟨v1, he, hr, hl, hb⟩ => ?_
    obtain ⟨s1, c1, ev⟩ := hr.slice
    subst ev
    have hx1 := h.x.below hb
    have e2 : (A ++ x :: B).erase x = A ++ B := erase_at hno
    refine ⟨s1, c1, by rw [he, e2, decide_eq_true hx], hx1.c0, hx1.fz, kp_below hb, Lib.hid ?_⟩
    rw [e2]
    exact qx_lay h h1 h2 h3 hr (Wrote.of_made hb hl)
  · obtain ⟨s, c, e⟩ := h.x.row.slice
    refine (out_not h.x.row.ints hx).mono fun e1 W1 ⟨he, hw⟩ => ?_
    subst hw
    have e2 : zx.erase x = zx := List.erase_of_not_mem hx
    refine ⟨s, c, by rw [he, e2, decide_eq_false hx, e], h.x.c0, h.x.fz, kp_below (Below.refl _ _), Lib.hid ?_⟩
    rw [e2, ← e]
    exact qx_lay h h1 h2 h3 h.x.row (Wrote.refl _ _)
end Qd
end Go.Proofs.Ytclldajbibhcbaa
