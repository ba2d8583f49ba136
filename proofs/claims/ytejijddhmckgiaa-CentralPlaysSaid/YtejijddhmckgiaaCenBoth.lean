/- A Central of the program, and the document's own beside it. -/
import Derived.Test.YtejijddhmckgiaaRCen5
namespace Go.Proofs.Ytejijddhmckgiaa
open Go.RowKit Go.Lib Fx Ho Rw Qu
set_option linter.unusedVariables false
namespace Zc
open Ce (upd upd_same upd_ne delQ putQ begQ begT uns msum urow srow takeA takeQ takeFA takeFQ anyA anyQ inQ inQ_yes inQ_at Apart Cc CStep gr)
open Dc (IsD DS nS)
variable {W0 W W' : World} {p x z n n' k i : Nat} {Q Q' Qd Qd' : Ce.Rows} {K S : Home} {v : Value} {e : Ending} {o : Obj} {C id : Int} {b : Bool}
theorem cc_mono (h : Cc K W0 W p n Q) (hn : n ≤ n') : Cc K W0 W p n' Q := by
  obtain ⟨R, z, sp, h1, h2⟩ := h
  exact ⟨R, z, sp, ⟨h1.head, h1.rows, h1.map.mono hn, h1.pR, h1.pz, h1.Rz, h1.sp_p, h1.sp_z, h1.wf, h1.out, fun r => Nat.le_trans (h1.small r) hn⟩, h2⟩
theorem cc_narrow (h : Cc K W0 W p n Q) : Cc (fun k => K k ∧ k < W.heap.size) W0 W p n Q := by
  obtain ⟨R, z, sp, h1, h2, h3, h4⟩ := h
  exact ⟨R, z, sp, h1, fun k hk => ⟨h2 k hk, h1.lt hk⟩, fun k hk => h3 k hk.1, h4⟩
structure Core (K S : Home) (W0 W : World) (p x n : Nat) (Q Qd : Ce.Rows) : Prop where
  c : Cc K W0 W p n Q
  d : IsD S W x Qd
  kb : ∀ k, K k → k < W.heap.size
  sb : ∀ k, S k → k < W.heap.size
  off : ∀ k, K k → S k → False
  kx : ¬ K x
  lx : W0.heap.size ≤ x
namespace Core
theorem below (h : Core K S W0 W p x n Q Qd) (hb : Below W.heap.size W W') : Core K S W0 W' p x n Q Qd :=
  ⟨h.c.below hb, h.d.below hb, fun k hk => Nat.lt_of_lt_of_le (h.kb k hk) hb.size, fun k hk => Nat.lt_of_lt_of_le (h.sb k hk) hb.size, h.off, h.kx, h.lx⟩
theorem left (h : Core K S W0 W p x n Q Qd) (hs : CStep K v W0 W p n' Q' e W') : Core (fun k => gr K W k ∧ k < W'.heap.size) S W0 W' p x n' Q' Qd := by
  obtain ⟨he, hw, hc⟩ := hs
  have hx := h.d.lt
  exact ⟨cc_narrow hc, h.d.wrote hw h.kx (fun k h1 h2 => h.off k h2 h1), fun k hk => hk.2, fun k hk => Nat.lt_of_lt_of_le (h.sb k hk) hw.size, fun k h1 h2 => h1.1.elim (fun h3 => h.off k h3 h2) (fun h3 => by have := h.sb k h2; omega), fun hk => hk.1.elim h.kx (fun h3 => by omega), h.lx⟩
theorem right (h : Core K S W0 W p x n Q Qd) (hs : DS S v W x Qd' e W') : Core K (fun k => nS S W k ∧ k < W'.heap.size) W0 W' p x n Q Qd' := by
  obtain ⟨he, hw, hd⟩ := hs
  refine ⟨h.c.wrote hw (fun k hk e => h.kx (e ▸ hk)) (fun k hk => by rw [show k = x from hk]; exact h.lx), hd.wider (fun k h1 h2 => ⟨h1, h2⟩) (fun hk => hd.sx hk.1), fun k hk => Nat.lt_of_lt_of_le (h.kb k hk) hw.size, fun k hk => hk.2, fun k h1 h2 => h2.1.elim (h.off k h1) (fun h3 => by have := h.kb k h1; omega), h.kx, h.lx⟩
end Core
/-- Behind i operations both hold the same. -/
def Zz (W0 W : World) (p x i : Nat) : Prop := ∃ n Q K S, Core K S W0 W p x n Q Q ∧ n ≤ 61 * i ∧ uns Q 32 + msum Q 32 ≤ i
theorem Zz.bel (h : Zz W0 W p x i) : Below W0.heap.size W0 W := by obtain ⟨n, Q, K, S, h, _⟩ := h; exact h.c.bel
theorem Zz.below (h : Zz W0 W p x i) (hb : Below W.heap.size W W') : Zz W0 W' p x i := by obtain ⟨n, Q, K, S, h, h1⟩ := h; exact ⟨n, Q, K, S, h.below hb, h1⟩
/-- .. and a block z of the law's own beside them. -/
def Bz (W0 W : World) (p x z : Nat) (o : Obj) (i : Nat) : Prop := ∃ n Q K S, Core K S W0 W p x n Q Q ∧ n ≤ 61 * i ∧ uns Q 32 + msum Q 32 ≤ i ∧ W.heap[z]? = some o ∧ ¬ K z ∧ z ≠ x
theorem bz_of2 {A : Array Value} {t : TypeId} {q : Nat × Nat} (h : Zz W0 W p x i) (hz : W.heap.size = z) (ho : (W.alloc (.cells A t)).heap[z]? = some (.cells A t q)) : Bz W0 (W.alloc (.cells A t)) p x z (.cells A t q) i := by
  obtain ⟨n, Q, K, S, h, h1, h2⟩ := h
  exact ⟨n, Q, K, S, h.below (below_alloc (Below.refl _ _) _), h1, h2, ho, fun hk => by have := h.kb z hk; omega, fun e => by have := h.d.lt; omega⟩
/-- Two calls that answer the same. -/
def Two (g : Nat) (args : Array Value) (v : Value) (W0 : World) (p x z : Nat) (o : Obj) (i : Nat) (e : Ending) (W1 : World) : Prop :=
  e = .returned v ∧ W1.heap[z]? = some o ∧ Hid (∀ V, Below W1.heap.size W1 V → Calls Try.prog g args V fun e2 W2 => e2 = .returned v ∧ W2.heap[z]? = some o ∧ Hid (Zz W0 W2 p x (i + 1)))
theorem two_of {f g : Nat} {A B : Array Value} {n : Nat} {Q Q' : Ce.Rows} (h : Core K S W0 W p x n Q Q) (hz : W.heap[z]? = some o) (hk : ¬ K z) (hx : z ≠ x) (hf : Calls Try.prog f A W (CStep K v W0 W p n' Q')) (hg : ∀ V, IsD S V x Q → Calls Try.prog g B V (DS S v V x Q')) (hn : n' ≤ 61 * (i + 1)) (ht : uns Q' 32 + msum Q' 32 ≤ i + 1) : Calls Try.prog f A W (Two g B v W0 p x z o i) :=
  hf.mono fun e W1 hs => by
    have hzl := block_lt hz
    have h1 := h.left hs
    have hz1 : W1.heap[z]? = some o := (hs.2.1.block z hzl hk).trans hz
    refine ⟨hs.1, hz1, Lib.hid fun V hV => (hg V (h1.below hV).d).mono fun e2 W2 hd => ?_⟩
    have h2 := (h1.below hV).right hd
    refine ⟨hd.1, ?_, Lib.hid ⟨_, _, _, _, h2, hn, ht⟩⟩
    have hzV : V.heap[z]? = some o := (hV.block z (block_lt hz1)).trans hz1
    exact (hd.2.1.block z (block_lt hzV) hx).trans hzV
theorem tot_del_le (h : Apart Q) (y : Int) : uns (delQ Q y) 32 + msum (delQ Q y) 32 ≤ uns Q 32 + msum Q 32 := by
  cases hi : inQ Q y with
  | true => have := Ce.tot_del h hi; omega
  | false => rw [Ce.del_not h hi]; exact Nat.le_refl _
theorem tot_put (h : Apart Q) {r : Nat} (hr : r % 4 < 2) (hr2 : r < 64) (y : Int) : uns (putQ Q r y) 32 + msum (putQ Q r y) 32 ≤ uns Q 32 + msum Q 32 + 1 := by
  rw [Ce.uns_put hr, Ce.msum_put hr hr2]
  have := tot_del_le h y
  omega
variable {cI : Int}
theorem hsm (h : Core K S W0 W p x n Q Qd) (hn : n ≤ 61 * i) (hi : i ≤ 60) : ∀ r, (Q r).length ≤ 100000 := fun r => by
  have := h.c.small r
  omega
theorem z_put (h : Bz W0 W p x z o i) (hi : i ≤ 60) (C : Int) (hid : (Lit.int .i64 id).wf = true) (b : Bool) : Calls Try.prog 20 #[.pointer (some ⟨p, 0, none⟩), .int .i64 C, .int .i64 id, .bool b] W (Two 28 #[.pointer (some ⟨x, 0, none⟩), .int .i64 C, .int .i64 id, .bool b] (.tuple #[]) W0 p x z o i) := by
  obtain ⟨n, Q, K, S, h, hn, ht, hz, hk, hx⟩ := h
  by_cases hC : 0 ≤ C ∧ C < 16
  · obtain ⟨k, rfl⟩ : ∃ k : Nat, C = (k : Int) := ⟨C.toNat, by omega⟩
    refine two_of h hz hk hx (Ce.c_put h.c (by omega) (k := k) (by omega) hid b) (fun V hV => Dc.put_any hV h.c.apart (by omega) (hsm h hn hi) id b) (by omega) ?_
    have := tot_put (Q := Q) h.c.apart (r := k * 4 + cond b 1 0) (by cases b <;> simp <;> omega) (by cases b <;> simp <;> omega) id
    omega
  · exact two_of h hz hk hx (Ce.c_put_no h.c (by omega) b) (fun V hV => Dc.put_no hV (by omega) id b) (by omega) (by omega)
theorem z_take (h : Bz W0 W p x z o i) (hi : i ≤ 60) (C : Int) : ∃ y b1 b2, Calls Try.prog 24 #[.pointer (some ⟨p, 0, none⟩), .int .i64 C] W (Two 29 #[.pointer (some ⟨x, 0, none⟩), .int .i64 C] (.tuple #[.int .i64 y, .bool b1, .bool b2]) W0 p x z o i) := by
  obtain ⟨n, Q, K, S, h, hn, ht, hz, hk, hx⟩ := h
  by_cases hC : 0 ≤ C ∧ C < 16
  · obtain ⟨k, rfl⟩ : ∃ k : Nat, C = (k : Int) := ⟨C.toNat, by omega⟩
    refine ⟨_, _, _, two_of h hz hk hx (Ce.c_take h.c (by omega) (k := k) (by omega)) (fun V hV => Dc.take_any hV (by omega) (hsm h hn hi)) (by omega) ?_⟩
    rcases Ce.take_cases h.c.apart k with ⟨y, b, _, _, hq⟩ | ⟨_, hq⟩
    · rw [hq]; have := tot_del_le h.c.apart y; omega
    · rw [hq]; omega
  · exact ⟨_, _, _, two_of h hz hk hx (Ce.c_take_no h.c (by omega)) (fun V hV => Dc.take_no hV (by omega)) (by omega) (by omega)⟩
theorem takef_tot (h : Apart Q) (k : Nat) : uns (takeFQ Q k) 32 + msum (takeFQ Q k) 32 ≤ uns Q 32 + msum Q 32 := by
  cases hl : (Q (k * 4 + 3)).getLast? with
  | some y =>
    have e := Ce.last_split hl
    have := Ce.del_of_upd (P := (Q (k * 4 + 3)).dropLast) (S := []) h e
    rw [List.append_nil] at this
    show uns (upd Q (k * 4 + 3) _) 32 + msum (upd Q (k * 4 + 3) _) 32 ≤ _
    rw [this]; exact tot_del_le h y
  | none =>
    have e : Q (k * 4 + 3) = [] := by simpa using hl
    show uns (upd Q (k * 4 + 3) _) 32 + msum (upd Q (k * 4 + 3) _) 32 ≤ _
    rw [Dc.upd_id (by rw [e]; rfl)]; exact Nat.le_refl _
theorem z_takef (h : Bz W0 W p x z o i) (hi : i ≤ 60) (C : Int) : ∃ y b1, Calls Try.prog 27 #[.pointer (some ⟨p, 0, none⟩), .int .i64 C] W (Two 30 #[.pointer (some ⟨x, 0, none⟩), .int .i64 C] (.tuple #[.int .i64 y, .bool b1]) W0 p x z o i) := by
  obtain ⟨n, Q, K, S, h, hn, ht, hz, hk, hx⟩ := h
  by_cases hC : 0 ≤ C ∧ C < 16
  · obtain ⟨k, rfl⟩ : ∃ k : Nat, C = (k : Int) := ⟨C.toNat, by omega⟩
    refine ⟨_, _, two_of h hz hk hx (Ce.c_takef h.c (by omega) (k := k) (by omega)) (fun V hV => Dc.takef_any hV (by omega) (hsm h hn hi)) (by omega) ?_⟩
    have := takef_tot h.c.apart k; omega
  · exact ⟨_, _, two_of h hz hk hx (Ce.c_takef_no h.c (by omega)) (fun V hV => Dc.takef_no hV (by omega)) (by omega) (by omega)⟩
theorem z_begin (h : Bz W0 W p x z o i) (hi : i ≤ 60) : Calls Try.prog 21 #[.pointer (some ⟨p, 0, none⟩)] W (Two 31 #[.pointer (some ⟨x, 0, none⟩)] (.tuple #[]) W0 p x z o i) := by
  obtain ⟨n, Q, K, S, h, hn, ht, hz, hk, hx⟩ := h
  refine two_of h hz hk hx (Ce.c_begin h.c (by omega)) (fun V hV => Dc.begin_any hV (hsm h hn hi)) (by omega) ?_
  rw [Ce.uns_beg 32 (by omega), Ce.msum_beg 32 (by omega)]; omega
theorem z_any (h : Bz W0 W p x z o i) (hi : i ≤ 60) : ∃ c y b1, Calls Try.prog 26 #[.pointer (some ⟨p, 0, none⟩)] W (Two 32 #[.pointer (some ⟨x, 0, none⟩)] (.tuple #[.int .i64 c, .int .i64 y, .bool b1]) W0 p x z o i) := by
  obtain ⟨n, Q, K, S, h, hn, ht, hz, hk, hx⟩ := h
  refine ⟨_, _, _, two_of h hz hk hx (Ce.c_any h.c (by omega)) (fun V hV => Dc.any_any hV (hsm h hn hi)) (by omega) ?_⟩
  rcases Ce.any_cases h.c.apart with ⟨c, y, _, _, hq⟩ | ⟨_, hq, _⟩
  · rw [hq]; have := tot_del_le h.c.apart y; omega
  · rw [hq]; omega
theorem z_del (h : Bz W0 W p x z o i) (hi : i ≤ 60) (hid : (Lit.int .i64 id).wf = true) : ∃ b, ∀ V, Below W.heap.size W V → Calls Try.prog 22 #[.pointer (some ⟨p, 0, none⟩), .int .i64 id] V (Two 33 #[.pointer (some ⟨x, 0, none⟩), .int .i64 id] (.bool b) W0 p x z o i) := by
  obtain ⟨n, Q, K, S, h, hn, ht, hz, hk, hx⟩ := h
  refine ⟨inQ Q id, fun V hV => ?_⟩
  refine two_of (h.below hV) ((hV.block z (block_lt hz)).trans hz) hk hx (Ce.c_del (h.below hV).c (by omega) hid) (fun U hU => Dc.del_any hU h.c.apart (hsm h hn hi) id) (by omega) ?_
  have := tot_del_le h.c.apart id; omega
theorem z_uns (h : Zz W0 W p x i) (hi : i ≤ 61) : ∃ u : Nat, u ≤ 100 ∧ Calls Try.prog 23 #[.pointer (some ⟨p, 0, none⟩)] W (Still (.int .i64 u) W) ∧ Calls Try.prog 34 #[.pointer (some ⟨x, 0, none⟩)] W (Ans (.int .i64 u) W) := by
  obtain ⟨n, Q, K, S, h, hn, ht⟩ := h
  exact ⟨uns Q 32, by omega, Ce.c_uns h.c (by omega), Dc.unswept_any h.d (fun r => by have := h.c.small r; omega)⟩
def cen0 : Array Value := Array.replicate 64 (.slice none 0 0)
theorem built0 : Try.prog.built 60 [] = some cen0 := by kernel_rfl
/-- Both are made. -/
theorem new_both {w w1 : World} (h : Cc K w w1 p 0 (fun _ => [])) : Zz w (w1.alloc (.cells cen0 60)) p w1.heap.size 0 := by
  have hb := below_alloc (Below.refl w1.heap.size w1) (.cells cen0 60)
  have hn := cc_narrow h
  refine ⟨0, fun _ => [], _, fun _ => False, ⟨hn.below hb, ⟨⟨cen0, heap_alloc_new _ _, fun r hr => ⟨.slice none 0 0, ?_, ints_nil _ _, fun s n c e => by cases e; exact Nat.le_refl _⟩⟩, fun h => h⟩, fun k hk => Nat.lt_of_lt_of_le hk.2 hb.size, fun _ h => h.elim, fun _ _ h => h.elim, fun hk => by have := hk.2; omega, h.bel.size⟩, by omega, by rw [Ce.uns_nil, Ce.msum_nil]; exact Nat.le_refl _⟩
  unfold cen0
  rw [Array.getElem?_replicate, if_pos hr]
end Zc
end Go.Proofs.Ytejijddhmckgiaa
