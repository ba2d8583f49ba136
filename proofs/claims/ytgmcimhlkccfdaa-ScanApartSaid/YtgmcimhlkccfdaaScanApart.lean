/- Scans of two objects, step by step in turns, do not touch one another: any slots of both (at most 100 each), any turns. No condition. -/
import Derived.Test.YtgmcimhlkccfdaaScanMore
import Derived.Test.YtgmcimhlkccfdaaBools
import Derived.WalkKit
import Derived.ProofKit
import Derived.OpenShut
import Derived.Deep.RegionHeld3
import Derived.Deep.RegionWith
import Derived.Deep.Cut
import Derived.Deep.CutBlock
import Derived.Deep.CutRange
import Derived.Deep.DeepCutAuto
import Derived.RegionTactic
namespace Go.Proofs.Ytgmcimhlkccfdaa.scanApart
open Go.ChangeShapes Go.WideShapes Go.ChangeAt Go.WideElems Go.RowKit Go.Lib Fx Ho Sc Rw Qu Rw
set_option linter.unusedVariables false

theorem own : ownKnob Try.prog.godebug = none := by kernel_rfl

/-- What the statement's own load has captured: both objects' slots, and that nothing was bad. -/
structure By (W : World) (ba bb bd : Nat) (sa : Option Addr) (ca : Nat) (A : List Int) (sb : Option Addr) (cb : Nat) (B : List Int) : Prop where
  a : W.heap[ba]? = some (.cells #[.slice sa A.length ca] 26 (0, 0))
  b : W.heap[bb]? = some (.cells #[.slice sb B.length cb] 26 (0, 0))
  d : W.heap[bd]? = some (.cells #[.bool false] 4 (0, 0))
  za : Ints W (fun k => k < ba) (.slice sa A.length ca) A
  zb : Ints W (fun k => k < ba) (.slice sb B.length cb) B
section
variable {W W' : World} {ba bb bd : Nat} {sa sb : Option Addr} {ca cb : Nat} {A B : List Int} {H H' : Home} {i : Nat}
theorem By.wrote (h : By W ba bb bd sa ca A sb cb B) (ht : Wrote H W H' W') (h1 : ¬ H ba) (h2 : ¬ H bb) (h3 : ¬ H bd) (h5 : ∀ k, k < ba → ¬ H k) : By W' ba bb bd sa ca A sb cb B :=
  ⟨by rw [ht.block _ (block_lt h.a) h1]; exact h.a, by rw [ht.block _ (block_lt h.b) h2]; exact h.b, by rw [ht.block _ (block_lt h.d) h3]; exact h.d, h.za.wrote ht h5, h.zb.wrote ht h5⟩
theorem By.drewN (h : By W ba bb bd sa ca A sb cb B) (k : Nat) : By (W.drewN k) ba bb bd sa ca A sb cb B :=
  h.wrote (H := fun _ => False) ((Wrote.refl _ W).drewN k) (fun h => h) (fun h => h) (fun h => h) (fun _ _ h => h)
set_option maxRecDepth 100000 in
theorem load_a (h : By W ba bb bd sa ca A sb cb B) (hi : i < A.length) (hl : A.length ≤ 100) :
    Calls Try.prog 47 (#[.int .i64 1000, .int .i64 i] ++ #[.pointer (some ⟨ba, 0, none⟩), .pointer (some ⟨bb, 0, none⟩), .pointer (some ⟨bd, 0, none⟩)]) W (Still (.int .i64 (A.getD i 0)) W) := by
  show Calls _ _ #[.int .i64 1000, .int .i64 i, .pointer (some ⟨ba, 0, none⟩), .pointer (some ⟨bb, 0, none⟩), .pointer (some ⟨bd, 0, none⟩)] _ _
  have k1 : W.cell? ⟨ba, 0, none⟩ = some (.slice sa A.length ca) := cell_of h.a rfl
  obtain ⟨sp', cap', e, hm, hc⟩ := h.za
  obtain ⟨rfl, rfl⟩ : sa = sp' ∧ ca = cap' := by injection e with e1 e2 e3; exact ⟨e1, e3⟩
  obtain ⟨b, off, rfl, _, _, k2⟩ := hc i hi
  have i1 : (i : Int) < (A.length : Int) := by omega
  have i0 : (0 : Int) ≤ (i : Int) := by omega
  clear h hc e
  generalize A.getD i 0 = x at *
  generalize A.length = l at *
  go_enter Try.func47, Try.ntmps47
  go_wp2_with fail
  go_ret
  exact ⟨rfl, rfl⟩
set_option maxRecDepth 100000 in
theorem load_b (h : By W ba bb bd sa ca A sb cb B) (hi : i < B.length) (hl : B.length ≤ 100) :
    Calls Try.prog 47 (#[.int .i64 5000, .int .i64 i] ++ #[.pointer (some ⟨ba, 0, none⟩), .pointer (some ⟨bb, 0, none⟩), .pointer (some ⟨bd, 0, none⟩)]) W (Still (.int .i64 (B.getD i 0)) W) := by
  show Calls _ _ #[.int .i64 5000, .int .i64 i, .pointer (some ⟨ba, 0, none⟩), .pointer (some ⟨bb, 0, none⟩), .pointer (some ⟨bd, 0, none⟩)] _ _
  have k1 : W.cell? ⟨bb, 0, none⟩ = some (.slice sb B.length cb) := cell_of h.b rfl
  obtain ⟨sp', cap', e, hm, hc⟩ := h.zb
  obtain ⟨rfl, rfl⟩ : sb = sp' ∧ cb = cap' := by injection e with e1 e2 e3; exact ⟨e1, e3⟩
  obtain ⟨b, off, rfl, _, _, k2⟩ := hc i hi
  have i1 : (i : Int) < (B.length : Int) := by omega
  have i0 : (0 : Int) ≤ (i : Int) := by omega
  clear h hc e
  generalize B.getD i 0 = x at *
  generalize B.length = l at *
  go_enter Try.func47, Try.ntmps47
  go_wp2_with fail
  go_ret
  exact ⟨rfl, rfl⟩
end
theorem enter_load (args : Array Value) (W : World) : Sem.run Try.prog (callFunc 47 args) W = .ok (.enter 47 args) W := by rfl
theorem some0_add (S : Nat → Int) (a : Nat) : ∀ b c, some0 S a b ++ some0 S (a + b) c = some0 S a (b + c)
  | b, 0 => by simp [some0]
  | b, c + 1 => by
    have h := some0_add S a b c
    show some0 S a b ++ some0 S (a + b) (c + 1) = some0 S a (b + c + 1)
    unfold some0
    rw [← h, show a + b + c = a + (b + c) by omega]
    by_cases e : S (a + (b + c)) = 0
    · rw [if_pos e, if_pos e]; cases b <;> rfl
    · rw [if_neg e, if_neg e, ← List.append_assoc]; cases b <;> rfl
set_option maxRecDepth 100000 in
set_option maxHeartbeats 1000000 in
/-- The statement's own list of what is not 0. -/
theorem list_any {w : World} {S : Home} {sp : Option Addr} {cap n : Nat} {z : List Int} (h : Ints w S (.slice sp n cap) z) (hn : z.length = n) (hs : n ≤ 100) : Calls Try.prog 48 #[.slice sp n cap] w fun e w' => ∃ v, e = .returned v ∧ OffRow w' v (some0 (fun i => z.getD i 0) 0 n) ∧ Below w.heap.size w w' := by
  obtain ⟨sp', cap', e, hm, hc⟩ := h
  obtain ⟨rfl, rfl⟩ : sp = sp' ∧ cap = cap' := by injection e with e1 e2 e3; exact ⟨e1, e3⟩
  have hcell : Hid (∀ W, Below w.heap.size w W → ∀ i, i < n → ∃ b off, sp = some ⟨b, off, none⟩ ∧ W.cell? ⟨b, off + i, none⟩ = some (.int .i64 (z.getD i 0))) := fun W hb i hi => by
    obtain ⟨b, off, e, _, _, k1⟩ := hc i (by omega)
    exact ⟨b, off, e, cell_then hb k1⟩
  have hz := Lib.hid hn
  clear hc hn hm e
  obtain ⟨f, hf⟩ : ∃ f : Nat → Int, (fun i => z.getD i 0) = f := ⟨_, rfl⟩
  have hf2 : Hid (∀ i, z.getD i 0 = f i) := fun i => congrFun hf i
  rw [hf]
  have hst : Hid (∀ j, some0 f 0 (j + 1) = if f j = 0 then some0 f 0 j else some0 f 0 j ++ [f j]) := fun j => by
    show (if f (0 + j) = 0 then _ else _) = _
    rw [Nat.zero_add]
  clear hf
  go_enter Try.func48, Try.ntmps48
  go_wp2_with fail
  go_loopw [3, 4] (fun v i wr => ∃ (s : Option Addr) (c t j : Nat), v = .slice s t c ∧ i = .int .i64 j ∧ j ≤ n ∧ Hid (OffRow wr (.slice s t c) (some0 f 0 j)) ∧ Hid (Low w.heap.size (fun k => (Value.slice s t c).ownBlock = some k)) ∧ Hid (Below w.heap.size w wr)) (fun _ i _ => (n - (RowKit.intOf i).toNat))
  case atStart => exact ⟨none, 0, 0, 0, rfl, rfl, by omega, Lib.hid (offrow_nil _), Lib.hid (low_nil _), Lib.hid (Below.refl _ _)⟩
  case round =>
    obtain ⟨s, c, t, j, rfl, rfl, j1, hR, hLo, hB⟩ := hrel
    by_cases hj : j < n
    · have i2 : (j : Int) < (n : Int) := by omega
      have i0 : (0 : Int) ≤ (j : Int) := by omega
      obtain ⟨b, off, rfl, k1⟩ := hcell.out wr hB.out j hj
      rw [hf2.out] at k1
      have hs1 := hst.out j
      by_cases hz0 : f j = 0
      · rw [if_pos hz0] at hs1
        have hR2 : Hid (OffRow wr (.slice s t c) (some0 f 0 (j + 1))) := by rw [hs1]; exact hR.out
        rw [hz0] at k1
        clear hs1 hz0 hR
        go_wp2_with fail
        go_roundw
        case rel => exact ⟨s, c, t, j + 1, rfl, by go_num, by omega, hR2, hLo, hB⟩
        case measure => simp [RowKit.intOf]; omega
      · rw [if_neg hz0] at hs1
        have hz2 : (f j == 0) = false := by rw [beq_eq_false_iff_ne]; exact hz0
        have hz3 : (f j != 0) = true := by simp [bne, hz2]
        have ha := below_alloc (Below.refl wr.heap.size wr) (.cells #[.int .i64 (f j)] 3)
        have hR2 := Lib.hid (off_below hR.out ha)
        have hsz : w.heap.size ≤ (wr.alloc (.cells #[.int .i64 (f j)] 3)).heap.size := Nat.le_trans hB.out.size ha.size
        have hbd : (some0 f 0 j).length + 1 ≤ 1000000 := by have := some0_len f 0 j; omega
        have hnx : Hid (∀ (w3 : World) (v3 : Value), OffRow w3 v3 (some0 f 0 j ++ [f j]) → Below w.heap.size (wr.alloc (.cells #[.int .i64 (f j)] 3)) w3 → (∃ s c t, v3 = .slice s t c) ∧ Hid (OffRow w3 v3 (some0 f 0 (j + 1))) ∧ Hid (Below w.heap.size w w3)) := fun w3 v3 g1 g2 => by
          obtain ⟨s3, c3, e3⟩ := g1.slice
          rw [← hs1] at g1
          exact ⟨⟨s3, c3, _, e3⟩, g1, (hB.out.trans (ha.mono hB.out.size)).trans g2⟩
        clear hs1 hz0 hR ha
        generalize f j = x at *
        go_wp2_with (at_builtin; refine wpList_append_low rfl (.tmp 16) (.tmp 21) rfl rfl w.heap.size hR2.out hLo.out hsz rfl rfl (src_one wr x) hbd ?_; intro v3 w3 g1 g2 g3; have hk := hnx.out w3 v3 g1 g3; obtain ⟨⟨s3, c3, t3, rfl⟩, hR3, hB3⟩ := hk; replace g2 := Lib.hid g2; clear g1 g3 hnx hR2 hLo)
        go_roundw
        case rel => exact ⟨s3, c3, t3, j + 1, rfl, by go_num, by omega, hR3, g2, hB3⟩
        case measure => simp [RowKit.intOf]; omega
    · obtain rfl : j = n := by omega
      go_wp2_with fail
      go_ret
      exact ⟨_, rfl, hR.out, hB.out⟩
/-- Where all of it lies: the captured boxes ba, bb, bd, the scans p, q; the statement's own rows lie from lo on. -/
structure St (W0 : World) (lo ba bb bd p q : Nat) (A B : List Int) : Prop where
  h0 : W0.heap.size ≤ ba
  h1 : ba < bb
  h2 : bb < p
  h3 : bb < q
  h4 : p ≠ q
  h5 : bb < bd
  h6 : p ≠ bd
  h7 : q ≠ bd
  h8 : p < lo
  h9 : q < lo
  h10 : bd < lo
  lA : A.length ≤ 100
  lB : B.length ≤ 100
/-- The scans stand at ta and tb; the statement's own rows hold what is not 0 of the first tx and ty. -/
structure Sq (W0 : World) (lo ba bb bd p q : Nat) (sa : Option Addr) (ca : Nat) (A : List Int) (sb : Option Addr) (cb : Nat) (B : List Int) (w : World) (ta tx tb ty : Nat) (xv yv : Value) : Prop where
  y0 : By w ba bb bd sa ca A sb cb B
  s : IsScan w p 1000 ta A.length
  t : IsScan w q 5000 tb B.length
  x : OffRow w xv (some0 (fun i => A.getD i 0) 0 tx)
  y : OffRow w yv (some0 (fun i => B.getD i 0) 0 ty)
  lx : Low lo (fun k => xv.ownBlock = some k)
  ly : Low lo (fun k => yv.ownBlock = some k)
  off : Off (fun k => xv.ownBlock = some k) (fun k => yv.ownBlock = some k)
  le : lo ≤ w.heap.size
  bel : Below W0.heap.size W0 w
section
variable {W0 w w' : World} {lo ba bb bd p q : Nat} {sa sb : Option Addr} {ca cb : Nat} {A B : List Int} {ta tx tb ty c : Nat} {xv yv : Value}
theorem Sq.drewN (h : Sq W0 lo ba bb bd p q sa ca A sb cb B w ta tx tb ty xv yv) (k : Nat) : Sq W0 lo ba bb bd p q sa ca A sb cb B (w.drewN k) ta tx tb ty xv yv :=
  have hb := below_drewN (Below.refl w.heap.size w) k
  ⟨h.y0.drewN k, h.s.below hb, h.t.below hb, off_below h.x hb, off_below h.y hb, h.lx, h.ly, h.off, h.le, below_drewN h.bel k⟩
theorem lone_of {H : Nat} (h : Wrote (fun k => False ∨ k = H) w (fun k => False ∨ k = H) w') : Wrote (fun k => k = H) w (fun k => k = H) w' :=
  ⟨h.os, h.tape, h.output, h.size, fun k hk hn => h.block k hk (fun e => e.elim (fun e => e.elim) hn), fun k hk => Or.inl hk⟩
/-- A scan goes on. -/
theorem Sq.wroteP (o : St W0 lo ba bb bd p q A B) (h : Sq W0 lo ba bb bd p q sa ca A sb cb B w ta tx tb ty xv yv) {u : Nat} (ht : Wrote (fun k => k = p) w (fun k => k = p) w') (hs : IsScan w' p 1000 u A.length) : Sq W0 lo ba bb bd p q sa ca A sb cb B w' u tx tb ty xv yv := by
  have := o.h1; have := o.h2; have := o.h3; have := o.h4; have := o.h5; have := o.h6; have := o.h8; have := o.h0
  exact ⟨h.y0.wrote ht (fun e => by have e : ba = p := e; omega) (fun e => by have e : bb = p := e; omega) (fun e => by have e : bd = p := e; omega) (fun k hk e => by have e : k = p := e; omega), hs, h.t.wrote ht (fun e => by have e : q = p := e; omega), h.x.wrote ht (fun k hk e => by have := h.lx k hk; have e : k = p := e; omega), h.y.wrote ht (fun k hk e => by have := h.ly k hk; have e : k = p := e; omega), h.lx, h.ly, h.off, Nat.le_trans h.le ht.size, ht.below (fun k hk => by have e : k = p := hk; omega) h.bel⟩
theorem Sq.wroteQ (o : St W0 lo ba bb bd p q A B) (h : Sq W0 lo ba bb bd p q sa ca A sb cb B w ta tx tb ty xv yv) {u : Nat} (ht : Wrote (fun k => k = q) w (fun k => k = q) w') (hs : IsScan w' q 5000 u B.length) : Sq W0 lo ba bb bd p q sa ca A sb cb B w' ta tx u ty xv yv := by
  have := o.h1; have := o.h2; have := o.h3; have := o.h4; have := o.h5; have := o.h7; have := o.h9; have := o.h0
  exact ⟨h.y0.wrote ht (fun e => by have e : ba = q := e; omega) (fun e => by have e : bb = q := e; omega) (fun e => by have e : bd = q := e; omega) (fun k hk e => by have e : k = q := e; omega), h.s.wrote ht (fun e => by have e : p = q := e; omega), hs, h.x.wrote ht (fun k hk e => by have := h.lx k hk; have e : k = q := e; omega), h.y.wrote ht (fun k hk e => by have := h.ly k hk; have e : k = q := e; omega), h.lx, h.ly, h.off, Nat.le_trans h.le ht.size, ht.below (fun k hk => by have e : k = q := hk; omega) h.bel⟩
theorem Sq.stepP (o : St W0 lo ba bb bd p q A B) (h : Sq W0 lo ba bb bd p q sa ca A sb cb B w ta tx tb ty xv yv) (hc : min (A.length - ta) 16 = c) :
    Calls Try.prog 41 #[.pointer (some ⟨p, 0, none⟩), .func (.func 47) #[] #[.pointer (some ⟨ba, 0, none⟩), .pointer (some ⟨bb, 0, none⟩), .pointer (some ⟨bd, 0, none⟩)]] w fun e w' => ∃ s n cp, e = .returned (.slice s n cp) ∧ OffRow w' (.slice s n cp) (some0 (fun i => A.getD i 0) ta c) ∧ Sq W0 lo ba bb bd p q sa ca A sb cb B w' (ta + c) tx tb ty xv yv := by
  have := o.h1; have := o.h2; have := o.h3; have := o.h4; have := o.h5; have := o.h6; have := o.h8; have := o.h10; have := o.lA; have := h.s.le
  have hld : Load p 47 #[.pointer (some ⟨ba, 0, none⟩), .pointer (some ⟨bb, 0, none⟩), .pointer (some ⟨bd, 0, none⟩)] 1000 (fun i => A.getD i 0) (fun _ W => By W ba bb bd sa ca A sb cb B) (fun _ => False) lo ta c :=
    ⟨fun i W _ h2 hb => (load_a hb (by omega) o.lA).mono fun e w' ⟨h3, h4⟩ => ⟨h3, by rw [← h4]; exact hb, by rw [← h4]; exact Wrote.refl _ _⟩, fun i W W' hb hw => hb.wrote hw (fun e => by have e : ba = p ∨ lo ≤ ba := e; omega) (fun e => by have e : bb = p ∨ lo ≤ bb := e; omega) (fun e => by have e : bd = p ∨ lo ≤ bd := e; omega) (fun k hk e => by have e : k = p ∨ lo ≤ k := e; omega), fun k hk => hk.elim, enter_load⟩
  refine (step_any hld h.s hc h.le h.y0 (fun h => h) (by omega)).mono fun e w' ⟨v, he, g1, g2, g3, g4, g5⟩ => ?_
  obtain ⟨s, cp, e1⟩ := g1.slice
  subst e1
  exact ⟨s, _, cp, he, g1, h.wroteP o (lone_of g5) g4⟩
theorem Sq.stepQ (o : St W0 lo ba bb bd p q A B) (h : Sq W0 lo ba bb bd p q sa ca A sb cb B w ta tx tb ty xv yv) (hc : min (B.length - tb) 16 = c) :
    Calls Try.prog 41 #[.pointer (some ⟨q, 0, none⟩), .func (.func 47) #[] #[.pointer (some ⟨ba, 0, none⟩), .pointer (some ⟨bb, 0, none⟩), .pointer (some ⟨bd, 0, none⟩)]] w fun e w' => ∃ s n cp, e = .returned (.slice s n cp) ∧ OffRow w' (.slice s n cp) (some0 (fun i => B.getD i 0) tb c) ∧ Sq W0 lo ba bb bd p q sa ca A sb cb B w' ta tx (tb + c) ty xv yv := by
  have := o.h1; have := o.h2; have := o.h3; have := o.h4; have := o.h5; have := o.h7; have := o.h9; have := o.h10; have := o.lB; have := h.t.le
  have hld : Load q 47 #[.pointer (some ⟨ba, 0, none⟩), .pointer (some ⟨bb, 0, none⟩), .pointer (some ⟨bd, 0, none⟩)] 5000 (fun i => B.getD i 0) (fun _ W => By W ba bb bd sa ca A sb cb B) (fun _ => False) lo tb c :=
    ⟨fun i W _ h2 hb => (load_b hb (by omega) o.lB).mono fun e w' ⟨h3, h4⟩ => ⟨h3, by rw [← h4]; exact hb, by rw [← h4]; exact Wrote.refl _ _⟩, fun i W W' hb hw => hb.wrote hw (fun e => by have e : ba = q ∨ lo ≤ ba := e; omega) (fun e => by have e : bb = q ∨ lo ≤ bb := e; omega) (fun e => by have e : bd = q ∨ lo ≤ bd := e; omega) (fun k hk e => by have e : k = q ∨ lo ≤ k := e; omega), fun k hk => hk.elim, enter_load⟩
  refine (step_any hld h.t hc h.le h.y0 (fun h => h) (by omega)).mono fun e w' ⟨v, he, g1, g2, g3, g4, g5⟩ => ?_
  obtain ⟨s, cp, e1⟩ := g1.slice
  subst e1
  exact ⟨s, _, cp, he, g1, h.wroteQ o (lone_of g5) g4⟩
theorem Sq.moreX (o : St W0 lo ba bb bd p q A B) (h : Sq W0 lo ba bb bd p q sa ca A sb cb B w (tx + c) tx tb ty xv yv) {v : Value} (hr : OffRow w' v (some0 (fun i => A.getD i 0) 0 tx ++ some0 (fun i => A.getD i 0) tx c)) (ht : Wrote (fun k => xv.ownBlock = some k) w (fun k => v.ownBlock = some k) w') : Sq W0 lo ba bb bd p q sa ca A sb cb B w' (tx + c) (tx + c) tb ty v yv := by
  have := o.h1; have := o.h2; have := o.h3; have := o.h4; have := o.h5; have := o.h6; have := o.h8; have := o.h9; have := o.h10; have := o.h0
  have hl : ∀ k, xv.ownBlock = some k → lo ≤ k := h.lx
  have e := some0_add (fun i => A.getD i 0) 0 tx c
  rw [Nat.zero_add] at e
  rw [e] at hr
  have hoff : Off (fun k => yv.ownBlock = some k) (fun k => v.ownBlock = some k) := ht.off (fun k hk hk2 => h.off k hk2 hk) (fun k hk => h.y.lt hk)
  exact ⟨h.y0.wrote ht (fun e => by have := hl _ e; omega) (fun e => by have := hl _ e; omega) (fun e => by have := hl _ e; omega) (fun k hk e => by have := hl _ e; omega), h.s.wrote ht (fun e => by have := hl _ e; omega), h.t.wrote ht (fun e => by have := hl _ e; omega), hr, h.y.wrote ht (fun k hk e => h.off k e hk), ht.low h.lx h.le, h.ly, fun k hk hk2 => hoff k hk2 hk, Nat.le_trans h.le ht.size, ht.below (fun k hk => by have := hl k hk; omega) h.bel⟩
theorem Sq.moreY (o : St W0 lo ba bb bd p q A B) (h : Sq W0 lo ba bb bd p q sa ca A sb cb B w ta tx (ty + c) ty xv yv) {v : Value} (hr : OffRow w' v (some0 (fun i => B.getD i 0) 0 ty ++ some0 (fun i => B.getD i 0) ty c)) (ht : Wrote (fun k => yv.ownBlock = some k) w (fun k => v.ownBlock = some k) w') : Sq W0 lo ba bb bd p q sa ca A sb cb B w' ta tx (ty + c) (ty + c) xv v := by
  have := o.h1; have := o.h2; have := o.h3; have := o.h4; have := o.h5; have := o.h6; have := o.h8; have := o.h9; have := o.h10; have := o.h0
  have hl : ∀ k, yv.ownBlock = some k → lo ≤ k := h.ly
  have e := some0_add (fun i => B.getD i 0) 0 ty c
  rw [Nat.zero_add] at e
  rw [e] at hr
  exact ⟨h.y0.wrote ht (fun e => by have := hl _ e; omega) (fun e => by have := hl _ e; omega) (fun e => by have := hl _ e; omega) (fun k hk e => by have := hl _ e; omega), h.s.wrote ht (fun e => by have := hl _ e; omega), h.t.wrote ht (fun e => by have := hl _ e; omega), h.x.wrote ht (fun k hk e => h.off k hk e), hr, h.lx, ht.low h.ly h.le, ht.off h.off (fun k hk => h.x.lt hk), Nat.le_trans h.le ht.size, ht.below (fun k hk => by have := hl k hk; omega) h.bel⟩
end
set_option maxRecDepth 100000 in
set_option maxHeartbeats 4000000 in
theorem walk (v0 : Value) (z0 : List Int) (v1 : Value) (z1 : List Int) (v2 : Value) (zb2 : List Bool) (w : World) (h0 : Ints w (fun k => k < w.heap.size) v0 z0) (h1 : Ints w (fun k => k < w.heap.size) v1 z1) (h2 : BoolsArg w v2 zb2) :
    Calls Try.prog 11 #[v0, v1, v2] w fun e w' => e = .returned (.bool true) ∧ Below w.heap.size w w' := by
  have ct := fun w => Sc.told_any w
  obtain ⟨sa, ca, rfl, hma, hca⟩ := h0
  obtain ⟨sb, cb, rfl, hmb, hcb⟩ := h1
  obtain ⟨st, ct2, rfl, hmt, hct⟩ := h2
  have hIA : Hid (Ints w (fun k => k < w.heap.size) (.slice sa z0.length ca) z0) := ⟨sa, ca, rfl, hma, hca⟩
  have hIB : Hid (Ints w (fun k => k < w.heap.size) (.slice sb z1.length cb) z1) := ⟨sb, cb, rfl, hmb, hcb⟩
  have hcT : Hid (∀ W, Below w.heap.size w W → ∀ i, i < zb2.length → ∃ b off, st = some ⟨b, off, none⟩ ∧ W.cell? ⟨b, off + i, none⟩ = some (.bool (zb2.getD i false))) := fun W hb i hi => by
    obtain ⟨b, off, e, _, k1⟩ := hct i hi
    exact ⟨b, off, e, cell_then hb k1⟩
  obtain ⟨na, hna⟩ : ∃ n, z0.length = n := ⟨_, rfl⟩
  obtain ⟨nb, hnb⟩ : ∃ n, z1.length = n := ⟨_, rfl⟩
  obtain ⟨L, hL⟩ : ∃ n, zb2.length = n := ⟨_, rfl⟩
  rw [hna] at hma ⊢
  rw [hnb] at hmb ⊢
  rw [hL] at hmt hcT ⊢
  clear hca hcb hct
  have hna0 := Lib.hid hna
  have hnb0 := Lib.hid hnb
  clear hna hnb hL
  obtain ⟨w0, hw0⟩ : ∃ w0, w0 = (w.alloc (.cells #[.slice sa na ca] 26)).alloc (.cells #[.slice sb nb cb] 26) := ⟨_, rfl⟩
  have hb0 : Below w.heap.size w w0 := by rw [hw0]; exact below_then (below_alloc (Below.refl _ _) _) (below_alloc (Below.refl _ _) _)
  have hz0 : w0.heap.size = w.heap.size + 2 := by rw [hw0]; show ((w.heap.push _).push _).size = _; rw [Array.size_push, Array.size_push]
  have ka : w0.heap[w.heap.size]? = some (.cells #[.slice sa na ca] 26 (0, 0)) := by
    rw [hw0]; exact (heap_alloc_old _ _ (by show _ < (w.heap.push _).size; rw [Array.size_push]; omega)).trans (heap_alloc_new _ _)
  have kb : w0.heap[w.heap.size + 1]? = some (.cells #[.slice sb nb cb] 26 (0, 0)) := by rw [hw0]; exact heap_alloc2_new _ _ _
  have hb0h := Lib.hid hb0
  by_cases hgt : 100 < na ∨ 100 < nb
  · have g1 : (100 : Int) < (na : Int) ∨ (na : Int) ≤ 100 ∧ (100 : Int) < (nb : Int) := by omega
    have ct0 := ct w0
    have hfin : Hid (∀ w', Below w0.heap.size w0 w' → Below w.heap.size w w') := fun w' h => hb0h.out.trans (h.mono (by omega))
    clear ka kb hz0 hb0 hgt
    subst hw0
    rcases g1 with g1 | ⟨g1, g2⟩
    all_goals
      go_enter Try.func11, Try.ntmps11
      go_wp2_with fail
      with_reducible refine Calls.mono ct0 ?_
      rintro e w1 ⟨rfl, hb⟩
      go_wp2_with fail
      go_ret
      exact ⟨rfl, hfin.out _ hb⟩
  have g1 : (na : Int) ≤ 100 := by omega
  have g2 : (nb : Int) ≤ 100 := by omega
  have na1 : na ≤ 100 := by omega
  have nb1 : nb ≤ 100 := by omega
  have cA := fun W => Sc.new_any (ad := 1000) (m := (na : Int)) na (by rw [if_neg (by omega)]) W
  have cB := fun W => Sc.new_any (ad := 5000) (m := (nb : Int)) nb (by rw [if_neg (by omega)]) W
  have d0 : w0.cell? ⟨w.heap.size, 0, none⟩ = some (.slice sa na ca) := cell_of ka rfl
  have d1 : w0.cell? ⟨w.heap.size + 1, 0, none⟩ = some (.slice sb nb cb) := cell_of kb rfl
  have hmf : ∀ (fn : Fn) (first cap : Array Value) (w : World), (Instr.makeFunc fn first cap).run Try.prog w = .ok (.func fn first cap) w := fun _ _ _ _ => rfl
  have hb00 : Below w0.heap.size w0 w0 := Below.refl _ _
  have hKeep := Lib.hid (And.intro ka (And.intro kb hz0))
  clear ka kb hz0 hb0 hgt
  obtain ⟨w0', hw0'⟩ : ∃ w0', w0' = w0 := ⟨_, rfl⟩
  subst hw0
  go_enter Try.func11, Try.ntmps11
  go_wp2_with fail
  rw [← hw0'] at d0 d1 hb00 hKeep hb0h ⊢
  clear hw0'
  go_region_held3 (fun W' => Below w0'.heap.size w0' W' ∧ W'.cell? ⟨w.heap.size, 0, none⟩ = some (.slice sa na ca) ∧ W'.cell? ⟨w.heap.size + 1, 0, none⟩ = some (.slice sb nb cb)) (first | exact ⟨hb00.drew, d0, d1⟩ | go_keep | (go_split_ands; exact ⟨below_then (by assumption) (by assumption), cell_then (by assumption) (by assumption), cell_then (by assumption) (by assumption)⟩)) (first | (go_at_call 38; ((with_reducible refine (cA _).mono ?_); rintro e wA ⟨rfl, hbA, hsA⟩)) | (go_at_call 38; ((with_reducible refine (cB _).mono ?_); rintro e wB ⟨rfl, hbB, hsB⟩)))
  obtain ⟨ka, kb, hz0⟩ := hKeep.out
  have hbA : Below w0'.heap.size w0' wA := (below_drewN (Below.refl w0'.heap.size w0') 1).trans hbA
  have hsA : IsScan wA w0'.heap.size 1000 0 na := hsA
  have zA := hsA.lt
  have zB := hsB.lt
  have hnx : ∃ ba bb p q bd lo, ba = w.heap.size ∧ bb = w.heap.size + 1 ∧ p = w0'.heap.size ∧ q = wA.heap.size ∧ bd = wB.heap.size ∧ lo = wB.heap.size + 1 ∧ Hid (St w lo ba bb bd p q z0 z1) ∧ Hid (Sq w lo ba bb bd p q sa ca z0 sb cb z1 (wB.alloc (.cells #[.bool false] 4)) 0 0 0 0 (.slice none 0 0) (.slice none 0 0)) := by
    have hb2 : Below wB.heap.size wB (wB.alloc (.cells #[.bool false] 4)) := below_alloc (Below.refl _ _) _
    have hbB3 : Below wA.heap.size wA (wB.alloc (.cells #[.bool false] 4)) := hbB.trans (hb2.mono hbB.size)
    have hb3 : Below w0'.heap.size w0' (wB.alloc (.cells #[.bool false] 4)) := hbA.trans (hbB3.mono hbA.size)
    have hsz : (wB.alloc (.cells #[.bool false] 4)).heap.size = wB.heap.size + 1 := by show (wB.heap.push _).size = _; rw [Array.size_push]
    refine ⟨_, _, _, _, _, _, rfl, rfl, rfl, rfl, rfl, rfl, ⟨Nat.le_refl _, by omega, by omega, by omega, by omega, by omega, by omega, by omega, by omega, by omega, by omega, by rw [hna0.out]; exact na1, by rw [hnb0.out]; exact nb1⟩, ⟨⟨?_, ?_, heap_alloc_new _ _, ?_, ?_⟩, ?_, ?_, offrow_nil _, offrow_nil _, low_nil _, low_nil _, fun k hk => by (cases hk), by omega, hb0h.out.trans (hb3.mono (by omega))⟩⟩
    · rw [hna0.out]; exact (hb3.block _ (by omega)).trans ka
    · rw [hnb0.out]; exact (hb3.block _ (by omega)).trans kb
    · exact (hIA.out.below hb0h.out).below hb3
    · exact (hIB.out.below hb0h.out).below hb3
    · rw [hna0.out]; exact hsA.below hbB3
    · rw [hnb0.out]; exact hsB.below hb2
  obtain ⟨ba, bb, p, q, bd, lo, e1, e2, e3, e4, e5, e6, hO, hSq⟩ := hnx
  rw [← e2, ← e1, ← e3, ← e4]
  clear d0 d1 hb00 hKeep hb0h hIA hIB hbA hsA hbB hsB ka kb hz0 zA zB e1 e2 e3 e4 e6 cA cB
  have e5h := Lib.hid e5
  clear e5
  try clear hHeld
  go_wp2_with fail
  rw [← e5h.out]
  generalize wB.alloc (.cells #[.bool false] 4) = wC at *
  clear e5h
  go_loopw [11, 12, 13] (fun xv yv iv wr => ∃ (xs : Option Addr) (xn xc : Nat) (ys : Option Addr) (yn yc i ta tb : Nat), xv = .slice xs xn xc ∧ yv = .slice ys yn yc ∧ iv = .int .i64 i ∧ i ≤ 200 ∧ Hid (Sq w lo ba bb bd p q sa ca z0 sb cb z1 wr ta ta tb tb (.slice xs xn xc) (.slice ys yn yc)) ∧ Hid (i ≤ 100 ∨ (na - ta + 15) / 16 + (nb - tb + 15) / 16 + i ≤ 114 ∨ (ta = na ∧ tb = nb))) (fun _ _ iv _ => (200 - (RowKit.intOf iv).toNat))
  case atStart => exact ⟨none, 0, 0, none, 0, 0, 0, 0, 0, rfl, rfl, rfl, by omega, hSq, Or.inl (by omega)⟩
  case round =>
    obtain ⟨xs, xn, xc, ys, yn, yc, i, ta, tb, rfl, rfl, rfl, i1, hS, hinv⟩ := hrel
    clear hSq
    have i0 : (0 : Int) ≤ (i : Int) := by omega
    by_cases hi2 : i < 200
    · have i2 : (i : Int) < 200 := by omega
      by_cases hta : ta = na
      · by_cases htb : tb = nb
        · skip
          have cd := done_any (by have := hO.out.lA; omega) hS.out.s
          rw [hna0.out, decide_eq_true hta] at cd
          have hSk : Hid (∀ k, Hid (Sq w lo ba bb bd p q sa ca z0 sb cb z1 (wr.drewN k) ta ta tb tb (.slice xs xn xc) (.slice ys yn yc))) := fun k => hS.out.drewN k
          clear hS
          go_wp2_with fail
          with_reducible refine Calls.mono cd ?_
          rintro e w' ⟨rfl, k, rfl⟩
          have hS := hSk.out k
          clear cd hSk
          generalize wr.drewN k = w3 at *
          have cd := done_any (by have := hO.out.lB; omega) hS.out.t
          rw [hnb0.out, decide_eq_true htb] at cd
          have hSk : Hid (∀ k, Hid (Sq w lo ba bb bd p q sa ca z0 sb cb z1 (w3.drewN k) ta ta tb tb (.slice xs xn xc) (.slice ys yn yc))) := fun k => hS.out.drewN k
          clear hS
          go_wp2_with fail
          with_reducible refine Calls.mono cd ?_
          rintro e w' ⟨rfl, k, rfl⟩
          have hS := hSk.out k
          clear cd hSk
          generalize w3.drewN k = w4 at *
          have hfin : Hid (∀ w5, Below w4.heap.size w4 w5 → w5.cell? ⟨bd, 0, none⟩ = some (.bool false) ∧ w5.cell? ⟨bb, 0, none⟩ = some (.slice sb nb cb) ∧ w5.cell? ⟨ba, 0, none⟩ = some (.slice sa na ca) ∧ Ints w5 (fun k => k < ba) (.slice sa na ca) z0 ∧ Ints w5 (fun k => k < ba) (.slice sb nb cb) z1 ∧ Hid (∀ w6, Below w5.heap.size w5 w6 → w6.cell? ⟨ba, 0, none⟩ = some (.slice sa na ca) ∧ Ints w6 (fun k => k < ba) (.slice sa na ca) z0 ∧ Ints w6 (fun _ => True) (.slice ys yn yc) (some0 (fun i => z1.getD i 0) 0 nb) ∧ Ints w6 (fun _ => True) (.slice xs xn xc) (some0 (fun i => z0.getD i 0) 0 na) ∧ IsScan w6 p 1000 na na ∧ IsScan w6 q 5000 nb nb ∧ Below w.heap.size w w6)) := fun w5 hb => by
            have hs := hS.out
            rw [hta, htb] at hs
            have y0 := hs.y0.wrote (H := fun _ => False) (Wrote.of_below hb) (fun h => h) (fun h => h) (fun h => h) (fun _ _ h => h)
            have za := y0.za
            have zb := y0.zb
            have k1 : w5.cell? ⟨bb, 0, none⟩ = some (.slice sb z1.length cb) := cell_of y0.b rfl
            have k2 : w5.cell? ⟨ba, 0, none⟩ = some (.slice sa z0.length ca) := cell_of y0.a rfl
            have e1 := hs.s.below hb
            have e2 := hs.t.below hb
            rw [hna0.out] at za k2 e1
            rw [hnb0.out] at zb k1 e2
            refine ⟨cell_of y0.d rfl, k1, k2, za, zb, fun w6 hb6 => ⟨cell_then hb6 k2, za.below hb6, ((hs.y.ints.below hb).below hb6).wider (fun _ _ _ => trivial), ((hs.x.ints.below hb).below hb6).wider (fun _ _ _ => trivial), e1.below hb6, e2.below hb6, (hs.bel.trans (hb.mono hs.bel.size)).trans (hb6.mono (Nat.le_trans hs.bel.size hb.size))⟩⟩
          clear hS hinv
          go_wp2_with fail
          with_reducible refine Calls.mono (ct w4) ?_
          rintro e w5 ⟨rfl, hb5⟩
          obtain ⟨kd, kb5, ka5, za5, zb5, hf2⟩ := hfin.out w5 hb5
          have cl := list_any zb5 hnb0.out nb1
          clear hfin hb5
          go_wp2_with fail
          with_reducible refine Calls.mono cl ?_
          rintro e w6 ⟨v6, rfl, ho6, hb6⟩
          obtain ⟨ka6, za6, yi6, xi6, s6, t6, bel6⟩ := hf2.out w6 hb6
          have ci := ints_any yi6 ho6.ints
          have hf3 : Hid (∀ k, (w6.drewN k).cell? ⟨ba, 0, none⟩ = some (.slice sa na ca) ∧ Ints (w6.drewN k) (fun k => k < ba) (.slice sa na ca) z0 ∧ Hid (∀ w8, Below (w6.drewN k).heap.size (w6.drewN k) w8 → Ints w8 (fun _ => True) (.slice xs xn xc) (some0 (fun i => z0.getD i 0) 0 na) ∧ IsScan w8 p 1000 na na ∧ IsScan w8 q 5000 nb nb ∧ Below w.heap.size w w8)) := fun k => by
            have hd := below_drewN (Below.refl w6.heap.size w6) k
            exact ⟨ka6, za6.below hd, fun w8 h8 => ⟨(xi6.below hd).below h8, (s6.below hd).below h8, (t6.below hd).below h8, (bel6.trans (hd.mono bel6.size)).trans (h8.mono (Nat.le_trans bel6.size hd.size))⟩⟩
          obtain ⟨l6, hl6⟩ : ∃ l6, (some0 (fun i => z1.getD i 0) 0 nb).length = l6 := ⟨_, rfl⟩
          obtain ⟨sp6, cp6, rfl⟩ := off_slice ho6 hl6
          clear hl6 cl ho6 hb6 hf2 ka6 za6 yi6 xi6 s6 t6 bel6 kd kb5 ka5 za5 zb5
          go_wp2_with fail
          with_reducible refine Calls.mono ci ?_
          rintro e w7 ⟨rfl, k7, rfl⟩
          obtain ⟨ka7, za7, hf4⟩ := hf3.out k7
          clear ci hf3
          generalize w6.drewN k7 = w7 at *
          have cl := list_any za7 hna0.out na1
          go_wp2_with fail
          with_reducible refine Calls.mono cl ?_
          rintro e w8 ⟨v8, rfl, ho8, hb8⟩
          obtain ⟨xi8, s8, t8, bel8⟩ := hf4.out w8 hb8
          have ci := ints_any xi8 ho8.ints
          have hf5 : Hid (∀ k k2, Calls Try.prog 40 #[.pointer (some ⟨p, 0, none⟩)] (w8.drewN k) (Ans (.bool true) (w8.drewN k)) ∧ Calls Try.prog 40 #[.pointer (some ⟨q, 0, none⟩)] (w8.drewN (k + k2)) (Ans (.bool true) (w8.drewN (k + k2))) ∧ ∀ m, Below w.heap.size w (w8.drewN m)) := fun k k2 => by
            have h1 := done_any (by omega) (s8.below (below_drewN (Below.refl _ _) k))
            have h2 := done_any (by omega) (t8.below (below_drewN (Below.refl _ _) (k + k2)))
            rw [decide_eq_true rfl] at h1 h2
            exact ⟨h1, h2, fun m => below_drewN bel8 m⟩
          obtain ⟨l8, hl8⟩ : ∃ l8, (some0 (fun i => z0.getD i 0) 0 na).length = l8 := ⟨_, rfl⟩
          obtain ⟨sp8, cp8, rfl⟩ := off_slice ho8 hl8
          clear hl8 cl ho8 hb8 hf4 xi8 s8 t8 bel8 ka7 za7
          go_wp2_with fail
          with_reducible refine Calls.mono ci ?_
          rintro e w9 ⟨rfl, k9, rfl⟩
          have hd1 := (hf5.out k9 0).1
          clear ci
          go_wp2_with fail
          with_reducible refine Calls.mono hd1 ?_
          rintro e w9 ⟨rfl, k10, rfl⟩
          obtain ⟨_, hd2, hd3⟩ := hf5.out k9 k10
          have hd4 := Lib.hid hd3
          clear hd1 hf5 hd3
          go_wp2_with fail
          with_reducible refine Calls.mono hd2 ?_
          rintro e w9 ⟨rfl, k11, rfl⟩
          clear hd2
          go_wp2_with fail
          go_ret
          exact ⟨rfl, hd4.out _⟩
        · have htb2 := htb
          have cd := done_any (by have := hO.out.lA; omega) hS.out.s
          rw [hna0.out, decide_eq_true hta] at cd
          have hSk : Hid (∀ k, Hid (Sq w lo ba bb bd p q sa ca z0 sb cb z1 (wr.drewN k) ta ta tb tb (.slice xs xn xc) (.slice ys yn yc))) := fun k => hS.out.drewN k
          clear hS
          go_wp2_with fail
          with_reducible refine Calls.mono cd ?_
          rintro e w' ⟨rfl, k, rfl⟩
          have hS := hSk.out k
          clear cd hSk
          generalize wr.drewN k = w3 at *
          have cd := done_any (by have := hO.out.lB; omega) hS.out.t
          rw [hnb0.out, decide_eq_false htb] at cd
          have hSk : Hid (∀ k, Hid (Sq w lo ba bb bd p q sa ca z0 sb cb z1 (w3.drewN k) ta ta tb tb (.slice xs xn xc) (.slice ys yn yc))) := fun k => hS.out.drewN k
          clear hS
          go_wp2_with fail
          with_reducible refine Calls.mono cd ?_
          rintro e w' ⟨rfl, k, rfl⟩
          have hS := hSk.out k
          clear cd hSk
          generalize w3.drewN k = w4 at *
          by_cases hiL : i < L
          · have j1 : (i : Int) < (L : Int) := by omega
            by_cases hi100 : i < 100
            · have j2 : (i : Int) < 100 := by omega
              cases htv : zb2.getD i false with
              | true =>
                obtain ⟨b, off, rfl, k1⟩ := hcT.out w4 hS.out.bel i hiL
                rw [htv] at k1
                obtain ⟨c, hc⟩ : ∃ c, min (nb - tb) 16 = c := ⟨_, rfl⟩
                have hct := hS.out.t.le
                have cs := hS.out.stepQ hO.out (c := c) (by rw [hnb0.out]; exact hc)
                have hinv2 : Hid (i + 1 ≤ 100 ∨ (na - ta + 15) / 16 + (nb - (tb + c) + 15) / 16 + (i + 1) ≤ 114 ∨ (ta = na ∧ tb + c = nb)) := by
                  have h1 := hinv.out
                  have h2 := hS.out.s.le
                  have h3 := hS.out.t.le
                  rw [hna0.out] at h2
                  rw [hnb0.out] at h3
                  show _ ∨ _
                  omega
                have hch := Lib.hid hc
                clear hc hS hct hinv
                go_wp2_with fail
                with_reducible refine Calls.mono cs ?_
                rintro e w5 ⟨s5, n5, c5, rfl, ho5, hS5⟩
                have hsrc := Lib.hid (src_of_ints ho5.ints)
                have hrow := Lib.hid hS5.y
                have hbd : (some0 (fun i => z1.getD i 0) 0 tb).length + (some0 (fun i => z1.getD i 0) tb c).length ≤ 1000000 := by
                  have h1 := some0_len (fun i => z1.getD i 0) 0 tb
                  have h2 := some0_len (fun i => z1.getD i 0) tb c
                  have h3 := hch.out
                  have h4 := hS5.t.le
                  rw [hnb0.out] at h4
                  omega
                have hnx : Hid (∀ (w6 : World) (v6 : Value), OffRow w6 v6 (some0 (fun i => z1.getD i 0) 0 tb ++ some0 (fun i => z1.getD i 0) tb c) → Wrote (fun k => (Value.slice ys yn yc).ownBlock = some k) w5 (fun k => v6.ownBlock = some k) w6 → (∃ s n c, v6 = .slice s n c) ∧ Hid (Sq w lo ba bb bd p q sa ca z0 sb cb z1 w6 ta ta (tb + c) (tb + c) (.slice xs xn xc) v6)) := fun w6 v6 g1 g2 => by
                  obtain ⟨s6, c6, e6⟩ := g1.slice
                  exact ⟨⟨s6, _, c6, e6⟩, hS5.moreY hO.out g1 g2⟩
                clear cs ho5 hS5
                go_wp2_with (at_builtin; refine wpList_append_off rfl (.tmp 69) (.tmp 72) rfl rfl hrow.out rfl rfl hsrc.out hbd ?_; intro v6 w6 g1 g2; have hk := hnx.out w6 v6 g1 g2; obtain ⟨⟨s6, n6, c6, rfl⟩, hS6⟩ := hk; clear g1 g2 hnx hrow hsrc)
                go_roundw
                case rel => exact ⟨xs, xn, xc, s6, n6, c6, i + 1, ta, tb + c, rfl, rfl, by go_num, by omega, hS6, hinv2⟩
                case measure => simp [RowKit.intOf]; omega
              | false =>
                obtain ⟨b, off, rfl, k1⟩ := hcT.out w4 hS.out.bel i hiL
                rw [htv] at k1
                have cd := done_any (by have := hO.out.lA; omega) hS.out.s
                rw [hna0.out, decide_eq_true hta] at cd
                have hSk : Hid (∀ k, Hid (Sq w lo ba bb bd p q sa ca z0 sb cb z1 (w4.drewN k) ta ta tb tb (.slice xs xn xc) (.slice ys yn yc))) := fun k => hS.out.drewN k
                clear hS
                go_wp2_with fail
                with_reducible refine Calls.mono cd ?_
                rintro e w' ⟨rfl, k, rfl⟩
                have hS := hSk.out k
                clear cd hSk
                generalize w4.drewN k = w7 at *
                obtain ⟨c, hc⟩ : ∃ c, min (nb - tb) 16 = c := ⟨_, rfl⟩
                have hct := hS.out.t.le
                have cs := hS.out.stepQ hO.out (c := c) (by rw [hnb0.out]; exact hc)
                have hinv2 : Hid (i + 1 ≤ 100 ∨ (na - ta + 15) / 16 + (nb - (tb + c) + 15) / 16 + (i + 1) ≤ 114 ∨ (ta = na ∧ tb + c = nb)) := by
                  have h1 := hinv.out
                  have h2 := hS.out.s.le
                  have h3 := hS.out.t.le
                  rw [hna0.out] at h2
                  rw [hnb0.out] at h3
                  show _ ∨ _
                  omega
                have hch := Lib.hid hc
                clear hc hS hct hinv
                go_wp2_with fail
                with_reducible refine Calls.mono cs ?_
                rintro e w5 ⟨s5, n5, c5, rfl, ho5, hS5⟩
                have hsrc := Lib.hid (src_of_ints ho5.ints)
                have hrow := Lib.hid hS5.y
                have hbd : (some0 (fun i => z1.getD i 0) 0 tb).length + (some0 (fun i => z1.getD i 0) tb c).length ≤ 1000000 := by
                  have h1 := some0_len (fun i => z1.getD i 0) 0 tb
                  have h2 := some0_len (fun i => z1.getD i 0) tb c
                  have h3 := hch.out
                  have h4 := hS5.t.le
                  rw [hnb0.out] at h4
                  omega
                have hnx : Hid (∀ (w6 : World) (v6 : Value), OffRow w6 v6 (some0 (fun i => z1.getD i 0) 0 tb ++ some0 (fun i => z1.getD i 0) tb c) → Wrote (fun k => (Value.slice ys yn yc).ownBlock = some k) w5 (fun k => v6.ownBlock = some k) w6 → (∃ s n c, v6 = .slice s n c) ∧ Hid (Sq w lo ba bb bd p q sa ca z0 sb cb z1 w6 ta ta (tb + c) (tb + c) (.slice xs xn xc) v6)) := fun w6 v6 g1 g2 => by
                  obtain ⟨s6, c6, e6⟩ := g1.slice
                  exact ⟨⟨s6, _, c6, e6⟩, hS5.moreY hO.out g1 g2⟩
                clear cs ho5 hS5
                go_wp2_with (at_builtin; refine wpList_append_off rfl (.tmp 69) (.tmp 72) rfl rfl hrow.out rfl rfl hsrc.out hbd ?_; intro v6 w6 g1 g2; have hk := hnx.out w6 v6 g1 g2; obtain ⟨⟨s6, n6, c6, rfl⟩, hS6⟩ := hk; clear g1 g2 hnx hrow hsrc)
                go_roundw
                case rel => exact ⟨xs, xn, xc, s6, n6, c6, i + 1, ta, tb + c, rfl, rfl, by go_num, by omega, hS6, hinv2⟩
                case measure => simp [RowKit.intOf]; omega
            · have j2 : ¬ ((i : Int) < 100) := by omega
              have cd := done_any (by have := hO.out.lA; omega) hS.out.s
              rw [hna0.out, decide_eq_true hta] at cd
              have hSk : Hid (∀ k, Hid (Sq w lo ba bb bd p q sa ca z0 sb cb z1 (w4.drewN k) ta ta tb tb (.slice xs xn xc) (.slice ys yn yc))) := fun k => hS.out.drewN k
              clear hS
              go_wp2_with fail
              with_reducible refine Calls.mono cd ?_
              rintro e w' ⟨rfl, k, rfl⟩
              have hS := hSk.out k
              clear cd hSk
              generalize w4.drewN k = w7 at *
              obtain ⟨c, hc⟩ : ∃ c, min (nb - tb) 16 = c := ⟨_, rfl⟩
              have hct := hS.out.t.le
              have cs := hS.out.stepQ hO.out (c := c) (by rw [hnb0.out]; exact hc)
              have hinv2 : Hid (i + 1 ≤ 100 ∨ (na - ta + 15) / 16 + (nb - (tb + c) + 15) / 16 + (i + 1) ≤ 114 ∨ (ta = na ∧ tb + c = nb)) := by
                have h1 := hinv.out
                have h2 := hS.out.s.le
                have h3 := hS.out.t.le
                rw [hna0.out] at h2
                rw [hnb0.out] at h3
                show _ ∨ _
                omega
              have hch := Lib.hid hc
              clear hc hS hct hinv
              go_wp2_with fail
              with_reducible refine Calls.mono cs ?_
              rintro e w5 ⟨s5, n5, c5, rfl, ho5, hS5⟩
              have hsrc := Lib.hid (src_of_ints ho5.ints)
              have hrow := Lib.hid hS5.y
              have hbd : (some0 (fun i => z1.getD i 0) 0 tb).length + (some0 (fun i => z1.getD i 0) tb c).length ≤ 1000000 := by
                have h1 := some0_len (fun i => z1.getD i 0) 0 tb
                have h2 := some0_len (fun i => z1.getD i 0) tb c
                have h3 := hch.out
                have h4 := hS5.t.le
                rw [hnb0.out] at h4
                omega
              have hnx : Hid (∀ (w6 : World) (v6 : Value), OffRow w6 v6 (some0 (fun i => z1.getD i 0) 0 tb ++ some0 (fun i => z1.getD i 0) tb c) → Wrote (fun k => (Value.slice ys yn yc).ownBlock = some k) w5 (fun k => v6.ownBlock = some k) w6 → (∃ s n c, v6 = .slice s n c) ∧ Hid (Sq w lo ba bb bd p q sa ca z0 sb cb z1 w6 ta ta (tb + c) (tb + c) (.slice xs xn xc) v6)) := fun w6 v6 g1 g2 => by
                obtain ⟨s6, c6, e6⟩ := g1.slice
                exact ⟨⟨s6, _, c6, e6⟩, hS5.moreY hO.out g1 g2⟩
              clear cs ho5 hS5
              go_wp2_with (at_builtin; refine wpList_append_off rfl (.tmp 69) (.tmp 72) rfl rfl hrow.out rfl rfl hsrc.out hbd ?_; intro v6 w6 g1 g2; have hk := hnx.out w6 v6 g1 g2; obtain ⟨⟨s6, n6, c6, rfl⟩, hS6⟩ := hk; clear g1 g2 hnx hrow hsrc)
              go_roundw
              case rel => exact ⟨xs, xn, xc, s6, n6, c6, i + 1, ta, tb + c, rfl, rfl, by go_num, by omega, hS6, hinv2⟩
              case measure => simp [RowKit.intOf]; omega
          · have j1 : ¬ ((i : Int) < (L : Int)) := by omega
            have cd := done_any (by have := hO.out.lA; omega) hS.out.s
            rw [hna0.out, decide_eq_true hta] at cd
            have hSk : Hid (∀ k, Hid (Sq w lo ba bb bd p q sa ca z0 sb cb z1 (w4.drewN k) ta ta tb tb (.slice xs xn xc) (.slice ys yn yc))) := fun k => hS.out.drewN k
            clear hS
            go_wp2_with fail
            with_reducible refine Calls.mono cd ?_
            rintro e w' ⟨rfl, k, rfl⟩
            have hS := hSk.out k
            clear cd hSk
            generalize w4.drewN k = w7 at *
            obtain ⟨c, hc⟩ : ∃ c, min (nb - tb) 16 = c := ⟨_, rfl⟩
            have hct := hS.out.t.le
            have cs := hS.out.stepQ hO.out (c := c) (by rw [hnb0.out]; exact hc)
            have hinv2 : Hid (i + 1 ≤ 100 ∨ (na - ta + 15) / 16 + (nb - (tb + c) + 15) / 16 + (i + 1) ≤ 114 ∨ (ta = na ∧ tb + c = nb)) := by
              have h1 := hinv.out
              have h2 := hS.out.s.le
              have h3 := hS.out.t.le
              rw [hna0.out] at h2
              rw [hnb0.out] at h3
              show _ ∨ _
              omega
            have hch := Lib.hid hc
            clear hc hS hct hinv
            go_wp2_with fail
            with_reducible refine Calls.mono cs ?_
            rintro e w5 ⟨s5, n5, c5, rfl, ho5, hS5⟩
            have hsrc := Lib.hid (src_of_ints ho5.ints)
            have hrow := Lib.hid hS5.y
            have hbd : (some0 (fun i => z1.getD i 0) 0 tb).length + (some0 (fun i => z1.getD i 0) tb c).length ≤ 1000000 := by
              have h1 := some0_len (fun i => z1.getD i 0) 0 tb
              have h2 := some0_len (fun i => z1.getD i 0) tb c
              have h3 := hch.out
              have h4 := hS5.t.le
              rw [hnb0.out] at h4
              omega
            have hnx : Hid (∀ (w6 : World) (v6 : Value), OffRow w6 v6 (some0 (fun i => z1.getD i 0) 0 tb ++ some0 (fun i => z1.getD i 0) tb c) → Wrote (fun k => (Value.slice ys yn yc).ownBlock = some k) w5 (fun k => v6.ownBlock = some k) w6 → (∃ s n c, v6 = .slice s n c) ∧ Hid (Sq w lo ba bb bd p q sa ca z0 sb cb z1 w6 ta ta (tb + c) (tb + c) (.slice xs xn xc) v6)) := fun w6 v6 g1 g2 => by
              obtain ⟨s6, c6, e6⟩ := g1.slice
              exact ⟨⟨s6, _, c6, e6⟩, hS5.moreY hO.out g1 g2⟩
            clear cs ho5 hS5
            go_wp2_with (at_builtin; refine wpList_append_off rfl (.tmp 69) (.tmp 72) rfl rfl hrow.out rfl rfl hsrc.out hbd ?_; intro v6 w6 g1 g2; have hk := hnx.out w6 v6 g1 g2; obtain ⟨⟨s6, n6, c6, rfl⟩, hS6⟩ := hk; clear g1 g2 hnx hrow hsrc)
            go_roundw
            case rel => exact ⟨xs, xn, xc, s6, n6, c6, i + 1, ta, tb + c, rfl, rfl, by go_num, by omega, hS6, hinv2⟩
            case measure => simp [RowKit.intOf]; omega
      · have hta2 := hta
        have cd := done_any (by have := hO.out.lA; omega) hS.out.s
        rw [hna0.out, decide_eq_false hta] at cd
        have hSk : Hid (∀ k, Hid (Sq w lo ba bb bd p q sa ca z0 sb cb z1 (wr.drewN k) ta ta tb tb (.slice xs xn xc) (.slice ys yn yc))) := fun k => hS.out.drewN k
        clear hS
        go_wp2_with fail
        with_reducible refine Calls.mono cd ?_
        rintro e w' ⟨rfl, k, rfl⟩
        have hS := hSk.out k
        clear cd hSk
        generalize wr.drewN k = w3 at *
        by_cases hiL : i < L
        · have j1 : (i : Int) < (L : Int) := by omega
          by_cases hi100 : i < 100
          · have j2 : (i : Int) < 100 := by omega
            cases htv : zb2.getD i false with
            | true =>
              obtain ⟨b, off, rfl, k1⟩ := hcT.out w3 hS.out.bel i hiL
              rw [htv] at k1
              obtain ⟨c, hc⟩ : ∃ c, min (nb - tb) 16 = c := ⟨_, rfl⟩
              have hct := hS.out.t.le
              have cs := hS.out.stepQ hO.out (c := c) (by rw [hnb0.out]; exact hc)
              have hinv2 : Hid (i + 1 ≤ 100 ∨ (na - ta + 15) / 16 + (nb - (tb + c) + 15) / 16 + (i + 1) ≤ 114 ∨ (ta = na ∧ tb + c = nb)) := by
                have h1 := hinv.out
                have h2 := hS.out.s.le
                have h3 := hS.out.t.le
                rw [hna0.out] at h2
                rw [hnb0.out] at h3
                show _ ∨ _
                omega
              have hch := Lib.hid hc
              clear hc hS hct hinv
              go_wp2_with fail
              with_reducible refine Calls.mono cs ?_
              rintro e w5 ⟨s5, n5, c5, rfl, ho5, hS5⟩
              have hsrc := Lib.hid (src_of_ints ho5.ints)
              have hrow := Lib.hid hS5.y
              have hbd : (some0 (fun i => z1.getD i 0) 0 tb).length + (some0 (fun i => z1.getD i 0) tb c).length ≤ 1000000 := by
                have h1 := some0_len (fun i => z1.getD i 0) 0 tb
                have h2 := some0_len (fun i => z1.getD i 0) tb c
                have h3 := hch.out
                have h4 := hS5.t.le
                rw [hnb0.out] at h4
                omega
              have hnx : Hid (∀ (w6 : World) (v6 : Value), OffRow w6 v6 (some0 (fun i => z1.getD i 0) 0 tb ++ some0 (fun i => z1.getD i 0) tb c) → Wrote (fun k => (Value.slice ys yn yc).ownBlock = some k) w5 (fun k => v6.ownBlock = some k) w6 → (∃ s n c, v6 = .slice s n c) ∧ Hid (Sq w lo ba bb bd p q sa ca z0 sb cb z1 w6 ta ta (tb + c) (tb + c) (.slice xs xn xc) v6)) := fun w6 v6 g1 g2 => by
                obtain ⟨s6, c6, e6⟩ := g1.slice
                exact ⟨⟨s6, _, c6, e6⟩, hS5.moreY hO.out g1 g2⟩
              clear cs ho5 hS5
              go_wp2_with (at_builtin; refine wpList_append_off rfl (.tmp 69) (.tmp 72) rfl rfl hrow.out rfl rfl hsrc.out hbd ?_; intro v6 w6 g1 g2; have hk := hnx.out w6 v6 g1 g2; obtain ⟨⟨s6, n6, c6, rfl⟩, hS6⟩ := hk; clear g1 g2 hnx hrow hsrc)
              go_roundw
              case rel => exact ⟨xs, xn, xc, s6, n6, c6, i + 1, ta, tb + c, rfl, rfl, by go_num, by omega, hS6, hinv2⟩
              case measure => simp [RowKit.intOf]; omega
            | false =>
              obtain ⟨b, off, rfl, k1⟩ := hcT.out w3 hS.out.bel i hiL
              rw [htv] at k1
              have cd := done_any (by have := hO.out.lA; omega) hS.out.s
              rw [hna0.out, decide_eq_false hta] at cd
              have hSk : Hid (∀ k, Hid (Sq w lo ba bb bd p q sa ca z0 sb cb z1 (w3.drewN k) ta ta tb tb (.slice xs xn xc) (.slice ys yn yc))) := fun k => hS.out.drewN k
              clear hS
              go_wp2_with fail
              with_reducible refine Calls.mono cd ?_
              rintro e w' ⟨rfl, k, rfl⟩
              have hS := hSk.out k
              clear cd hSk
              generalize w3.drewN k = w7 at *
              obtain ⟨c, hc⟩ : ∃ c, min (na - ta) 16 = c := ⟨_, rfl⟩
              have hct := hS.out.s.le
              have cs := hS.out.stepP hO.out (c := c) (by rw [hna0.out]; exact hc)
              have hinv2 : Hid (i + 1 ≤ 100 ∨ (na - (ta + c) + 15) / 16 + (nb - tb + 15) / 16 + (i + 1) ≤ 114 ∨ (ta + c = na ∧ tb = nb)) := by
                have h1 := hinv.out
                have h2 := hS.out.s.le
                have h3 := hS.out.t.le
                rw [hna0.out] at h2
                rw [hnb0.out] at h3
                show _ ∨ _
                omega
              have hch := Lib.hid hc
              clear hc hS hct hinv
              go_wp2_with fail
              with_reducible refine Calls.mono cs ?_
              rintro e w5 ⟨s5, n5, c5, rfl, ho5, hS5⟩
              have hsrc := Lib.hid (src_of_ints ho5.ints)
              have hrow := Lib.hid hS5.x
              have hbd : (some0 (fun i => z0.getD i 0) 0 ta).length + (some0 (fun i => z0.getD i 0) ta c).length ≤ 1000000 := by
                have h1 := some0_len (fun i => z0.getD i 0) 0 ta
                have h2 := some0_len (fun i => z0.getD i 0) ta c
                have h3 := hch.out
                have h4 := hS5.s.le
                rw [hna0.out] at h4
                omega
              have hnx : Hid (∀ (w6 : World) (v6 : Value), OffRow w6 v6 (some0 (fun i => z0.getD i 0) 0 ta ++ some0 (fun i => z0.getD i 0) ta c) → Wrote (fun k => (Value.slice xs xn xc).ownBlock = some k) w5 (fun k => v6.ownBlock = some k) w6 → (∃ s n c, v6 = .slice s n c) ∧ Hid (Sq w lo ba bb bd p q sa ca z0 sb cb z1 w6 (ta + c) (ta + c) tb tb v6 (.slice ys yn yc))) := fun w6 v6 g1 g2 => by
                obtain ⟨s6, c6, e6⟩ := g1.slice
                exact ⟨⟨s6, _, c6, e6⟩, hS5.moreX hO.out g1 g2⟩
              clear cs ho5 hS5
              go_wp2_with (at_builtin; refine wpList_append_off rfl (.tmp 74) (.tmp 77) rfl rfl hrow.out rfl rfl hsrc.out hbd ?_; intro v6 w6 g1 g2; have hk := hnx.out w6 v6 g1 g2; obtain ⟨⟨s6, n6, c6, rfl⟩, hS6⟩ := hk; clear g1 g2 hnx hrow hsrc)
              go_roundw
              case rel => exact ⟨s6, n6, c6, ys, yn, yc, i + 1, ta + c, tb, rfl, rfl, by go_num, by omega, hS6, hinv2⟩
              case measure => simp [RowKit.intOf]; omega
          · have j2 : ¬ ((i : Int) < 100) := by omega
            have cd := done_any (by have := hO.out.lA; omega) hS.out.s
            rw [hna0.out, decide_eq_false hta] at cd
            have hSk : Hid (∀ k, Hid (Sq w lo ba bb bd p q sa ca z0 sb cb z1 (w3.drewN k) ta ta tb tb (.slice xs xn xc) (.slice ys yn yc))) := fun k => hS.out.drewN k
            clear hS
            go_wp2_with fail
            with_reducible refine Calls.mono cd ?_
            rintro e w' ⟨rfl, k, rfl⟩
            have hS := hSk.out k
            clear cd hSk
            generalize w3.drewN k = w7 at *
            obtain ⟨c, hc⟩ : ∃ c, min (na - ta) 16 = c := ⟨_, rfl⟩
            have hct := hS.out.s.le
            have cs := hS.out.stepP hO.out (c := c) (by rw [hna0.out]; exact hc)
            have hinv2 : Hid (i + 1 ≤ 100 ∨ (na - (ta + c) + 15) / 16 + (nb - tb + 15) / 16 + (i + 1) ≤ 114 ∨ (ta + c = na ∧ tb = nb)) := by
              have h1 := hinv.out
              have h2 := hS.out.s.le
              have h3 := hS.out.t.le
              rw [hna0.out] at h2
              rw [hnb0.out] at h3
              show _ ∨ _
              omega
            have hch := Lib.hid hc
            clear hc hS hct hinv
            go_wp2_with fail
            with_reducible refine Calls.mono cs ?_
            rintro e w5 ⟨s5, n5, c5, rfl, ho5, hS5⟩
            have hsrc := Lib.hid (src_of_ints ho5.ints)
            have hrow := Lib.hid hS5.x
            have hbd : (some0 (fun i => z0.getD i 0) 0 ta).length + (some0 (fun i => z0.getD i 0) ta c).length ≤ 1000000 := by
              have h1 := some0_len (fun i => z0.getD i 0) 0 ta
              have h2 := some0_len (fun i => z0.getD i 0) ta c
              have h3 := hch.out
              have h4 := hS5.s.le
              rw [hna0.out] at h4
              omega
            have hnx : Hid (∀ (w6 : World) (v6 : Value), OffRow w6 v6 (some0 (fun i => z0.getD i 0) 0 ta ++ some0 (fun i => z0.getD i 0) ta c) → Wrote (fun k => (Value.slice xs xn xc).ownBlock = some k) w5 (fun k => v6.ownBlock = some k) w6 → (∃ s n c, v6 = .slice s n c) ∧ Hid (Sq w lo ba bb bd p q sa ca z0 sb cb z1 w6 (ta + c) (ta + c) tb tb v6 (.slice ys yn yc))) := fun w6 v6 g1 g2 => by
              obtain ⟨s6, c6, e6⟩ := g1.slice
              exact ⟨⟨s6, _, c6, e6⟩, hS5.moreX hO.out g1 g2⟩
            clear cs ho5 hS5
            go_wp2_with (at_builtin; refine wpList_append_off rfl (.tmp 74) (.tmp 77) rfl rfl hrow.out rfl rfl hsrc.out hbd ?_; intro v6 w6 g1 g2; have hk := hnx.out w6 v6 g1 g2; obtain ⟨⟨s6, n6, c6, rfl⟩, hS6⟩ := hk; clear g1 g2 hnx hrow hsrc)
            go_roundw
            case rel => exact ⟨s6, n6, c6, ys, yn, yc, i + 1, ta + c, tb, rfl, rfl, by go_num, by omega, hS6, hinv2⟩
            case measure => simp [RowKit.intOf]; omega
        · have j1 : ¬ ((i : Int) < (L : Int)) := by omega
          have cd := done_any (by have := hO.out.lA; omega) hS.out.s
          rw [hna0.out, decide_eq_false hta] at cd
          have hSk : Hid (∀ k, Hid (Sq w lo ba bb bd p q sa ca z0 sb cb z1 (w3.drewN k) ta ta tb tb (.slice xs xn xc) (.slice ys yn yc))) := fun k => hS.out.drewN k
          clear hS
          go_wp2_with fail
          with_reducible refine Calls.mono cd ?_
          rintro e w' ⟨rfl, k, rfl⟩
          have hS := hSk.out k
          clear cd hSk
          generalize w3.drewN k = w7 at *
          obtain ⟨c, hc⟩ : ∃ c, min (na - ta) 16 = c := ⟨_, rfl⟩
          have hct := hS.out.s.le
          have cs := hS.out.stepP hO.out (c := c) (by rw [hna0.out]; exact hc)
          have hinv2 : Hid (i + 1 ≤ 100 ∨ (na - (ta + c) + 15) / 16 + (nb - tb + 15) / 16 + (i + 1) ≤ 114 ∨ (ta + c = na ∧ tb = nb)) := by
            have h1 := hinv.out
            have h2 := hS.out.s.le
            have h3 := hS.out.t.le
            rw [hna0.out] at h2
            rw [hnb0.out] at h3
            show _ ∨ _
            omega
          have hch := Lib.hid hc
          clear hc hS hct hinv
          go_wp2_with fail
          with_reducible refine Calls.mono cs ?_
          rintro e w5 ⟨s5, n5, c5, rfl, ho5, hS5⟩
          have hsrc := Lib.hid (src_of_ints ho5.ints)
          have hrow := Lib.hid hS5.x
          have hbd : (some0 (fun i => z0.getD i 0) 0 ta).length + (some0 (fun i => z0.getD i 0) ta c).length ≤ 1000000 := by
            have h1 := some0_len (fun i => z0.getD i 0) 0 ta
            have h2 := some0_len (fun i => z0.getD i 0) ta c
            have h3 := hch.out
            have h4 := hS5.s.le
            rw [hna0.out] at h4
            omega
          have hnx : Hid (∀ (w6 : World) (v6 : Value), OffRow w6 v6 (some0 (fun i => z0.getD i 0) 0 ta ++ some0 (fun i => z0.getD i 0) ta c) → Wrote (fun k => (Value.slice xs xn xc).ownBlock = some k) w5 (fun k => v6.ownBlock = some k) w6 → (∃ s n c, v6 = .slice s n c) ∧ Hid (Sq w lo ba bb bd p q sa ca z0 sb cb z1 w6 (ta + c) (ta + c) tb tb v6 (.slice ys yn yc))) := fun w6 v6 g1 g2 => by
            obtain ⟨s6, c6, e6⟩ := g1.slice
            exact ⟨⟨s6, _, c6, e6⟩, hS5.moreX hO.out g1 g2⟩
          clear cs ho5 hS5
          go_wp2_with (at_builtin; refine wpList_append_off rfl (.tmp 74) (.tmp 77) rfl rfl hrow.out rfl rfl hsrc.out hbd ?_; intro v6 w6 g1 g2; have hk := hnx.out w6 v6 g1 g2; obtain ⟨⟨s6, n6, c6, rfl⟩, hS6⟩ := hk; clear g1 g2 hnx hrow hsrc)
          go_roundw
          case rel => exact ⟨s6, n6, c6, ys, yn, yc, i + 1, ta + c, tb, rfl, rfl, by go_num, by omega, hS6, hinv2⟩
          case measure => simp [RowKit.intOf]; omega
    · have i2 : ¬ ((i : Int) < 200) := by omega
      obtain ⟨hta, htb⟩ : ta = na ∧ tb = nb := by have := hinv.out; omega
      have hfin : Hid (∀ w5, Below wr.heap.size wr w5 → w5.cell? ⟨bd, 0, none⟩ = some (.bool false) ∧ w5.cell? ⟨bb, 0, none⟩ = some (.slice sb nb cb) ∧ w5.cell? ⟨ba, 0, none⟩ = some (.slice sa na ca) ∧ Ints w5 (fun k => k < ba) (.slice sa na ca) z0 ∧ Ints w5 (fun k => k < ba) (.slice sb nb cb) z1 ∧ Hid (∀ w6, Below w5.heap.size w5 w6 → w6.cell? ⟨ba, 0, none⟩ = some (.slice sa na ca) ∧ Ints w6 (fun k => k < ba) (.slice sa na ca) z0 ∧ Ints w6 (fun _ => True) (.slice ys yn yc) (some0 (fun i => z1.getD i 0) 0 nb) ∧ Ints w6 (fun _ => True) (.slice xs xn xc) (some0 (fun i => z0.getD i 0) 0 na) ∧ IsScan w6 p 1000 na na ∧ IsScan w6 q 5000 nb nb ∧ Below w.heap.size w w6)) := fun w5 hb => by
        have hs := hS.out
        rw [hta, htb] at hs
        have y0 := hs.y0.wrote (H := fun _ => False) (Wrote.of_below hb) (fun h => h) (fun h => h) (fun h => h) (fun _ _ h => h)
        have za := y0.za
        have zb := y0.zb
        have k1 : w5.cell? ⟨bb, 0, none⟩ = some (.slice sb z1.length cb) := cell_of y0.b rfl
        have k2 : w5.cell? ⟨ba, 0, none⟩ = some (.slice sa z0.length ca) := cell_of y0.a rfl
        have e1 := hs.s.below hb
        have e2 := hs.t.below hb
        rw [hna0.out] at za k2 e1
        rw [hnb0.out] at zb k1 e2
        refine ⟨cell_of y0.d rfl, k1, k2, za, zb, fun w6 hb6 => ⟨cell_then hb6 k2, za.below hb6, ((hs.y.ints.below hb).below hb6).wider (fun _ _ _ => trivial), ((hs.x.ints.below hb).below hb6).wider (fun _ _ _ => trivial), e1.below hb6, e2.below hb6, (hs.bel.trans (hb.mono hs.bel.size)).trans (hb6.mono (Nat.le_trans hs.bel.size hb.size))⟩⟩
      clear hS hinv
      go_wp2_with fail
      with_reducible refine Calls.mono (ct wr) ?_
      rintro e w5 ⟨rfl, hb5⟩
      obtain ⟨kd, kb5, ka5, za5, zb5, hf2⟩ := hfin.out w5 hb5
      have cl := list_any zb5 hnb0.out nb1
      clear hfin hb5
      go_wp2_with fail
      with_reducible refine Calls.mono cl ?_
      rintro e w6 ⟨v6, rfl, ho6, hb6⟩
      obtain ⟨ka6, za6, yi6, xi6, s6, t6, bel6⟩ := hf2.out w6 hb6
      have ci := ints_any yi6 ho6.ints
      have hf3 : Hid (∀ k, (w6.drewN k).cell? ⟨ba, 0, none⟩ = some (.slice sa na ca) ∧ Ints (w6.drewN k) (fun k => k < ba) (.slice sa na ca) z0 ∧ Hid (∀ w8, Below (w6.drewN k).heap.size (w6.drewN k) w8 → Ints w8 (fun _ => True) (.slice xs xn xc) (some0 (fun i => z0.getD i 0) 0 na) ∧ IsScan w8 p 1000 na na ∧ IsScan w8 q 5000 nb nb ∧ Below w.heap.size w w8)) := fun k => by
        have hd := below_drewN (Below.refl w6.heap.size w6) k
        exact ⟨ka6, za6.below hd, fun w8 h8 => ⟨(xi6.below hd).below h8, (s6.below hd).below h8, (t6.below hd).below h8, (bel6.trans (hd.mono bel6.size)).trans (h8.mono (Nat.le_trans bel6.size hd.size))⟩⟩
      obtain ⟨l6, hl6⟩ : ∃ l6, (some0 (fun i => z1.getD i 0) 0 nb).length = l6 := ⟨_, rfl⟩
      obtain ⟨sp6, cp6, rfl⟩ := off_slice ho6 hl6
      clear hl6 cl ho6 hb6 hf2 ka6 za6 yi6 xi6 s6 t6 bel6 kd kb5 ka5 za5 zb5
      go_wp2_with fail
      with_reducible refine Calls.mono ci ?_
      rintro e w7 ⟨rfl, k7, rfl⟩
      obtain ⟨ka7, za7, hf4⟩ := hf3.out k7
      clear ci hf3
      generalize w6.drewN k7 = w7 at *
      have cl := list_any za7 hna0.out na1
      go_wp2_with fail
      with_reducible refine Calls.mono cl ?_
      rintro e w8 ⟨v8, rfl, ho8, hb8⟩
      obtain ⟨xi8, s8, t8, bel8⟩ := hf4.out w8 hb8
      have ci := ints_any xi8 ho8.ints
      have hf5 : Hid (∀ k k2, Calls Try.prog 40 #[.pointer (some ⟨p, 0, none⟩)] (w8.drewN k) (Ans (.bool true) (w8.drewN k)) ∧ Calls Try.prog 40 #[.pointer (some ⟨q, 0, none⟩)] (w8.drewN (k + k2)) (Ans (.bool true) (w8.drewN (k + k2))) ∧ ∀ m, Below w.heap.size w (w8.drewN m)) := fun k k2 => by
        have h1 := done_any (by omega) (s8.below (below_drewN (Below.refl _ _) k))
        have h2 := done_any (by omega) (t8.below (below_drewN (Below.refl _ _) (k + k2)))
        rw [decide_eq_true rfl] at h1 h2
        exact ⟨h1, h2, fun m => below_drewN bel8 m⟩
      obtain ⟨l8, hl8⟩ : ∃ l8, (some0 (fun i => z0.getD i 0) 0 na).length = l8 := ⟨_, rfl⟩
      obtain ⟨sp8, cp8, rfl⟩ := off_slice ho8 hl8
      clear hl8 cl ho8 hb8 hf4 xi8 s8 t8 bel8 ka7 za7
      go_wp2_with fail
      with_reducible refine Calls.mono ci ?_
      rintro e w9 ⟨rfl, k9, rfl⟩
      have hd1 := (hf5.out k9 0).1
      clear ci
      go_wp2_with fail
      with_reducible refine Calls.mono hd1 ?_
      rintro e w9 ⟨rfl, k10, rfl⟩
      obtain ⟨_, hd2, hd3⟩ := hf5.out k9 k10
      have hd4 := Lib.hid hd3
      clear hd1 hf5 hd3
      go_wp2_with fail
      with_reducible refine Calls.mono hd2 ?_
      rintro e w9 ⟨rfl, k11, rfl⟩
      clear hd2
      go_wp2_with fail
      go_ret
      exact ⟨rfl, hd4.out _⟩

set_option maxRecDepth 100000 in
theorem lifted (os : Os) (started : os.Started) (H : Type) (enc : TypeId × Value → H) :
    ReturnsInHanded {} Try.checked os 11 .any (Rows.scanApartSpec.pre6 enc Try.prog Try.f11 Rows.scanApartRow.domain false) (Rows.scanApartSpec.post enc Try.prog Try.f11 false true false false) := by
  refine returnsInHanded_of_change (C := Try.checked) own started (by kernel_rfl) Try.func11
    (ChangeSpec.witness6 (enc := enc) (C := Try.checked) false ⟨#[], #[.slice none 0 0, .slice none 0 0, .slice none 0 0], []⟩ 8 (by kernel_rfl) (by kernel_rfl) (by kernel_rfl) (by kernel_rfl)) ?_
  intro W base args ds gs before hval0 hW hcnd _
  have hval : ∀ (j : Nat) t v, Try.f11.params[j]? = some t → args[j]? = some v → Value.okWide Try.prog W .any base t v := hval0
  have hW' := hW
  obtain ⟨p, q, hA0, hV, rfl, hfz, hnd⟩ := hW
  have hA : DataW.TrodAll enc Try.prog W 0 (fun _ => true) true Try.f11.params.toList args.toList ds p := hA0
  rw [Try.params11] at hA hval
  obtain ⟨v0, vs0, d0, ds0, p0, q0, hargs, rfl, rfl, h0, r0⟩ := trodAll_cons hA
  obtain ⟨v1, vs1, d1, ds1, p1, q1, rfl, rfl, rfl, h1, r1⟩ := trodAll_cons r0
  obtain ⟨v2, vs2, d2, ds2, p2, q2, rfl, rfl, rfl, h2, r2⟩ := trodAll_cons r1
  obtain ⟨rfl, rfl, rfl⟩ := trodAll_nil r2
  obtain rfl : args = #[v0, v1, v2] := by cases args; simp_all
  obtain ⟨rfl, rfl⟩ := trodVars_none hV
  obtain ⟨z0, i0⟩ := arg_ints (hval 0 26 v0 rfl rfl) h0
  obtain ⟨z1, i1⟩ := arg_ints (hval 1 26 v1 rfl rfl) h1
  obtain ⟨zb2, i2⟩ := bools_arg (hval 2 44 v2 rfl rfl) h2
  clear hA0 hval0
  simp only [List.append_nil] at hW'
  have lt0 : ∀ x ∈ p0, x.block < W.heap.size := fun x hx => by have := hW'.lt x (by simp [hx]); simpa using this
  have lt1 : ∀ x ∈ p1, x.block < W.heap.size := fun x hx => by have := hW'.lt x (by simp [hx]); simpa using this
  have lt2 : ∀ x ∈ p2, x.block < W.heap.size := fun x hx => by have := hW'.lt x (by simp [hx]); simpa using this
  refine (walk v0 z0 v1 z1 v2 zb2 W i0 i1 i2).mono fun e W' ⟨he, hg⟩ => ?_
  subst he
  exact ⟨_, rfl, post_of_kept (pa := _) (pv := []) hW' (fun _ _ _ => (trodAll_cons_mk (shut_bool Try.underlying4 _) trodAll_mk0)) (trodAll_cons_mk (Below.trod laidOut (by kernel_rfl) (of_decide_eq_true (by kernel_rfl)) h0 hg lt0) (trodAll_cons_mk (Below.trod laidOut (by kernel_rfl) (of_decide_eq_true (by kernel_rfl)) h1 hg lt1) (trodAll_cons_mk (Below.trod laidOut (by kernel_rfl) (of_decide_eq_true (by kernel_rfl)) h2 hg lt2) trodAll_mk0))) (fun _ _ => rfl) (by simp) hg⟩

theorem over : Rows.scanApartRow.holds Try.pinned (OpenSpec.ofChange Rows.scanApartSpec) :=
  OpenClaim.holds_of_wide 11 Try.f11 rfl rfl rfl rfl rfl rfl rfl ⟨rfl, rfl, rfl, rfl, rfl⟩ rfl rfl rfl rfl rfl (by kernel_rfl) Try.func11 (by kernel_rfl)
    (of_decide_eq_true (by kernel_rfl)) (by unfold Func.isWrapper; first | (rw [if_pos (by decide +kernel)]; kernel_rfl) | (rw [if_neg (by decide +kernel)]; exact ⟨rfl, rfl⟩))
    (fun os started H enc _ => lifted os started H enc)

theorem proved : Rows.ScanApartSaid :=
  over
#print axioms proved
end Go.Proofs.Ytgmcimhlkccfdaa.scanApart
