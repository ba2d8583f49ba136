/- Spans in common: a law's session without its blocks; what the laws of layer 8 ask of a few. -/
import Derived.Test.YtejijddhmckgiaaCenLaw
namespace Go.Proofs.Ytejijddhmckgiaa
open Go.RowKit Go.Lib Fx Ho Rw Mp
set_option linter.unusedVariables false
namespace Ce
variable {w w' W W' W0 : World} {p n n' k : Nat} {Q Q' : Rows} {H H' K : Home} {x y i : Int} {P S : List Int}
def Cx (W0 W : World) (p n : Nat) (Q : Rows) : Prop := ∃ K, Cc K W0 W p n Q
def Xs (v : Value) (W0 : World) (p n' : Nat) (Q' : Rows) (e : Ending) (W' : World) : Prop := e = .returned v ∧ Cx W0 W' p n' Q'
theorem xs_of {v : Value} {e : Ending} (h : CStep K v W0 W p n' Q' e W') : Xs v W0 p n' Q' e W' := ⟨h.1, _, h.2.2⟩
namespace Cx
theorem bel (h : Cx W0 W p n Q) : Below W0.heap.size W0 W := by obtain ⟨_, h⟩ := h; exact h.bel
theorem apart (h : Cx W0 W p n Q) : Apart Q := by obtain ⟨_, h⟩ := h; exact h.apart
theorem below (h : Cx W0 W p n Q) (hb : Below W.heap.size W W') : Cx W0 W' p n Q := by obtain ⟨K, h⟩ := h; exact ⟨K, h.below hb⟩
end Cx
theorem x_new (W : World) : Calls Try.prog 19 #[] W fun e W' => ∃ p, e = .returned (.pointer (some ⟨p, 0, none⟩)) ∧ Cx W W' p 0 (fun _ => []) :=
  (c_new W).mono fun e W' ⟨p, he, _, hc⟩ => ⟨p, he, _, hc⟩
theorem x_put (h : Cx W0 W p n Q) (hn : n ≤ 1000000) (hk : k < 16) (hx : (Lit.int .i64 x).wf = true) (b : Bool) : Calls Try.prog 20 #[.pointer (some ⟨p, 0, none⟩), .int .i64 k, .int .i64 x, .bool b] W (Xs (.tuple #[]) W0 p (n + 1) (putQ Q (k * 4 + cond b 1 0) x)) := by
  obtain ⟨K, h⟩ := h
  exact (c_put h hn hk hx b).mono fun _ _ h => xs_of h
theorem x_del (h : Cx W0 W p n Q) (hn : n ≤ 1000000) (hx : (Lit.int .i64 x).wf = true) : Calls Try.prog 22 #[.pointer (some ⟨p, 0, none⟩), .int .i64 x] W (Xs (.bool (inQ Q x)) W0 p n (delQ Q x)) := by
  obtain ⟨K, h⟩ := h
  exact (c_del h hn hx).mono fun _ _ h => xs_of h
theorem x_begin (h : Cx W0 W p n Q) (hn : n + msum Q 32 ≤ 1000000) : Calls Try.prog 21 #[.pointer (some ⟨p, 0, none⟩)] W (Xs (.tuple #[]) W0 p (n + msum Q 32) (begQ Q)) := by
  obtain ⟨K, h⟩ := h
  exact (c_begin h hn).mono fun _ _ h => xs_of h
theorem x_uns (h : Cx W0 W p n Q) (hn : n ≤ 1000000) : Calls Try.prog 23 #[.pointer (some ⟨p, 0, none⟩)] W (Still (.int .i64 (uns Q 32)) W) := by
  obtain ⟨K, h⟩ := h
  exact c_uns h hn
theorem x_take (h : Cx W0 W p n Q) (hn : n ≤ 1000000) (hk : k < 16) {x : Int} {b c : Bool} {Q' : Rows} (ha : takeA Q k = (x, b, c)) (hq : takeQ Q k = Q') : Calls Try.prog 24 #[.pointer (some ⟨p, 0, none⟩), .int .i64 k] W (Xs (.tuple #[.int .i64 x, .bool b, .bool c]) W0 p n Q') := by
  obtain ⟨K, h⟩ := h
  have ct := c_take h hn hk
  rw [ha, hq] at ct
  exact ct.mono fun _ _ h => xs_of h
theorem x_takef (h : Cx W0 W p n Q) (hn : n ≤ 1000000) (hk : k < 16) {x : Int} {c : Bool} {Q' : Rows} (ha : takeFA Q k = (x, c)) (hq : takeFQ Q k = Q') : Calls Try.prog 27 #[.pointer (some ⟨p, 0, none⟩), .int .i64 k] W (Xs (.tuple #[.int .i64 x, .bool c]) W0 p n Q') := by
  obtain ⟨K, h⟩ := h
  have ct := c_takef h hn hk
  rw [ha, hq] at ct
  exact ct.mono fun _ _ h => xs_of h
def t1 : Rows := putQ (fun _ => []) 0 7
def t2 : Rows := putQ t1 1 8
def t3 : Rows := begQ t2
def t4 : Rows := takeQ t3 0
set_option maxRecDepth 100000 in
set_option maxHeartbeats 1000000 in
theorem told_any (w : World) : Calls Try.prog 25 #[] w fun e w' => e = .returned (.bool true) ∧ Below w.heap.size w w' := by
  have cn := x_new w
  have e2 : msum t2 32 = 2 := by decide +kernel
  have e3 : uns t3 32 = 2 := by decide +kernel
  have e4 : takeA t3 0 = (7, true, true) := by decide +kernel
  have e5 : takeA t4 1 = (0, false, false) := by decide +kernel
  have e6 : takeFA (takeQ t4 1) 0 = (8, true) := by decide +kernel
  have c1 : Hid (∀ p w1, Cx w w1 p 0 (fun _ => []) → Calls Try.prog 20 #[.pointer (some ⟨p, 0, none⟩), .int .i64 0, .int .i64 7, .bool false] w1 (Xs (.tuple #[]) w p 1 t1)) := Lib.hid fun p w1 h => x_put (k := 0) h (by omega) (by omega) (by decide) false
  have c2 : Hid (∀ p w1, Cx w w1 p 1 t1 → Calls Try.prog 20 #[.pointer (some ⟨p, 0, none⟩), .int .i64 0, .int .i64 8, .bool true] w1 (Xs (.tuple #[]) w p 2 t2)) := Lib.hid fun p w1 h => x_put (k := 0) h (by omega) (by omega) (by decide) true
  have c3 : Hid (∀ p w1, Cx w w1 p 2 t2 → Calls Try.prog 21 #[.pointer (some ⟨p, 0, none⟩)] w1 (Xs (.tuple #[]) w p 4 t3)) := Lib.hid fun p w1 h => by
    have := x_begin h (by omega)
    rw [e2] at this; exact this
  have c4 : Hid (∀ p w1, Cx w w1 p 4 t3 → Calls Try.prog 23 #[.pointer (some ⟨p, 0, none⟩)] w1 (Still (.int .i64 2) w1)) := Lib.hid fun p w1 h => by
    have := x_uns h (by omega)
    rw [e3] at this; exact this
  have c5 : Hid (∀ p w1, Cx w w1 p 4 t3 → Calls Try.prog 24 #[.pointer (some ⟨p, 0, none⟩), .int .i64 0] w1 (Xs (.tuple #[.int .i64 7, .bool true, .bool true]) w p 4 t4)) := Lib.hid fun p w1 h => x_take (k := 0) h (by omega) (by omega) e4 rfl
  have c6 : Hid (∀ p w1, Cx w w1 p 4 t4 → Calls Try.prog 24 #[.pointer (some ⟨p, 0, none⟩), .int .i64 1] w1 (Xs (.tuple #[.int .i64 0, .bool false, .bool false]) w p 4 (takeQ t4 1))) := Lib.hid fun p w1 h => x_take (k := 1) h (by omega) (by omega) e5 rfl
  have c7 : Hid (∀ p w1, Cx w w1 p 4 (takeQ t4 1) → Calls Try.prog 27 #[.pointer (some ⟨p, 0, none⟩), .int .i64 0] w1 (Xs (.tuple #[.int .i64 8, .bool true]) w p 4 (takeFQ (takeQ t4 1) 0))) := Lib.hid fun p w1 h => x_takef (k := 0) h (by omega) (by omega) e6 rfl
  clear e2 e3 e4 e5 e6
  generalize takeFQ (takeQ t4 1) 0 = t6 at *
  generalize takeQ t4 1 = t5 at *
  go_enter Try.func25, Try.ntmps25
  go_wp2_with fail
  with_reducible refine Calls.mono cn ?_
  rintro e w1 ⟨p, rfl, h1⟩
  have d1 := c1.out _ _ h1
  clear cn c1 h1
  go_wp2_with fail
  with_reducible refine Calls.mono d1 ?_
  rintro e w2 ⟨rfl, h2⟩
  have d2 := c2.out _ _ h2
  clear d1 c2 h2
  go_wp2_with fail
  with_reducible refine Calls.mono d2 ?_
  rintro e w3 ⟨rfl, h3⟩
  have d3 := c3.out _ _ h3
  clear d2 c3 h3
  go_wp2_with fail
  with_reducible refine Calls.mono d3 ?_
  rintro e w4 ⟨rfl, h4⟩
  have d4 := c4.out _ _ h4
  have d5 := c5.out _ _ h4
  clear d3 c4 h4 c5
  go_wp2_with fail
  with_reducible refine Calls.mono d4 ?_
  rintro e w5 ⟨rfl, e5⟩
  subst e5
  clear d4
  go_wp2_with fail
  with_reducible refine Calls.mono d5 ?_
  rintro e w5 ⟨rfl, h5⟩
  have d6 := c6.out _ _ h5
  clear d5 c6 h5
  go_wp2_with fail
  with_reducible refine Calls.mono d6 ?_
  rintro e w6 ⟨rfl, h6⟩
  have d7 := c7.out _ _ h6
  clear d6 c7 h6
  go_wp2_with fail
  with_reducible refine Calls.mono d7 ?_
  rintro e w7 ⟨rfl, h7⟩
  have hb := h7.bel
  clear d7 h7
  go_wp2_with fail
  go_ret
  exact ⟨rfl, hb⟩
end Ce
end Go.Proofs.Ytejijddhmckgiaa
