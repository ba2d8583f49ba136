/- A statement's phases, call by call; what the calls answer of none; the few answers which every statement of the layer asks for. -/
import Derived.Test.YtikpoldmpmmpiabPhase
namespace Go.Proofs.Ytikpoldmpmmpiab
open Go.RowKit Go.Lib Fx Ho
set_option linter.unusedVariables false
namespace Ph
variable {W0 w w' : World} {p g : Nat} {ph cy re : Int} {M : List Bool}
/-- Phases that a statement has made, and the world but for them. -/
structure Se (W0 w : World) (p g : Nat) (ph cy re : Int) (M : List Bool) : Prop where
  obj : IsPh w p g ph cy re M
  lp : W0.heap.size ≤ p
  lg : W0.heap.size ≤ g
  below : Below W0.heap.size W0 w
theorem below_wrote {B : Nat} {a b c : World} {H H' : Home} (h : Below B a b) (hw : Wrote H b H' c) (hb : B ≤ b.heap.size) (hl : ∀ k, H k → B ≤ k) : Below B a c :=
  h.trans ⟨hw.os, hw.tape, hw.output, hw.size, fun k hk => hw.block k (by omega) (fun h' => by have := hl k h'; omega)⟩
theorem Se.step (h : Se W0 w p g ph cy re M) {ph' cy' re' : Int} {M' : List Bool} (hw : Wrote (home p g) w (home p g) w') (ho : IsPh w' p g ph' cy' re' M') : Se W0 w' p g ph' cy' re' M' :=
  ⟨ho, h.lp, h.lg, below_wrote h.below hw h.below.size (fun k hk => hk.elim (fun e => e ▸ h.lp) (fun e => e ▸ h.lg))⟩
theorem Se.draws (h : Se W0 w p g ph cy re M) (m : Nat) : Se W0 (w.drewN m) p g ph cy re M := ⟨h.obj.drewN m, h.lp, h.lg, below_drewN h.below m⟩
theorem Se.later (h : Se W0 w p g ph cy re M) (hb : Below w.heap.size w w') : Se W0 w' p g ph cy re M := ⟨h.obj.below hb, h.lp, h.lg, below_then h.below hb⟩
/-- The call answers r; the session goes on so. -/
def Goes (r : Value) (W0 : World) (p g : Nat) (ph cy re : Int) (M : List Bool) (e : Ending) (w' : World) : Prop := e = .returned r ∧ Se W0 w' p g ph cy re M
theorem goes {P : Program} {f : FuncId} {a : Array Value} {r : Value} {ph' cy' re' : Int} {M' : List Bool} (h : Se W0 w p g ph cy re M) (c : Calls P f a w (Turns r w p g ph' cy' re' M')) : Calls P f a w (Goes r W0 p g ph' cy' re' M') :=
  c.mono fun e w' ⟨h1, h2, h3⟩ => ⟨h1, h.step h2 h3⟩
theorem goesA {P : Program} {f : FuncId} {a : Array Value} {r : Value} (h : Se W0 w p g ph cy re M) (c : Calls P f a w (Ans r w)) : Calls P f a w (Goes r W0 p g ph cy re M) :=
  c.mono fun e w' ⟨h1, m, h2⟩ => ⟨h1, by rw [h2]; exact h.draws m⟩
theorem goesB {P : Program} {f : FuncId} {a : Array Value} {r : Value} (h : Se W0 w p g ph cy re M) (c : Calls P f a w (AnsB r w)) : Calls P f a w (Goes r W0 p g ph cy re M) :=
  c.mono fun e w' ⟨h1, h2⟩ => ⟨h1, h.later h2⟩
theorem se_new (n : Nat) (w : World) (h1 : 1 ≤ n) (h2 : n ≤ 64) : Calls Try.prog 16 #[.int .i64 n] w fun e w' => ∃ p g, e = .returned (.tuple #[.pointer (some ⟨p, 0, none⟩), .int .i64 0]) ∧ Se w w' p g 0 0 0 (List.replicate n false) :=
  (new_any n w h1 h2).mono fun e w' ⟨p, g, h1, h2, h3, h4, h5⟩ => ⟨p, g, h1, h5, h3, h4, h2⟩
set_option maxRecDepth 100000 in
theorem nil_begin (w : World) : Calls Try.prog 18 #[.pointer none] w (Ans (.int .i64 1) w) := by
  have cl : ∀ w, Calls Try.prog 77 #[.pointer none, .int .i64 0] w (Ans (.int .i64 1) w) := fun w => by
    go_enter Try.func77, Try.ntmps77
    go_wp2_with fail
    go_ret
    exact ⟨rfl, 0, rfl⟩
  go_enter Try.func18, Try.ntmps18
  go_wp2_with fail
  with_reducible refine Calls.mono (cl w) ?_
  rintro e w1 ⟨rfl, m, rfl⟩
  go_wp2_with fail
  go_ret
  exact ⟨rfl, m, rfl⟩
set_option maxRecDepth 100000 in
theorem nil_phase (w : World) : Calls Try.prog 25 #[.pointer none] w (Ans (.int .i64 0) w) := by
  go_enter Try.func25, Try.ntmps25
  go_wp2_with fail
  go_ret
  exact ⟨rfl, 0, rfl⟩
set_option maxRecDepth 100000 in
theorem nil_cycle (w : World) : Calls Try.prog 26 #[.pointer none] w (Ans (.int .i64 0) w) := by
  go_enter Try.func26, Try.ntmps26
  go_wp2_with fail
  go_ret
  exact ⟨rfl, 0, rfl⟩
set_option maxRecDepth 100000 in
theorem nil_quiet (w : World) : Calls Try.prog 28 #[.pointer none] w (Ans (.bool false) w) := by
  go_enter Try.func28, Try.ntmps28
  go_wp2_with fail
  go_ret
  exact ⟨rfl, 0, rfl⟩
set_option maxRecDepth 100000 in
set_option maxHeartbeats 2000000 in
theorem told_any (w : World) : Calls Try.prog 17 #[] w (AnsB (.bool true) w) := by
  have cn := se_new 2 w (by omega) (by omega)
  have cm := new_no 65
  go_enter Try.func17, Try.ntmps17
  go_wp2_with fail
  with_reducible refine Calls.mono (cn) ?_
  rintro e w1 ⟨p, g, rfl, h1⟩
  have c2 := goesA h1 (cm w1 (by omega))
  replace h1 := Lib.hid h1
  go_wp2_with fail
  with_reducible refine Calls.mono (c2) ?_
  rintro e w2 ⟨rfl, h2⟩
  clear c2 h1 cn cm
  have c3 := goesA h2 (term_no h2.obj rfl)
  clear h2
  go_wp2_with fail
  with_reducible refine Calls.mono (c3) ?_
  rintro e w3 ⟨rfl, h3⟩
  clear c3
  have c4 := goes h3 (begin_off h3.obj (by omega))
  clear h3
  go_wp2_with fail
  with_reducible refine Calls.mono (c4) ?_
  rintro e w4 ⟨rfl, h4⟩
  clear c4
  replace h4 : Se w w4 p g 1 1 0 [false, false] := h4
  have c5 := goes h4 (say_yes h4.obj 0 (by decide))
  clear h4
  go_wp2_with fail
  with_reducible refine Calls.mono (c5) ?_
  rintro e w5 ⟨rfl, h5⟩
  clear c5
  replace h5 : Se w w5 p g 1 1 0 [true, false] := h5
  have c6 := goes h5 (say_forget h5.obj 1 true true (by decide) rfl (by omega))
  clear h5
  go_wp2_with fail
  with_reducible refine Calls.mono (c6) ?_
  rintro e w6 ⟨rfl, h6⟩
  clear c6
  replace h6 : Se w w6 p g 1 1 1 [false, false] := h6
  have c7 := goes h6 (say_yes h6.obj 1 (by decide))
  clear h6
  go_wp2_with fail
  with_reducible refine Calls.mono (c7) ?_
  rintro e w7 ⟨rfl, h7⟩
  clear c7
  replace h7 : Se w w7 p g 1 1 1 [false, true] := h7
  have c8 := goesA h7 (quiet_any h7.obj)
  clear h7
  go_wp2_with fail
  with_reducible refine Calls.mono (c8) ?_
  rintro e w8 ⟨rfl, h8⟩
  clear c8
  replace h8 : Se w w8 p g 1 1 1 [false, true] := h8
  have c9 := goes h8 (say_yes h8.obj 0 (by decide))
  clear h8
  go_wp2_with fail
  with_reducible refine Calls.mono (c9) ?_
  rintro e w9 ⟨rfl, h9⟩
  clear c9
  replace h9 : Se w w9 p g 1 1 1 [true, true] := h9
  have c10 := goesA h9 (quiet_any h9.obj)
  clear h9
  go_wp2_with fail
  with_reducible refine Calls.mono (c10) ?_
  rintro e w10 ⟨rfl, h10⟩
  clear c10
  replace h10 : Se w w10 p g 1 1 1 [true, true] := h10
  have c11 := goesA h10 (restarts_any h10.obj)
  clear h10
  go_wp2_with fail
  with_reducible refine Calls.mono (c11) ?_
  rintro e w11 ⟨rfl, h11⟩
  clear c11
  replace h11 : Se w w11 p g 1 1 1 [true, true] := h11
  have c12 := goes h11 (term_yes h11.obj rfl)
  clear h11
  go_wp2_with fail
  with_reducible refine Calls.mono (c12) ?_
  rintro e w12 ⟨rfl, h12⟩
  clear c12
  replace h12 : Se w w12 p g 2 1 1 [true, true] := h12
  have c13 := goesA h12 (phase_any h12.obj)
  clear h12
  go_wp2_with fail
  with_reducible refine Calls.mono (c13) ?_
  rintro e w13 ⟨rfl, h13⟩
  clear c13
  replace h13 : Se w w13 p g 2 1 1 [true, true] := h13
  have c14 := goesA h13 (cycle_any h13.obj)
  clear h13
  go_wp2_with fail
  with_reducible refine Calls.mono (c14) ?_
  rintro e w14 ⟨rfl, h14⟩
  clear c14
  replace h14 : Se w w14 p g 2 1 1 [true, true] := h14
  replace h14 := Lib.hid h14.below
  go_wp2_with fail
  go_ret
  exact ⟨rfl, h14.out⟩
end Ph
end Go.Proofs.Ytikpoldmpmmpiab
