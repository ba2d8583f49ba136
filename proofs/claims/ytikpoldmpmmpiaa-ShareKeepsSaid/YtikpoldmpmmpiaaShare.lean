/- What the package share answers: how many Ps work for the collector alone, the part of each other one, whether one may work one more. -/
import Derived.Test.YtikpoldmpmmpiaaFixOpsK
import Derived.Test.YtikpoldmpmmpiaaKit
import Derived.Test.YtikpoldmpmmpiaaShareMath
import Derived.Deep.RegionHeld3
import Derived.Deep.RegionWith
namespace Go.Proofs.Ytikpoldmpmmpiaa
open Go.RowKit Go.Lib Fx
set_option linter.unusedVariables false
namespace Sh
/-- A function that cuts numbers to bounds: what it caught lies in two blocks. -/
def CutAt (lo hi : Int) (p : Nat) (w : World) : Prop := w.cell? ⟨p, 0, none⟩ = some (.int .i64 lo) ∧ w.cell? ⟨p + 1, 0, none⟩ = some (.int .i64 hi) ∧ p + 1 < w.heap.size
set_option maxRecDepth 100000 in
theorem cut_any (lo hi : Int) (w : World) :
    Calls Try.prog 42 #[.int .i64 lo, .int .i64 hi] w fun e w' => e = .returned (.func (.func 63) #[] #[.pointer (some ⟨w.heap.size, 0, none⟩), .pointer (some ⟨w.heap.size + 1, 0, none⟩)]) ∧ CutAt lo hi w.heap.size w' ∧ Below w.heap.size w w' := by
  have hmf : ∀ (fn : Fn) (first cap : Array Value) (w : World), (Instr.makeFunc fn first cap).run Try.prog w = .ok (.func fn first cap) w := fun _ _ _ _ => rfl
  go_enter Try.func42, Try.ntmps42
  go_wp2_with fail
  go_ret
  refine ⟨rfl, ⟨?_, ?_, ?_⟩, (Below.refl _ _).alloc (Nat.le_refl _) _ |>.alloc (by simp) _⟩
  · go_simp
  · go_simp
  · simp
set_option maxRecDepth 100000 in
theorem cut1_any {lo hi : Int} {p : Nat} (n : Int) (w : World) (h : CutAt lo hi p w) :
    Calls Try.prog 63 #[.int .i64 n, .pointer (some ⟨p, 0, none⟩), .pointer (some ⟨p + 1, 0, none⟩)] w (Ans (.int .i64 (cutI lo hi n)) w) := by
  obtain ⟨h1, h2, h3⟩ := h
  unfold cutI
  go_enter Try.func63, Try.ntmps63
  go_wp2_with fail
  all_goals (go_ret; exact ⟨ret_i64 (by omega), 0, rfl⟩)
theorem CutAt.below {lo hi : Int} {p : Nat} {w w' : World} (h : CutAt lo hi p w) (hb : Below w.heap.size w w') : CutAt lo hi p w' :=
  ⟨cell_then hb h.1, cell_then hb h.2.1, Nat.lt_of_lt_of_le h.2.2 hb.size⟩
set_option maxRecDepth 100000 in
set_option maxHeartbeats 1000000 in
theorem workers_any (ps part : Int) (h1 : inI ps) (h2 : inI part) (w : World) :
    Calls Try.prog 16 #[.int .i64 ps, .int .i64 part] w (AnsB (.tuple #[.int .i64 (aloneI ps part), .int .i64 (restI ps part)]) w) := by
  have c1 := fun w => cut_any 1 64 w
  have c2 := fun w => cut_any 0 1048576 w
  obtain ⟨b1, b2⟩ := cutI_le (lo := 1) (hi := 64) (n := ps) (by omega)
  obtain ⟨b3, b4⟩ := cutI_le (lo := 0) (hi := 1048576) (n := part) (by omega)
  obtain ⟨e1, e2, e3, e4, e5, e6, e7⟩ := workers_val b1 b2 b3 b4
  obtain ⟨p1, p2⟩ := prod_bd b1 b2 b3 b4
  unfold aloneI restI
  have d1 : Hid (∀ {p : Nat} (w : World), CutAt 1 64 p w → Calls Try.prog 63 #[.int .i64 ps, .pointer (some ⟨p, 0, none⟩), .pointer (some ⟨p + 1, 0, none⟩)] w (Ans (.int .i64 (cutI 1 64 ps)) w)) := Lib.hid fun w h => cut1_any ps w h
  have d2 : Hid (∀ {p : Nat} (w : World), CutAt 0 1048576 p w → Calls Try.prog 63 #[.int .i64 part, .pointer (some ⟨p, 0, none⟩), .pointer (some ⟨p + 1, 0, none⟩)] w (Ans (.int .i64 (cutI 0 1048576 part)) w)) := Lib.hid fun w h => cut1_any part w h
  generalize cutI 1 64 ps = n at *
  generalize cutI 0 1048576 part = p at *
  have m1 := fun w => whole_any n (by unfold inI; omega) w
  have m2 := fun w => mul_any (n * 1048576) p (by unfold inI; omega) (by unfold inI; omega) w
  rw [e1] at m1
  rw [e2] at m2
  generalize n * p = x at *
  have m3 := fun w => int_any x w
  rw [e3] at m3
  have m4 := fun w => whole_any (x / 1048576) (by unfold inI; omega) w
  rw [e4] at m4
  have m5 := fun w => sub_any x (x / 1048576 * 1048576) (by unfold inI; omega) (by unfold inI; omega) w
  rw [e5] at m5
  have m6 := fun w => div_any (x % 1048576) (n * 1048576) (by unfold inI; omega) (by unfold inI; omega) w
  rw [e6] at m6
  clear e1 e2 e3 e4 e5 e6 e7
  generalize x % 1048576 / n = r at *
  generalize x % 1048576 = y at *
  generalize x / 1048576 * 1048576 = z at *
  generalize n * 1048576 = N at *
  generalize x / 1048576 = q at *
  go_enter Try.func16, Try.ntmps16
  go_wp2_with fail
  with_reducible refine Calls.mono (c1 _) ?_
  rintro e w1 ⟨rfl, hc1, hb1⟩
  go_wp2_with fail
  with_reducible refine Calls.mono (d1.out _ hc1) ?_
  rintro e w2 ⟨rfl, k2, rfl⟩
  replace hb1 := below_drewN hb1 k2
  generalize w1.drewN k2 = w2 at *
  clear hc1
  go_wp2_with fail
  with_reducible refine Calls.mono (m1 _) ?_
  rintro e w3 ⟨rfl, k3, rfl⟩
  replace hb1 := below_drewN hb1 k3
  generalize w2.drewN k3 = w3 at *
  go_wp2_with fail
  with_reducible refine Calls.mono (c2 _) ?_
  rintro e w4 ⟨rfl, hc4, hb4⟩
  go_wp2_with fail
  with_reducible refine Calls.mono (d2.out _ hc4) ?_
  rintro e w5 ⟨rfl, k5, rfl⟩
  replace hb4 := below_drewN (below_then hb1 hb4) k5
  generalize w4.drewN k5 = w5 at *
  clear hc4
  go_wp2_with fail
  with_reducible refine Calls.mono (m2 _) ?_
  rintro e w6 ⟨rfl, k6, rfl⟩
  go_wp2_with fail
  with_reducible refine Calls.mono (m3 _) ?_
  rintro e w7 ⟨rfl, rfl⟩
  go_wp2_with fail
  with_reducible refine Calls.mono (m4 _) ?_
  rintro e w8 ⟨rfl, k8, rfl⟩
  go_wp2_with fail
  with_reducible refine Calls.mono (m5 _) ?_
  rintro e w9 ⟨rfl, k9, rfl⟩
  go_wp2_with fail
  with_reducible refine Calls.mono (m6 _) ?_
  rintro e w10 ⟨rfl, k10, rfl⟩
  go_wp2_with fail
  go_ret2
  exact ⟨rfl, below_drewN hb4 _⟩
/-- Whether p works alone. -/
def dedB (p ps part : Int) : Bool := decide (0 ≤ p) && decide (p < aloneI ps part)
set_option maxRecDepth 100000 in
set_option maxHeartbeats 1000000 in
theorem dedicated_any (p ps part : Int) (h1 : inI ps) (h2 : inI part) (w : World) :
    Calls Try.prog 19 #[.int .i64 p, .int .i64 ps, .int .i64 part] w (AnsB (.bool (dedB p ps part)) w) := by
  have c1 := fun w => workers_any ps part h1 h2 w
  obtain ⟨b1, b2, b3, b4⟩ := alone_bd ps part
  unfold dedB
  generalize aloneI ps part = a at *
  generalize restI ps part = r at *
  by_cases g1 : 0 ≤ p
  · have g3 : decide (0 ≤ p) = true := decide_eq_true g1
    go_enter Try.func19, Try.ntmps19
    go_wp2_with fail
    with_reducible refine Calls.mono (c1 _) ?_
    rintro e w1 ⟨rfl, hb⟩
    go_wp2_with fail
    go_ret
    exact ⟨by rw [g3]; rfl, hb⟩
  · have g3 : decide (0 ≤ p) = false := decide_eq_false g1
    go_enter Try.func19, Try.ntmps19
    go_wp2_with fail
    with_reducible refine Calls.mono (c1 _) ?_
    rintro e w1 ⟨rfl, hb⟩
    go_wp2_with fail
    go_ret
    exact ⟨by rw [g3]; rfl, hb⟩
set_option maxRecDepth 100000 in
set_option maxHeartbeats 1000000 in
theorem may1_any (n : Int) (w : World) :
    Calls Try.prog 47 #[.int .i64 n] w (AnsB (.int .i64 (wholeI (cutI 0 1099511627776 n + 1))) w) := by
  have c1 := fun w => cut_any 0 1099511627776 w
  obtain ⟨b1, b2⟩ := cutI_le (lo := 0) (hi := 1099511627776) (n := n) (by omega)
  have d1 : Hid (∀ {p : Nat} (w : World), CutAt 0 1099511627776 p w → Calls Try.prog 63 #[.int .i64 n, .pointer (some ⟨p, 0, none⟩), .pointer (some ⟨p + 1, 0, none⟩)] w (Ans (.int .i64 (cutI 0 1099511627776 n)) w)) := Lib.hid fun w h => cut1_any n w h
  generalize cutI 0 1099511627776 n = x at *
  have m1 := fun w => whole_any (x + 1) (by unfold inI; omega) w
  go_enter Try.func47, Try.ntmps47
  go_wp2_with fail
  with_reducible refine Calls.mono (c1 _) ?_
  rintro e w1 ⟨rfl, hc1, hb1⟩
  go_wp2_with fail
  with_reducible refine Calls.mono (d1.out _ hc1) ?_
  rintro e w2 ⟨rfl, k2, rfl⟩
  replace hb1 := below_drewN hb1 k2
  generalize w1.drewN k2 = w2 at *
  clear hc1
  go_wp2_with fail
  with_reducible refine Calls.mono (m1 _) ?_
  rintro e w3 ⟨rfl, k3, rfl⟩
  go_wp2_with fail
  go_ret
  exact ⟨rfl, below_drewN hb1 _⟩
set_option maxRecDepth 100000 in
set_option maxHeartbeats 1000000 in
theorem may_any (k a p : Int) (h : inI p) (w : World) :
    Calls Try.prog 20 #[.int .i64 k, .int .i64 a, .int .i64 p] w (AnsB (.bool (mayB k a p)) w) := by
  unfold mayB
  have c1 := fun w => may1_any a w
  have c2 := fun w => may1_any k w
  have i1 := wholeI_in (cutI 0 1099511627776 a + 1)
  generalize wholeI (cutI 0 1099511627776 a + 1) = x at *
  generalize wholeI (cutI 0 1099511627776 k + 1) = y at *
  have c3 := fun w => mul_any x p i1 h w
  generalize mulI x p = z at *
  go_enter Try.func20, Try.ntmps20
  go_wp2_with fail
  go_wp2_with fail
  with_reducible refine Calls.mono (c1 _) ?_
  rintro e w1 ⟨rfl, hb1⟩
  go_wp2_with fail
  with_reducible refine Calls.mono (c3 _) ?_
  rintro e w2 ⟨rfl, k2, rfl⟩
  go_wp2_with fail
  with_reducible refine Calls.mono (c2 _) ?_
  rintro e w3 ⟨rfl, hb3⟩
  go_wp2_with fail
  go_ret
  exact ⟨rfl, below_then (below_drewN hb1 _) hb3⟩
end Sh
end Go.Proofs.Ytikpoldmpmmpiaa
