/- The document's own answers on who works for the collector; that the few answers which every statement of the layer asks for are given. -/
import Derived.Test.YtikpoldmpmmpiaaShare
import Derived.Test.YtikpoldmpmmpiaaFixRefK
namespace Go.Proofs.Ytikpoldmpmmpiaa
open Go.RowKit Go.Lib Fx
set_option linter.unusedVariables false
namespace Sh
theorem ansb {P : Program} {f : FuncId} {args : Array Value} {w : World} {v : Value} (h : Calls P f args w (Ans v w)) : Calls P f args w (AnsB v w) := h.mono fun _ _ h => h.below
set_option maxRecDepth 100000 in
theorem clamp_any (x lo hi : Int) (h : lo ≤ hi) (w : World) :
    Calls Try.prog 44 #[.int .i64 x, .int .i64 lo, .int .i64 hi] w (Ans (.int .i64 (cutI lo hi x)) w) := by
  unfold cutI
  go_enter Try.func44, Try.ntmps44
  go_wp2_with fail
  all_goals (go_ret; exact ⟨ret_i64 (by omega), 0, rfl⟩)
set_option maxRecDepth 100000 in
set_option maxHeartbeats 1000000 in
theorem rworkers_any (ps part : Int) (h1 : inI ps) (h2 : inI part) (w : World) :
    Calls Try.prog 17 #[.int .i64 ps, .int .i64 part] w (AnsB (.tuple #[.int .i64 (aloneI ps part), .int .i64 (restI ps part)]) w) := by
  have c1 := fun w => clamp_any ps 1 64 (by omega) w
  have c2 := fun w => clamp_any part 0 1048576 (by omega) w
  obtain ⟨b1, b2⟩ := cutI_le (lo := 1) (hi := 64) (n := ps) (by omega)
  obtain ⟨b3, b4⟩ := cutI_le (lo := 0) (hi := 1048576) (n := part) (by omega)
  obtain ⟨e1, e2, e3, e4, e5, e6, e7⟩ := workers_val b1 b2 b3 b4
  obtain ⟨p1, p2⟩ := prod_bd b1 b2 b3 b4
  unfold aloneI restI
  generalize cutI 1 64 ps = n at *
  generalize cutI 0 1048576 part = p at *
  have m1 := fun w => rwhole_any n (by unfold inI; omega) w
  rw [e1] at m1
  have m6 := fun w => rdiv_any (n * p % 1048576) (n * 1048576) (by unfold inI; omega) (by unfold inI; omega) w
  rw [e6] at m6
  clear e1 e2 e3 e4 e5 e6
  obtain ⟨x, hx⟩ : ∃ x, n * p = x := ⟨_, rfl⟩
  have hm : wrap64 (n * p) = x := by rw [hx] at p1 p2 ⊢; exact IntWalk.wrap64_in _ ⟨by omega, by omega⟩
  simp only [hx] at p1 p2 m6 e7 ⊢
  clear hx
  generalize x % 1048576 / n = r at *
  generalize x % 1048576 = y at *
  generalize n * 1048576 = N at *
  go_enter Try.func17, Try.ntmps17
  go_wp2_with fail
  with_reducible refine Calls.mono (c1 _) ?_
  rintro e w1 ⟨rfl, k1, rfl⟩
  go_wp2_with fail
  with_reducible refine Calls.mono (c2 _) ?_
  rintro e w2 ⟨rfl, k2, rfl⟩
  go_wp2_with fail
  with_reducible refine Calls.mono (m1 _) ?_
  rintro e w3 ⟨rfl, k3, rfl⟩
  go_wp2_with fail
  with_reducible refine Calls.mono (m6 _) ?_
  rintro e w4 ⟨rfl, k4, rfl⟩
  go_wp2_with fail
  go_ret2
  exact ⟨rfl, (by repeat (first | assumption | exact Below.refl _ _ | refine below_drewN ?_ _ | refine below_alloc ?_ _ | refine below_then ?_ (by assumption)))⟩
set_option maxRecDepth 100000 in
set_option maxHeartbeats 1000000 in
theorem rmay_any (k a p : Int) (h : inI p) (w : World) :
    Calls Try.prog 21 #[.int .i64 k, .int .i64 a, .int .i64 p] w (AnsB (.bool (mayB k a p)) w) := by
  have c1 := fun w => clamp_any k 0 1099511627776 (by omega) w
  have c2 := fun w => clamp_any a 0 1099511627776 (by omega) w
  obtain ⟨b1, b2⟩ := cutI_le (lo := 0) (hi := 1099511627776) (n := k) (by omega)
  obtain ⟨b3, b4⟩ := cutI_le (lo := 0) (hi := 1099511627776) (n := a) (by omega)
  unfold mayB
  generalize cutI 0 1099511627776 k = x at *
  generalize cutI 0 1099511627776 a = y at *
  have i1 := wholeI_in (y + 1)
  have c3 := fun w => rwhole_any (y + 1) (by unfold inI; omega) w
  have c4 := fun w => rwhole_any (x + 1) (by unfold inI; omega) w
  generalize wholeI (x + 1) = X at *
  generalize wholeI (y + 1) = Y at *
  have c5 := fun w => rmul_any Y p i1 h w
  generalize mulI Y p = z at *
  clear i1
  go_enter Try.func21, Try.ntmps21
  go_wp2_with fail
  with_reducible refine Calls.mono (c1 _) ?_
  rintro e w1 ⟨rfl, k1, rfl⟩
  go_wp2_with fail
  with_reducible refine Calls.mono (c2 _) ?_
  rintro e w2 ⟨rfl, k2, rfl⟩
  go_wp2_with fail
  with_reducible refine Calls.mono (c3 _) ?_
  rintro e w3 ⟨rfl, k3, rfl⟩
  go_wp2_with fail
  with_reducible refine Calls.mono (c5 _) ?_
  rintro e w5 ⟨rfl, k5, rfl⟩
  go_wp2_with fail
  with_reducible refine Calls.mono (c4 _) ?_
  rintro e w4 ⟨rfl, k4, rfl⟩
  go_wp2_with fail
  go_ret
  exact ⟨rfl, (by repeat (first | assumption | exact Below.refl _ _ | refine below_drewN ?_ _ | refine below_alloc ?_ _ | refine below_then ?_ (by assumption)))⟩
set_option maxRecDepth 100000 in
set_option maxHeartbeats 1000000 in
theorem told_any (w : World) : Calls Try.prog 18 #[] w (AnsB (.bool true) w) := by
  have c1 : ∀ w, Calls Try.prog 16 #[.int .i64 4, .int .i64 262144] w (AnsB (.tuple #[.int .i64 1, .int .i64 0]) w) := fun w => workers_any 4 262144 (by unfold inI; omega) (by unfold inI; omega) w
  have c2 : ∀ w, Calls Try.prog 16 #[.int .i64 1, .int .i64 262144] w (AnsB (.tuple #[.int .i64 0, .int .i64 262144]) w) := fun w => workers_any 1 262144 (by unfold inI; omega) (by unfold inI; omega) w
  have c3 : ∀ w, Calls Try.prog 19 #[.int .i64 0, .int .i64 4, .int .i64 262144] w (AnsB (.bool true) w) := fun w => dedicated_any 0 4 262144 (by unfold inI; omega) (by unfold inI; omega) w
  have c4 : ∀ w, Calls Try.prog 19 #[.int .i64 1, .int .i64 4, .int .i64 262144] w (AnsB (.bool false) w) := fun w => dedicated_any 1 4 262144 (by unfold inI; omega) (by unfold inI; omega) w
  have c5 : ∀ w, Calls Try.prog 20 #[.int .i64 0, .int .i64 3, .int .i64 262144] w (AnsB (.bool true) w) := fun w => may_any 0 3 262144 (by unfold inI; omega) w
  have c6 : ∀ w, Calls Try.prog 20 #[.int .i64 1, .int .i64 3, .int .i64 262144] w (AnsB (.bool false) w) := fun w => may_any 1 3 262144 (by unfold inI; omega) w
  go_enter Try.func18, Try.ntmps18
  go_wp2_with fail
  with_reducible refine Calls.mono (c1 _) ?_
  rintro e w1 ⟨rfl, hb1⟩
  go_wp2_with fail
  with_reducible refine Calls.mono (c2 _) ?_
  rintro e w2 ⟨rfl, hb2⟩
  go_wp2_with fail
  with_reducible refine Calls.mono (c3 _) ?_
  rintro e w3 ⟨rfl, hb3⟩
  go_wp2_with fail
  with_reducible refine Calls.mono (c4 _) ?_
  rintro e w4 ⟨rfl, hb4⟩
  go_wp2_with fail
  with_reducible refine Calls.mono (c5 _) ?_
  rintro e w5 ⟨rfl, hb5⟩
  go_wp2_with fail
  with_reducible refine Calls.mono (c6 _) ?_
  rintro e w6 ⟨rfl, hb6⟩
  go_wp2_with fail
  go_ret
  exact ⟨rfl, (by repeat (first | assumption | exact Below.refl _ _ | refine below_drewN ?_ _ | refine below_alloc ?_ _ | refine below_then ?_ (by assumption)))⟩
end Sh
end Go.Proofs.Ytikpoldmpmmpiaa
