/- What the package sweep answers: how many spans are to be swept at once, how many for each word; that the few answers which every statement of the layer asks for are given. -/
import Derived.Test.YtikpoldmpmmpiaaFixOpsK
import Derived.Test.YtikpoldmpmmpiaaSweepMath
import Derived.Test.YtikpoldmpmmpiaaMinMax
namespace Go.Proofs.Ytikpoldmpmmpiaa
open Go.RowKit Go.Lib Fx
set_option linter.unusedVariables false
namespace Sk
set_option maxRecDepth 100000 in
theorem cut_any (n : Int) (w : World) : Calls Try.prog 55 #[.int .i64 n] w (Ans (.int .i64 (sw31 n)) w) := by
  obtain ⟨m, hm⟩ : ∃ m, max n 0 = m := ⟨_, rfl⟩
  have m1 := @run_max2 Try.prog _ _ _ hm
  have hs : min m 2147483648 = sw31 n := by unfold sw31; rw [hm]
  have m2 := @run_min2 Try.prog _ _ _ hs
  generalize sw31 n = s at *
  clear hs hm
  go_enter Try.func55, Try.ntmps55
  go_wp2_with fail
  go_ret
  exact ⟨rfl, 0, rfl⟩
/-- A function that divides and rounds up: what it caught lies in a block. -/
def UpAt (b : Int) (p : Nat) (w : World) : Prop := w.cell? ⟨p, 0, none⟩ = some (.int .i64 b) ∧ p < w.heap.size
set_option maxRecDepth 100000 in
theorem up_any (b : Int) (w : World) :
    Calls Try.prog 56 #[.int .i64 b] w fun e w' => ∃ p, e = .returned (.func (.func 69) #[] #[.pointer (some ⟨p, 0, none⟩)]) ∧ UpAt b p w' ∧ Below w.heap.size w w' := by
  have hmf : ∀ (fn : Fn) (first cap : Array Value) (w : World), (Instr.makeFunc fn first cap).run Try.prog w = .ok (.func fn first cap) w := fun _ _ _ _ => rfl
  go_enter Try.func56, Try.ntmps56
  go_wp2_with fail
  go_ret
  refine ⟨w.heap.size, rfl, ⟨?_, ?_⟩, (Below.refl _ _).alloc (Nat.le_refl _) _⟩
  · go_simp
  · simp
set_option maxRecDepth 100000 in
theorem up1_any {b : Int} {p : Nat} (n : Int) (hb : 1 ≤ b) (hb2 : b ≤ 2147483648) (hn : 0 ≤ n) (hn2 : n ≤ 4611686018427387904) (w : World) (h : UpAt b p w) :
    Calls Try.prog 69 #[.int .i64 n, .pointer (some ⟨p, 0, none⟩)] w (Ans (.int .i64 (upI b n)) w) := by
  obtain ⟨h1, h2⟩ := h
  unfold upI
  have h3 : ¬ b = 0 := by omega
  go_enter Try.func69, Try.ntmps69
  go_wp2_with fail
  go_ret
  exact ⟨rfl, 0, rfl⟩
theorem UpAt.below {b : Int} {p : Nat} {w w' : World} (h : UpAt b p w) (hb : Below w.heap.size w w') : UpAt b p w' :=
  ⟨cell_then hb h.1, Nat.lt_of_lt_of_le h.2 hb.size⟩
set_option maxRecDepth 100000 in
set_option maxHeartbeats 1000000 in
theorem need_any (s d b n g : Int) (w : World) :
    Calls Try.prog 29 #[.int .i64 s, .int .i64 d, .int .i64 b, .int .i64 n, .int .i64 g] w (AnsB (.int .i64 (needI s d b n g)) w) := by
  have cs := fun w => cut_any s w
  have cd := fun w => cut_any d w
  have cb := fun w => cut_any b w
  have cn := fun w => cut_any n w
  have cg := fun w => cut_any g w
  obtain ⟨s0, s1⟩ := sw31_bd s
  obtain ⟨d0, d1⟩ := sw31_bd d
  obtain ⟨b0, b1⟩ := sw31_bd b
  obtain ⟨n0, n1⟩ := sw31_bd n
  obtain ⟨g0, g1⟩ := sw31_bd g
  unfold needI
  generalize sw31 s = S at *
  generalize sw31 d = D at *
  generalize sw31 b = B at *
  generalize sw31 n = N at *
  generalize sw31 g = G at *
  obtain ⟨D', hD⟩ : ∃ m, min D S = m := ⟨_, rfl⟩
  have m1 := @run_min2 Try.prog _ _ _ hD
  rw [hD]
  have D0 : 0 ≤ D' := by omega
  have D1 : D' ≤ S := by omega
  by_cases h : G ≤ B
  · rw [if_pos h]
    clear hD
    go_enter Try.func29, Try.ntmps29
    go_wp2_with fail
    with_reducible refine Calls.mono (cs _) ?_
    rintro e w1 ⟨rfl, k1, rfl⟩
    go_wp2_with fail
    with_reducible refine Calls.mono (cd _) ?_
    rintro e w2 ⟨rfl, k2, rfl⟩
    go_wp2_with fail
    with_reducible refine Calls.mono (cb _) ?_
    rintro e w3 ⟨rfl, k3, rfl⟩
    go_wp2_with fail
    with_reducible refine Calls.mono (cg _) ?_
    rintro e w4 ⟨rfl, k4, rfl⟩
    go_wp2_with fail
    go_ret
    exact ⟨rfl, (by repeat (first | assumption | exact Below.refl _ _ | refine below_drewN ?_ _ | refine below_alloc ?_ _ | refine below_then ?_ (by assumption)))⟩
  · rw [if_neg h]
    obtain ⟨M, hM⟩ : ∃ m, max (N - B) 0 = m := ⟨_, rfl⟩
    have m2 := @run_max2 Try.prog _ _ _ hM
    rw [hM]
    have M0 : 0 ≤ M := by omega
    have M1 : M ≤ 2147483648 := by omega
    have x0 : 0 ≤ S * M := Int.mul_nonneg s0 M0
    have x1 : S * M ≤ 2147483648 * 2147483648 := Int.mul_le_mul s1 M1 M0 (by omega)
    obtain ⟨x, hx⟩ : ∃ x, S * M = x := ⟨_, rfl⟩
    rw [hx] at x0 x1 ⊢
    have hw : wrap64 (S * M) = x := by rw [hx]; exact IntWalk.wrap64_in _ ⟨by omega, by omega⟩
    have u0 := up_nonneg (b := G - B) (by omega) x0
    have u1 := up_mono (b := G - B) (by omega) x1
    have u2 : upI (G - B) (2147483648 * 2147483648) ≤ 4611686018427387904 := by
      have := up_le (b := G - B) (n := 2147483648 * 2147483648) (m := 4611686018427387904) (by omega) (by omega)
      exact this
    have cu := fun w => up_any (G - B) w
    have cv : Hid (∀ p w, UpAt (G - B) p w → _) := Lib.hid fun p w h => up1_any (p := p) x (by omega) (by omega) x0 (by omega) w h
    generalize upI (G - B) x = U at *
    have u3 : U ≤ 4611686018427387904 := by omega
    obtain ⟨P, hP⟩ : ∃ m, max (U - D') 0 = m := ⟨_, rfl⟩
    have m3 := @run_max2 Try.prog _ _ _ hP
    rw [hP]
    obtain ⟨R, hR⟩ : ∃ m, min P (S - D') = m := ⟨_, rfl⟩
    have m4 := @run_min2 Try.prog _ _ _ hR
    rw [hR]
    clear hD hM hx hP hR u1 u2
    go_enter Try.func29, Try.ntmps29
    go_wp2_with fail
    with_reducible refine Calls.mono (cs _) ?_
    rintro e w1 ⟨rfl, k1, rfl⟩
    go_wp2_with fail
    with_reducible refine Calls.mono (cd _) ?_
    rintro e w2 ⟨rfl, k2, rfl⟩
    go_wp2_with fail
    with_reducible refine Calls.mono (cb _) ?_
    rintro e w3 ⟨rfl, k3, rfl⟩
    go_wp2_with fail
    with_reducible refine Calls.mono (cg _) ?_
    rintro e w4 ⟨rfl, k4, rfl⟩
    go_wp2_with fail
    with_reducible refine Calls.mono (cu _) ?_
    rintro e w5 ⟨q5, rfl, hc, hb⟩
    replace hb := below_then (below_drewN (Below.refl _ _) _) hb
    go_wp2_with fail
    with_reducible refine Calls.mono (cn _) ?_
    rintro e w6 ⟨rfl, k6, rfl⟩
    replace hb := below_drewN hb k6
    replace hc := hc.below (below_drewN (Below.refl _ _) k6)
    generalize w5.drewN k6 = w6 at *
    go_wp2_with fail
    with_reducible refine Calls.mono (cv.out _ _ hc) ?_
    rintro e w7 ⟨rfl, k7, rfl⟩
    go_wp2_with fail
    go_ret
    exact ⟨rfl, (by repeat (first | assumption | exact Below.refl _ _ | refine below_drewN ?_ _ | refine below_alloc ?_ _ | refine below_then ?_ (by assumption)))⟩
set_option maxRecDepth 100000 in
set_option maxHeartbeats 1000000 in
theorem even_any (s b g : Int) (w : World) :
    Calls Try.prog 31 #[.int .i64 s, .int .i64 b, .int .i64 g] w (AnsB (.int .i64 (evenI s b g)) w) := by
  have cs := fun w => cut_any s w
  have cb := fun w => cut_any b w
  have cg := fun w => cut_any g w
  obtain ⟨s0, s1⟩ := sw31_bd s
  obtain ⟨b0, b1⟩ := sw31_bd b
  obtain ⟨g0, g1⟩ := sw31_bd g
  unfold evenI
  generalize sw31 s = S at *
  generalize sw31 b = B at *
  generalize sw31 g = G at *
  by_cases h : G ≤ B
  · rw [if_pos h]
    go_enter Try.func31, Try.ntmps31
    go_wp2_with fail
    with_reducible refine Calls.mono (cb _) ?_
    rintro e w3 ⟨rfl, k3, rfl⟩
    go_wp2_with fail
    with_reducible refine Calls.mono (cg _) ?_
    rintro e w4 ⟨rfl, k4, rfl⟩
    go_wp2_with fail
    go_ret
    exact ⟨rfl, (by repeat (first | assumption | exact Below.refl _ _ | refine below_drewN ?_ _ | refine below_alloc ?_ _ | refine below_then ?_ (by assumption)))⟩
  · rw [if_neg h]
    have c1 := fun w => whole_any S (by unfold inI; omega) w
    have c2 := fun w => whole_any (G - B) (by unfold inI; omega) w
    have i1 := wholeI_in S
    have i2 := wholeI_in (G - B)
    generalize wholeI S = X at *
    generalize wholeI (G - B) = Y at *
    have c3 := fun w => div_any X Y i1 i2 w
    generalize divI X Y = Z at *
    clear i1 i2
    go_enter Try.func31, Try.ntmps31
    go_wp2_with fail
    with_reducible refine Calls.mono (cb _) ?_
    rintro e w3 ⟨rfl, k3, rfl⟩
    go_wp2_with fail
    with_reducible refine Calls.mono (cg _) ?_
    rintro e w4 ⟨rfl, k4, rfl⟩
    go_wp2_with fail
    with_reducible refine Calls.mono (cs _) ?_
    rintro e w5 ⟨rfl, k5, rfl⟩
    go_wp2_with fail
    with_reducible refine Calls.mono (c1 _) ?_
    rintro e w6 ⟨rfl, k6, rfl⟩
    go_wp2_with fail
    with_reducible refine Calls.mono (c2 _) ?_
    rintro e w7 ⟨rfl, k7, rfl⟩
    go_wp2_with fail
    with_reducible refine Calls.mono (c3 _) ?_
    rintro e w8 ⟨rfl, k8, rfl⟩
    go_wp2_with fail
    go_ret
    exact ⟨rfl, (by repeat (first | assumption | exact Below.refl _ _ | refine below_drewN ?_ _ | refine below_alloc ?_ _ | refine below_then ?_ (by assumption)))⟩
set_option maxRecDepth 100000 in
set_option maxHeartbeats 1000000 in
theorem told_any (w : World) : Calls Try.prog 30 #[] w (AnsB (.bool true) w) := by
  have c1 : ∀ w, Calls Try.prog 29 #[.int .i64 10, .int .i64 0, .int .i64 100, .int .i64 150, .int .i64 200] w (AnsB (.int .i64 5) w) := fun w => need_any 10 0 100 150 200 w
  have c2 : ∀ w, Calls Try.prog 29 #[.int .i64 10, .int .i64 5, .int .i64 100, .int .i64 151, .int .i64 200] w (AnsB (.int .i64 1) w) := fun w => need_any 10 5 100 151 200 w
  have c3 : ∀ w, Calls Try.prog 29 #[.int .i64 10, .int .i64 3, .int .i64 100, .int .i64 100, .int .i64 100] w (AnsB (.int .i64 7) w) := fun w => need_any 10 3 100 100 100 w
  have c4 : ∀ w, Calls Try.prog 31 #[.int .i64 10, .int .i64 100, .int .i64 100] w (AnsB (.int .i64 9223372036854775807) w) := fun w => even_any 10 100 100 w
  have c5 : ∀ w, Calls Try.prog 31 #[.int .i64 10, .int .i64 100, .int .i64 120] w (AnsB (.int .i64 524288) w) := fun w => even_any 10 100 120 w
  go_enter Try.func30, Try.ntmps30
  go_wp2_with fail
  with_reducible refine Calls.mono (c1 _) ?_
  rintro e w1 ⟨rfl, hb1⟩
  go_wp2_with fail
  with_reducible refine Calls.mono (c2 _) ?_
  rintro e w2 ⟨rfl, hb2⟩
  go_wp2_with fail
  with_reducible refine Calls.mono (c3 _) ?_
  rintro e w3 ⟨rfl, hb3⟩
  go_wp2_with fail
  with_reducible refine Calls.mono (c4 _) ?_
  rintro e w4 ⟨rfl, hb4⟩
  go_wp2_with fail
  with_reducible refine Calls.mono (c5 _) ?_
  rintro e w5 ⟨rfl, hb5⟩
  go_wp2_with fail
  go_ret
  exact ⟨rfl, (by repeat (first | assumption | exact Below.refl _ _ | refine below_drewN ?_ _ | refine below_alloc ?_ _ | refine below_then ?_ (by assumption)))⟩
end Sk
end Go.Proofs.Ytikpoldmpmmpiaa
