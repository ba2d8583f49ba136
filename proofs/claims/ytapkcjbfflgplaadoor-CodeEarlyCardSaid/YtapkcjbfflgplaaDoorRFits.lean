/- The document's own: which numbers fit; which part of an instruction is wrong. -/
import Derived.Test.YtapkcjbfflgplaaDoorRKinds
import Derived.Deep.RegionHeld3
namespace Go.Proofs.YtapkcjbfflgplaaDoor
open Go.RowKit Go.Lib Fx Ho Gr
set_option linter.unusedVariables false
namespace Cd
variable {w w' W wr : World} {v fv : Value} {G nf len n : Int} {fs : List (List Ins)} {zs A : List Int} {l : List Ins}
theorem kd_seven (i j : Nat) : kd i j = 0 ∨ kd i j = 1 ∨ kd i j = 2 ∨ kd i j = 3 ∨ kd i j = 4 ∨ kd i j = 5 ∨ kd i j = 6 := by
  have := kd_le i j; omega
set_option maxRecDepth 100000 in
set_option maxHeartbeats 1000000 in
theorem fits_any (c n : Int) (c0 : 0 ≤ c ∧ c < 7) (w : World) : Calls Tryd.prog 70 #[.int .i64 (rk c), .int .i64 n, .int .i64 G, .int .i64 nf, .int .i64 len] w (AnsB (.bool (hasB G nf len c n)) w) := by
  obtain ⟨q, hq, q7⟩ : ∃ q : Nat, rk c = (q : Int) ∧ q < 7 := by
    rcases (show c = 0 ∨ c = 1 ∨ c = 2 ∨ c = 3 ∨ c = 4 ∨ c = 5 ∨ c = 6 by omega) with rfl | rfl | rfl | rfl | rfl | rfl | rfl
    · exact ⟨0, rfl, by decide⟩
    · exact ⟨6, rfl, by decide⟩
    · exact ⟨1, rfl, by decide⟩
    · exact ⟨2, rfl, by decide⟩
    · exact ⟨3, rfl, by decide⟩
    · exact ⟨5, rfl, by decide⟩
    · exact ⟨4, rfl, by decide⟩
  have hc : (w.alloc (.cells #[.int .i64 1, .int .i64 16, .int .i64 G, .int .i64 nf, .int .i64 32, .int .i64 len, .int .i64 256] 3)).cell? ⟨w.heap.size, q, none⟩ = some (.int .i64 (bnd G nf len c)) := by
    refine cell_of (heap_alloc_new _ _) ?_
    rcases (show c = 0 ∨ c = 1 ∨ c = 2 ∨ c = 3 ∨ c = 4 ∨ c = 5 ∨ c = 6 by omega) with rfl | rfl | rfl | rfl | rfl | rfl | rfl
    · obtain rfl : q = 0 := by have : rk 0 = 0 := rfl
                               omega
      rfl
    · obtain rfl : q = 6 := by have : rk 1 = 6 := rfl
                               omega
      rfl
    · obtain rfl : q = 1 := by have : rk 2 = 1 := rfl
                               omega
      rfl
    · obtain rfl : q = 2 := by have : rk 3 = 2 := rfl
                               omega
      rfl
    · obtain rfl : q = 3 := by have : rk 4 = 3 := rfl
                               omega
      rfl
    · obtain rfl : q = 5 := by have : rk 5 = 5 := rfl
                               omega
      rfl
    · obtain rfl : q = 4 := by have : rk 6 = 4 := rfl
                               omega
      rfl
  have hr : Hid (hasB G nf len c n = decide (0 ≤ n ∧ n < bnd G nf len c)) := Lib.hid rfl
  rw [hq]
  clear hq
  generalize bnd G nf len c = m at *
  generalize hasB G nf len c n = r at *
  by_cases h1 : 0 ≤ n
  · have e1 : decide (0 ≤ n) = true := decide_eq_true h1
    by_cases h2 : n < m
    · have e2 : decide (n < m) = true := decide_eq_true h2
      obtain rfl : r = true := by rw [hr.out]; exact decide_eq_true ⟨h1, h2⟩
      go_enter Tryd.func70, Tryd.ntmps70
      go_wp2_with fail
      go_ret
      exact ⟨rfl, below_alloc (Below.refl _ _) _⟩
    · have e2 : decide (n < m) = false := decide_eq_false h2
      obtain rfl : r = false := by rw [hr.out]; exact decide_eq_false (fun h => h2 h.2)
      go_enter Tryd.func70, Tryd.ntmps70
      go_wp2_with fail
      go_ret
      exact ⟨rfl, below_alloc (Below.refl _ _) _⟩
  · have e1 : decide (0 ≤ n) = false := decide_eq_false h1
    obtain rfl : r = false := by rw [hr.out]; exact decide_eq_false (fun h => h1 h.1)
    clear hc
    go_enter Tryd.func70, Tryd.ntmps70
    go_wp2_with fail
    go_ret
    exact ⟨rfl, Below.refl _ _⟩
/-- Which part is wrong. -/
def wrongN (G nf len : Int) (x : Ins) : Int := if ¬ (0 ≤ x.1 ∧ x.1 < 18) then 0 else if hasB G nf len (kd x.1.toNat 0) x.2.1 = false then 1 else if hasB G nf len (kd x.1.toNat 1) x.2.2.1 = false then 2 else if hasB G nf len (kd x.1.toNat 2) x.2.2.2 = false then 3 else -1
theorem wrong_ok (G nf len : Int) (x : Ins) : okI G nf len x = decide (wrongN G nf len x < 0) := by
  unfold okI wrongN
  by_cases h : 0 ≤ x.1 ∧ x.1 < 18
  · rw [if_neg (fun h2 => h2 h), decide_eq_true h]
    cases hasB G nf len (kd x.1.toNat 0) x.2.1 <;> cases hasB G nf len (kd x.1.toNat 1) x.2.2.1 <;> cases hasB G nf len (kd x.1.toNat 2) x.2.2.2 <;> simp
  · rw [if_pos h, decide_eq_false h]; simp
end Cd
end Go.Proofs.YtapkcjbfflgplaaDoor
