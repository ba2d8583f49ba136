/- treadmillref1.Has: whether a row holds a number. -/
import Derived.Test.YtneibhcigbfigaaVwMem
namespace Go.Proofs.Ytneibhcigbfigaa
open Go.RowKit Go.Lib Fx Ho Gr
set_option linter.unusedVariables false
set_option linter.unusedSimpArgs false
namespace Vw
variable {w : World} {S : Home} {v : Value} {zs : List Int}
set_option maxRecDepth 100000 in
set_option maxHeartbeats 1000000 in
theorem has_any (x : Int) (h : Ints w S v zs) : Calls Try.prog 38 #[v, .int .i64 x] w (Still (.bool (decide (x ∈ zs))) w) := by
  obtain ⟨sp, cap, rfl, hm, hc⟩ := h
  obtain ⟨m, hme⟩ : ∃ m, zs.length = m := ⟨_, rfl⟩
  have hin : Hid (∀ i, i < m → zs.getD i 0 = x → decide (x ∈ zs) = true) := fun i hi e => decide_eq_true (by
    rw [← e, List.getD_eq_getElem?_getD, List.getElem?_eq_getElem (by omega)]; exact List.getElem_mem _)
  have hout : Hid ((∀ i, i < m → zs.getD i 0 ≠ x) → decide (x ∈ zs) = false) := fun hn => decide_eq_false fun hx => by
    obtain ⟨i, hi, e⟩ := List.getElem_of_mem hx
    refine hn i (by omega) ?_
    rw [List.getD_eq_getElem?_getD, List.getElem?_eq_getElem hi]; exact e
  rw [hme] at hm hc ⊢
  have hc : Hid _ := hc
  generalize decide (x ∈ zs) = res at *
  clear hme
  go_enter Try.func38, Try.ntmps38
  go_wp2_with fail
  go_loopw [5] (fun u wr => ∃ i : Nat, u = .int .i64 i ∧ i ≤ m ∧ Hid (∀ j, j < i → zs.getD j 0 ≠ x) ∧ wr = w) (fun u _ => (m - (intOf u).toNat))
  case atStart => exact ⟨0, rfl, by omega, fun j h => by omega, rfl⟩
  case round =>
    obtain ⟨i, rfl, i1, hno, rfl⟩ := hrel
    by_cases hi : i < m
    · obtain ⟨b1, o1, rfl, _, _, k1⟩ := hc.out i hi
      have i2 : (i : Int) < (m : Int) := by omega
      by_cases hx : zs.getD i 0 = x
      · have hr := hin.out i hi hx
        rw [hx] at k1
        rw [hr]
        clear hin hout hno hx hr
        go_wp2_with fail
        go_ret
        exact ⟨rfl, rfl⟩
      · have hno2 : Hid (∀ j, j < i + 1 → zs.getD j 0 ≠ x) := fun j hj => by
          by_cases e : j = i
          · subst e; exact hx
          · exact hno.out j (by omega)
        have hx2 : (zs.getD i 0 == x) = false := by rw [beq_eq_false_iff_ne]; exact hx
        generalize zs.getD i 0 = y at *
        clear hin hout hno
        go_wp2_with fail
        go_roundw
        case rel => exact ⟨i + 1, by go_num, by omega, hno2, by first | rfl | trivial⟩
        case measure => simp [intOf]; omega
    · obtain rfl : m = i := by omega
      have hr := hout.out hno.out
      go_wp2_with fail
      go_ret
      exact ⟨by rw [hr]; rfl, rfl⟩

end Vw
end Go.Proofs.Ytneibhcigbfigaa
