/- What the document's own answers for classes are, for every whole number of 64 bits; what the statements of layer 4 call told. -/
import Derived.Test.YtoamabmnbldgkaaDoorClass
namespace Go.Proofs.YtoamabmnbldgkaaDoor
open Go.RowKit Go.Lib Fx Cl
set_option linter.unusedVariables false

set_option maxRecDepth 100000 in
set_option maxHeartbeats 1000000 in
theorem rsizes_any (w : World) : Calls Tryd.prog 58 #[] w fun e w' => e = .returned (.slice (some ⟨w.heap.size, 0, none⟩) 16 16) ∧ w.alloc (.cells #[.int .i64 1, .int .i64 2, .int .i64 3, .int .i64 4, .int .i64 6, .int .i64 8, .int .i64 12, .int .i64 16, .int .i64 24, .int .i64 32, .int .i64 48, .int .i64 64, .int .i64 96, .int .i64 128, .int .i64 192, .int .i64 256] 3) = w' := by
  go_enter Tryd.func58, Tryd.ntmps58
  go_wp2_with fail
  go_ret
  exact ⟨rfl, rfl⟩

set_option maxRecDepth 100000 in
set_option maxHeartbeats 2000000 in
theorem rsize_any4 (k : Int) (w : World) : Calls Tryd.prog 45 #[.int .i64 k] w (AnsB (.int .i64 (sizeI k)) w) := by
  have c := fun w => rsizes_any w
  by_cases h0 : k < 0
  · rw [size_out (Or.inl h0)]
    go_enter Tryd.func45, Tryd.ntmps45
    go_wp2_with fail
    go_ret
    exact ⟨rfl, Below.refl _ _⟩
  · by_cases h1 : 16 ≤ k
    · rw [size_out (Or.inr h1)]
      go_enter Tryd.func45, Tryd.ntmps45
      go_wp2_with fail
      go_ret
      exact ⟨rfl, Below.refl _ _⟩
    · rcases (show k = 0 ∨ k = 1 ∨ k = 2 ∨ k = 3 ∨ k = 4 ∨ k = 5 ∨ k = 6 ∨ k = 7 ∨ k = 8 ∨ k = 9 ∨ k = 10 ∨ k = 11 ∨ k = 12 ∨ k = 13 ∨ k = 14 ∨ k = 15 by omega) with rfl | rfl | rfl | rfl | rfl | rfl | rfl | rfl | rfl | rfl | rfl | rfl | rfl | rfl | rfl | rfl
      all_goals
        clear h0 h1
        go_enter Tryd.func45, Tryd.ntmps45
        go_wp2_with (go_at_call 58; ((with_reducible refine (c _).mono ?_); rintro e w' ⟨rfl, rfl⟩))
        go_ret
        exact ⟨rfl, below_alloc (Below.refl _ _) _⟩

set_option maxRecDepth 100000 in
set_option maxHeartbeats 2000000 in
theorem rpages_any (k : Int) (w : World) : Calls Tryd.prog 46 #[.int .i64 k] w (AnsB (.int .i64 (pagesI k)) w) := by
  have c := fun w => rsize_any4 k w
  by_cases h0 : k < 0 ∨ 16 ≤ k
  · rw [pages_out h0]
    rw [size_out h0] at c
    clear h0
    go_enter Tryd.func46, Tryd.ntmps46
    go_wp2_with (go_at_call 45; ((with_reducible refine (c _).mono ?_); rintro e w' ⟨rfl, hb⟩))
    go_ret
    exact ⟨rfl, hb⟩
  · obtain ⟨s1, s2⟩ := size_in (k := k) (by omega) (by omega)
    obtain ⟨p1, p2⟩ := pages_in (k := k) (by omega) (by omega)
    have ht := fun p => pages_test (k := k) (p := p) (by omega) (by omega)
    obtain ⟨s, hs⟩ : ∃ s, sizeI k = s := ⟨_, rfl⟩
    obtain ⟨P, hP⟩ : ∃ P, pagesI k = P := ⟨_, rfl⟩
    rw [hs] at c s1 s2
    rw [hP] at p1 p2
    simp only [hs, hP] at ht
    rw [hP]
    have ht : Hid (∀ p : Int, 1 ≤ p → p ≤ P → (s ≤ p * 64 ∧ p * 64 % s * 8 ≤ p * 64 ↔ p = P)) := fun p h1 h2 => (ht p h1 h2).2
    clear hs hP h0
    have hz : (s == 0) = false := by rw [beq_eq_false_iff_ne]; omega
    go_enter Tryd.func46, Tryd.ntmps46
    go_wp2_with (go_at_call 45; ((with_reducible refine (c _).mono ?_); rintro e w' ⟨rfl, hb⟩))
    go_loopw [4] (fun i wr => ∃ p : Int, i = .int .i64 p ∧ 1 ≤ p ∧ p ≤ P ∧ Below w.heap.size w wr) (fun i _ => (P - intOf i).toNat)
    case atStart => exact ⟨1, rfl, by omega, by omega, hb⟩
    case round =>
      obtain ⟨p, rfl, q1, q2, hbr⟩ := hrel
      have hp := ht.out p q1 q2
      obtain ⟨r, hr⟩ : ∃ r : Int, p * 64 % s = r := ⟨_, rfl⟩
      have r0 : 0 ≤ r := by rw [← hr]; exact Int.emod_nonneg _ (by omega)
      have r1 : r < s := by rw [← hr]; exact Int.emod_lt_of_pos _ (by omega)
      rw [hr] at hp
      by_cases g1 : s ≤ p * 64
      · by_cases g2 : r * 8 ≤ p * 64
        · obtain rfl : p = P := hp.1 ⟨g1, g2⟩
          clear hp ht
          go_wp2_with fail
          go_ret
          exact ⟨rfl, hbr⟩
        · have : p ≠ P := fun h => g2 (hp.2 h).2
          clear hp ht
          go_wp2_with fail
          go_roundw
          case rel => exact ⟨p + 1, rfl, by omega, by omega, hbr⟩
          case measure => simp [intOf]; omega
      · have : p ≠ P := fun h => g1 (hp.2 h).1
        clear hp ht
        go_wp2_with fail
        go_roundw
        case rel => exact ⟨p + 1, rfl, by omega, by omega, hbr⟩
        case measure => simp [intOf]; omega

set_option maxRecDepth 100000 in
set_option maxHeartbeats 1000000 in
theorem rslots_any (k : Int) (w : World) : Calls Tryd.prog 57 #[.int .i64 k] w (AnsB (.int .i64 (slotsI k)) w) := by
  have c := fun w => rsize_any4 k w
  have cp := fun w => rpages_any k w
  by_cases h0 : k < 0 ∨ 16 ≤ k
  · rw [slots_out h0]
    rw [size_out h0] at c
    clear h0 cp
    go_enter Tryd.func57, Tryd.ntmps57
    go_wp2_with (go_at_call 45; ((with_reducible refine (c _).mono ?_); rintro e w' ⟨rfl, hb⟩))
    go_ret
    exact ⟨rfl, hb⟩
  · obtain ⟨s1, s2⟩ := size_in (k := k) (by omega) (by omega)
    obtain ⟨p1, p2⟩ := pages_in (k := k) (by omega) (by omega)
    unfold slotsI
    generalize sizeI k = s at *
    generalize pagesI k = P at *
    have hz : (s == 0) = false := by rw [beq_eq_false_iff_ne]; omega
    go_enter Tryd.func57, Tryd.ntmps57
    go_wp2_with (first | (go_at_call 45; ((with_reducible refine (c _).mono ?_); rintro e w' ⟨rfl, hb⟩)) | (go_at_call 46; ((with_reducible refine (cp _).mono ?_); rintro e w' ⟨rfl, hb⟩)))
    go_ret
    exact ⟨rfl, by repeat (first | assumption | exact Below.refl _ _ | refine below_then ?_ (by assumption))⟩

end Go.Proofs.YtoamabmnbldgkaaDoor
