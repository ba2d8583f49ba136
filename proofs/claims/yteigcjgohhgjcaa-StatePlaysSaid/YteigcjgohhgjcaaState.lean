/- Goroutines' states as they lie in memory, and what the calls of package state answer; the document's own answer on moves. -/
import Derived.Test.YteigcjgohhgjcaaHome
namespace Go.Proofs.Yteigcjgohhgjcaa
open Go.RowKit Go.Lib Fx Ho
set_option linter.unusedVariables false
namespace St

/-- May a goroutine come from one state to another? -/
def mayB (f t : Int) : Bool := (decide (f = 1) && decide (t = 2)) || (decide (f = 2) && (decide (t = 1) || decide (t = 3) || decide (t = 4) || decide (t = 5))) || (decide (f = 3) && decide (t = 1)) || (decide (f = 4) && decide (t = 1))
theorem may_cases {f t : Int} (h : mayB f t = true) : (f = 1 ∧ t = 2) ∨ (f = 2 ∧ t = 1) ∨ (f = 2 ∧ t = 3) ∨ (f = 2 ∧ t = 4) ∨ (f = 2 ∧ t = 5) ∨ (f = 3 ∧ t = 1) ∨ (f = 4 ∧ t = 1) := by
  unfold mayB at h; simp at h; omega
theorem may_out {f t : Int} (h : ¬ (0 ≤ f ∧ f < 6) ∨ ¬ (0 ≤ t ∧ t < 6)) : mayB f t = false := by
  cases hm : mayB f t with
  | false => rfl
  | true => have := may_cases hm; omega

set_option maxRecDepth 100000 in
theorem isstate_yes (x : Int) (h : 0 ≤ x ∧ x < 6) (w : World) : Calls Try.prog 58 #[.int .i64 x] w (Still (.bool true) w) := by
  obtain ⟨h1, h2⟩ := h
  go_enter Try.func58, Try.ntmps58
  go_wp2_with fail
  go_ret
  exact ⟨rfl, rfl⟩
set_option maxRecDepth 100000 in
theorem isstate_no (x : Int) (h : ¬ (0 ≤ x ∧ x < 6)) (w : World) : Calls Try.prog 58 #[.int .i64 x] w (Still (.bool false) w) := by
  rcases (show x < 0 ∨ (0 ≤ x ∧ ¬ x < 6) by omega) with h1 | ⟨h1, h2⟩
  · clear h
    go_enter Try.func58, Try.ntmps58
    go_wp2_with fail
    go_ret
    exact ⟨rfl, rfl⟩
  · clear h
    go_enter Try.func58, Try.ntmps58
    go_wp2_with fail
    go_ret
    exact ⟨rfl, rfl⟩
set_option maxRecDepth 100000 in
set_option maxHeartbeats 1000000 in
theorem refmay_any (f t : Int) (w : World) : Calls Try.prog 40 #[.int .i64 f, .int .i64 t] w (Still (.bool (mayB f t)) w) := by
  by_cases h1 : f = 1
  · subst h1
    rw [show mayB 1 t = (t == 2) by unfold mayB; simp; rfl]
    go_enter Try.func40, Try.ntmps40
    go_wp2_with fail
    all_goals go_ret
    all_goals exact ⟨rfl, rfl⟩
  by_cases h2 : f = 2
  · subst h2
    by_cases t1 : t = 1
    · subst t1
      rw [show mayB 2 1 = true by decide]
      go_enter Try.func40, Try.ntmps40
      go_wp2_with fail
      all_goals go_ret
      all_goals exact ⟨rfl, rfl⟩
    by_cases t3 : t = 3
    · subst t3
      rw [show mayB 2 3 = true by decide]
      go_enter Try.func40, Try.ntmps40
      go_wp2_with fail
      all_goals go_ret
      all_goals exact ⟨rfl, rfl⟩
    by_cases t4 : t = 4
    · subst t4
      rw [show mayB 2 4 = true by decide]
      go_enter Try.func40, Try.ntmps40
      go_wp2_with fail
      all_goals go_ret
      all_goals exact ⟨rfl, rfl⟩
    have b1 : (t == 1) = false := by simpa using t1
    have b3 : (t == 3) = false := by simpa using t3
    have b4 : (t == 4) = false := by simpa using t4
    rw [show mayB 2 t = (t == 5) by unfold mayB; simp [t1, t3, t4]; rfl]
    clear t1 t3 t4
    go_enter Try.func40, Try.ntmps40
    go_wp2_with fail
    all_goals go_ret
    all_goals exact ⟨rfl, rfl⟩
  have b1 : (f == 1) = false := by simpa using h1
  have b2 : (f == 2) = false := by simpa using h2
  by_cases h3 : f = 3
  · subst h3
    rw [show mayB 3 t = (t == 1) by unfold mayB; simp; rfl]
    clear h1 h2 b1 b2
    go_enter Try.func40, Try.ntmps40
    go_wp2_with fail
    all_goals go_ret
    all_goals exact ⟨rfl, rfl⟩
  by_cases h4 : f = 4
  · subst h4
    rw [show mayB 4 t = (t == 1) by unfold mayB; simp; rfl]
    clear h1 h2 h3 b1 b2
    go_enter Try.func40, Try.ntmps40
    go_wp2_with fail
    all_goals go_ret
    all_goals exact ⟨rfl, rfl⟩
  have b3 : (f == 3) = false := by simpa using h3
  have b4 : (f == 4) = false := by simpa using h4
  rw [show mayB f t = false by unfold mayB; simp [h1, h2, h3, h4]]
  clear h1 h2 h3 h4
  go_enter Try.func40, Try.ntmps40
  go_wp2_with fail
  all_goals go_ret
  all_goals exact ⟨rfl, rfl⟩
/-- The rows of the table of moves, by the state that is left. -/
def rowOf (f : Int) : Value := .agg #[.bool (mayB f 0), .bool (mayB f 1), .bool (mayB f 2), .bool (mayB f 3), .bool (mayB f 4), .bool (mayB f 5)]
abbrev table : Value := .agg #[.bool false, .bool false, .bool false, .bool false, .bool false, .bool false, .bool false, .bool false, .bool true, .bool false, .bool false, .bool false, .bool false, .bool true, .bool false, .bool true, .bool true, .bool true, .bool false, .bool true, .bool false, .bool false, .bool false, .bool false, .bool false, .bool true, .bool false, .bool false, .bool false, .bool false, .bool false, .bool false, .bool false, .bool false, .bool false, .bool false]
theorem row_any (f : Int) (h : 0 ≤ f ∧ f < 6) : ∀ w, (Instr.index 88 table (.int .i64 f)).run Try.prog w = .ok (rowOf f) w := by
  rcases (show f = 0 ∨ f = 1 ∨ f = 2 ∨ f = 3 ∨ f = 4 ∨ f = 5 by omega) with rfl | rfl | rfl | rfl | rfl | rfl
  · rw [show rowOf 0 = .agg #[.bool false, .bool false, .bool false, .bool false, .bool false, .bool false] by simp [rowOf, mayB]]; intro w; kernel_rfl
  · rw [show rowOf 1 = .agg #[.bool false, .bool false, .bool true, .bool false, .bool false, .bool false] by simp [rowOf, mayB]]; intro w; kernel_rfl
  · rw [show rowOf 2 = .agg #[.bool false, .bool true, .bool false, .bool true, .bool true, .bool true] by simp [rowOf, mayB]]; intro w; kernel_rfl
  · rw [show rowOf 3 = .agg #[.bool false, .bool true, .bool false, .bool false, .bool false, .bool false] by simp [rowOf, mayB]]; intro w; kernel_rfl
  · rw [show rowOf 4 = .agg #[.bool false, .bool true, .bool false, .bool false, .bool false, .bool false] by simp [rowOf, mayB]]; intro w; kernel_rfl
  · rw [show rowOf 5 = .agg #[.bool false, .bool false, .bool false, .bool false, .bool false, .bool false] by simp [rowOf, mayB]]; intro w; kernel_rfl
theorem col_any (f t : Int) (hf : 0 ≤ f ∧ f < 6) (h : 0 ≤ t ∧ t < 6) : ∀ w, (Instr.index 87 (rowOf f) (.int .i64 t)).run Try.prog w = .ok (.bool (mayB f t)) w := by
  rcases (show f = 0 ∨ f = 1 ∨ f = 2 ∨ f = 3 ∨ f = 4 ∨ f = 5 by omega) with rfl | rfl | rfl | rfl | rfl | rfl
  · rw [show rowOf 0 = .agg #[.bool false, .bool false, .bool false, .bool false, .bool false, .bool false] by simp [rowOf, mayB]]
    rcases (show t = 0 ∨ t = 1 ∨ t = 2 ∨ t = 3 ∨ t = 4 ∨ t = 5 by omega) with rfl | rfl | rfl | rfl | rfl | rfl
    · rw [show mayB 0 0 = false by decide]; intro w; kernel_rfl
    · rw [show mayB 0 1 = false by decide]; intro w; kernel_rfl
    · rw [show mayB 0 2 = false by decide]; intro w; kernel_rfl
    · rw [show mayB 0 3 = false by decide]; intro w; kernel_rfl
    · rw [show mayB 0 4 = false by decide]; intro w; kernel_rfl
    · rw [show mayB 0 5 = false by decide]; intro w; kernel_rfl
  · rw [show rowOf 1 = .agg #[.bool false, .bool false, .bool true, .bool false, .bool false, .bool false] by simp [rowOf, mayB]]
    rcases (show t = 0 ∨ t = 1 ∨ t = 2 ∨ t = 3 ∨ t = 4 ∨ t = 5 by omega) with rfl | rfl | rfl | rfl | rfl | rfl
    · rw [show mayB 1 0 = false by decide]; intro w; kernel_rfl
    · rw [show mayB 1 1 = false by decide]; intro w; kernel_rfl
    · rw [show mayB 1 2 = true by decide]; intro w; kernel_rfl
    · rw [show mayB 1 3 = false by decide]; intro w; kernel_rfl
    · rw [show mayB 1 4 = false by decide]; intro w; kernel_rfl
    · rw [show mayB 1 5 = false by decide]; intro w; kernel_rfl
  · rw [show rowOf 2 = .agg #[.bool false, .bool true, .bool false, .bool true, .bool true, .bool true] by simp [rowOf, mayB]]
    rcases (show t = 0 ∨ t = 1 ∨ t = 2 ∨ t = 3 ∨ t = 4 ∨ t = 5 by omega) with rfl | rfl | rfl | rfl | rfl | rfl
    · rw [show mayB 2 0 = false by decide]; intro w; kernel_rfl
    · rw [show mayB 2 1 = true by decide]; intro w; kernel_rfl
    · rw [show mayB 2 2 = false by decide]; intro w; kernel_rfl
    · rw [show mayB 2 3 = true by decide]; intro w; kernel_rfl
    · rw [show mayB 2 4 = true by decide]; intro w; kernel_rfl
    · rw [show mayB 2 5 = true by decide]; intro w; kernel_rfl
  · rw [show rowOf 3 = .agg #[.bool false, .bool true, .bool false, .bool false, .bool false, .bool false] by simp [rowOf, mayB]]
    rcases (show t = 0 ∨ t = 1 ∨ t = 2 ∨ t = 3 ∨ t = 4 ∨ t = 5 by omega) with rfl | rfl | rfl | rfl | rfl | rfl
    · rw [show mayB 3 0 = false by decide]; intro w; kernel_rfl
    · rw [show mayB 3 1 = true by decide]; intro w; kernel_rfl
    · rw [show mayB 3 2 = false by decide]; intro w; kernel_rfl
    · rw [show mayB 3 3 = false by decide]; intro w; kernel_rfl
    · rw [show mayB 3 4 = false by decide]; intro w; kernel_rfl
    · rw [show mayB 3 5 = false by decide]; intro w; kernel_rfl
  · rw [show rowOf 4 = .agg #[.bool false, .bool true, .bool false, .bool false, .bool false, .bool false] by simp [rowOf, mayB]]
    rcases (show t = 0 ∨ t = 1 ∨ t = 2 ∨ t = 3 ∨ t = 4 ∨ t = 5 by omega) with rfl | rfl | rfl | rfl | rfl | rfl
    · rw [show mayB 4 0 = false by decide]; intro w; kernel_rfl
    · rw [show mayB 4 1 = true by decide]; intro w; kernel_rfl
    · rw [show mayB 4 2 = false by decide]; intro w; kernel_rfl
    · rw [show mayB 4 3 = false by decide]; intro w; kernel_rfl
    · rw [show mayB 4 4 = false by decide]; intro w; kernel_rfl
    · rw [show mayB 4 5 = false by decide]; intro w; kernel_rfl
  · rw [show rowOf 5 = .agg #[.bool false, .bool false, .bool false, .bool false, .bool false, .bool false] by simp [rowOf, mayB]]
    rcases (show t = 0 ∨ t = 1 ∨ t = 2 ∨ t = 3 ∨ t = 4 ∨ t = 5 by omega) with rfl | rfl | rfl | rfl | rfl | rfl
    · rw [show mayB 5 0 = false by decide]; intro w; kernel_rfl
    · rw [show mayB 5 1 = false by decide]; intro w; kernel_rfl
    · rw [show mayB 5 2 = false by decide]; intro w; kernel_rfl
    · rw [show mayB 5 3 = false by decide]; intro w; kernel_rfl
    · rw [show mayB 5 4 = false by decide]; intro w; kernel_rfl
    · rw [show mayB 5 5 = false by decide]; intro w; kernel_rfl
set_option maxRecDepth 100000 in
set_option maxHeartbeats 1000000 in
theorem moves_any (w : World) : Calls Try.prog 59 #[] w (AnsB table w) := by
  go_enter Try.func59, Try.ntmps59
  go_wp2_with (first | (refine wpList_store_row rfl 88 (.tmp 0) (.tmp 5) rfl w.heap.size #[.bool false, .bool false, .bool false, .bool false, .bool false, .bool false, .bool false, .bool false, .bool true, .bool false, .bool false, .bool false, .bool false, .bool true, .bool false, .bool true, .bool true, .bool true, .bool false, .bool true, .bool false, .bool false, .bool false, .bool false, .bool false, .bool true, .bool false, .bool false, .bool false, .bool false, .bool false, .bool false, .bool false, .bool false, .bool false, .bool false] rfl rfl 88 #[.bool false, .bool false, .bool false, .bool false, .bool false, .bool false, .bool false, .bool false, .bool false, .bool false, .bool false, .bool false, .bool false, .bool false, .bool false, .bool false, .bool false, .bool false, .bool false, .bool false, .bool false, .bool false, .bool false, .bool false, .bool false, .bool false, .bool false, .bool false, .bool false, .bool false, .bool false, .bool false, .bool false, .bool false, .bool false, .bool false] (heap_alloc_new _ _) (by kernel_rfl) rfl (by kernel_rfl) ?_) | (refine wpList_built rfl 87 #[(2, .const (.bool true))] rfl #[.bool false, .bool false, .bool true, .bool false, .bool false, .bool false] (by kernel_rfl) ?_) | (refine wpList_built rfl 87 #[(1, .const (.bool true)), (3, .const (.bool true)), (4, .const (.bool true)), (5, .const (.bool true))] rfl #[.bool false, .bool true, .bool false, .bool true, .bool true, .bool true] (by kernel_rfl) ?_) | (refine wpList_built rfl 87 #[(1, .const (.bool true))] rfl #[.bool false, .bool true, .bool false, .bool false, .bool false, .bool false] (by kernel_rfl) ?_) | (refine wpList_built rfl 88 #[(1, .tmp 1), (2, .tmp 2), (3, .tmp 3), (4, .tmp 4)] rfl #[.bool false, .bool false, .bool false, .bool false, .bool false, .bool false, .bool false, .bool false, .bool true, .bool false, .bool false, .bool false, .bool false, .bool true, .bool false, .bool true, .bool true, .bool true, .bool false, .bool true, .bool false, .bool false, .bool false, .bool false, .bool false, .bool true, .bool false, .bool false, .bool false, .bool false, .bool false, .bool false, .bool false, .bool false, .bool false, .bool false] (by kernel_rfl) ?_))
  refine bodyPost_ret (results_cell_row (by rfl) _ _ w.heap.size 88 _ (0, 0) _ rfl (setRow_heap _ _ _ _ 88 _ (heap_alloc_new _ _)) Try.underlying88 rfl (by kernel_rfl)) rfl ?_
  exact ⟨rfl, below_setRow (below_alloc (Below.refl _ _) _) (Nat.le_refl _) _⟩
set_option maxRecDepth 100000 in
set_option maxHeartbeats 1000000 in
theorem may_any (f t : Int) (w : World) : Calls Try.prog 47 #[.int .i64 f, .int .i64 t] w (AnsB (.bool (mayB f t)) w) := by
  have c := fun w => moves_any w
  by_cases h0 : 0 ≤ f ∧ f < 6
  · have i1 := fun w => isstate_yes f h0 w
    by_cases h1 : 0 ≤ t ∧ t < 6
    · have i2 := fun w => isstate_yes t h1 w
      have ir := row_any f h0
      have ic := col_any f t h0 h1
      obtain ⟨h2, h3⟩ := h0
      obtain ⟨h4, h5⟩ := h1
      generalize mayB f t = b at *
      generalize rowOf f = r at *
      go_enter Try.func47, Try.ntmps47
      go_wp2_with (first | (go_at_call 58; ((with_reducible refine (i1 _).mono ?_); rintro e w' ⟨rfl, rfl⟩)) | (go_at_call 58; ((with_reducible refine (i2 _).mono ?_); rintro e w' ⟨rfl, rfl⟩)) | (go_at_call 59; ((with_reducible refine (c _).mono ?_); rintro e w' ⟨rfl, hb⟩)))
      go_ret
      exact ⟨rfl, hb⟩
    · have i2 := fun w => isstate_no t h1 w
      rw [may_out (Or.inr h1)]
      clear h0 h1
      go_enter Try.func47, Try.ntmps47
      go_wp2_with (first | (go_at_call 58; ((with_reducible refine (i1 _).mono ?_); rintro e w' ⟨rfl, rfl⟩)) | (go_at_call 58; ((with_reducible refine (i2 _).mono ?_); rintro e w' ⟨rfl, rfl⟩)))
      go_ret
      exact ⟨rfl, Below.refl _ _⟩
  · have i1 := fun w => isstate_no f h0 w
    rw [may_out (Or.inl h0)]
    clear h0
    go_enter Try.func47, Try.ntmps47
    go_wp2_with (first | (go_at_call 58; ((with_reducible refine (i1 _).mono ?_); rintro e w' ⟨rfl, rfl⟩)))
    go_ret
    exact ⟨rfl, Below.refl _ _⟩
end St
end Go.Proofs.Yteigcjgohhgjcaa
