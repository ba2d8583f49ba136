/- Rows of one class alone: what the calls of package central make of them. -/
import Derived.Test.YtejijddhmckgiaaCenTold
namespace Go.Proofs.Ytejijddhmckgiaa
open Go.RowKit Go.Lib Fx Ho Rw Mp
set_option linter.unusedVariables false
namespace Ce
def tq (A B C D : List Int) : Rows := fun r => if r = 12 then A else if r = 13 then B else if r = 14 then C else if r = 15 then D else []
theorem tq_ext {Q : Rows} {A B C D : List Int} (h1 : Q 12 = A) (h2 : Q 13 = B) (h3 : Q 14 = C) (h4 : Q 15 = D) (h5 : ∀ s, s ≠ 12 → s ≠ 13 → s ≠ 14 → s ≠ 15 → Q s = []) : Q = tq A B C D := by
  funext s
  unfold tq
  by_cases e1 : s = 12
  · subst e1; rw [if_pos rfl, h1]
  · by_cases e2 : s = 13
    · subst e2; rw [if_neg e1, if_pos rfl, h2]
    · by_cases e3 : s = 14
      · subst e3; rw [if_neg e1, if_neg e2, if_pos rfl, h3]
      · by_cases e4 : s = 15
        · subst e4; rw [if_neg e1, if_neg e2, if_neg e3, if_pos rfl, h4]
        · rw [if_neg e1, if_neg e2, if_neg e3, if_neg e4, h5 s e1 e2 e3 e4]
theorem tq_no {A B C D : List Int} {s : Nat} (e1 : s ≠ 12) (e2 : s ≠ 13) (e3 : s ≠ 14) (e4 : s ≠ 15) : tq A B C D s = [] := by
  unfold tq; rw [if_neg e1, if_neg e2, if_neg e3, if_neg e4]
theorem mem_seq {c y : Int} : ∀ n, y ∈ seqI c n → c ≤ y ∧ y < c + n
  | 0, h => by cases h
  | n + 1, h => by
    rcases List.mem_append.1 (show y ∈ seqI c n ++ [c + (n : Int)] from h) with h | h
    · have := mem_seq n h; omega
    · have : y = c + (n : Int) := by simpa using h
      omega
theorem put12 {A B C D : List Int} {x : Int} (h1 : x ∉ A) (h2 : x ∉ B) (h3 : x ∉ C) (h4 : x ∉ D) : putQ (tq A B C D) 12 x = tq (A ++ [x]) B C D := by
  refine tq_ext ?_ ?_ ?_ ?_ (fun s e1 e2 e3 e4 => ?_)
  · show A.erase x ++ [x] = _; rw [List.erase_of_not_mem h1]
  · exact List.erase_of_not_mem h2
  · exact List.erase_of_not_mem h3
  · exact List.erase_of_not_mem h4
  · unfold putQ delQ; rw [upd_ne _ _ e1, tq_no e1 e2 e3 e4]; rfl
theorem put13 {A B C D : List Int} {x : Int} (h1 : x ∉ A) (h2 : x ∉ B) (h3 : x ∉ C) (h4 : x ∉ D) : putQ (tq A B C D) 13 x = tq A (B ++ [x]) C D := by
  refine tq_ext ?_ ?_ ?_ ?_ (fun s e1 e2 e3 e4 => ?_)
  · exact List.erase_of_not_mem h1
  · show B.erase x ++ [x] = _; rw [List.erase_of_not_mem h2]
  · exact List.erase_of_not_mem h3
  · exact List.erase_of_not_mem h4
  · unfold putQ delQ; rw [upd_ne _ _ e2, tq_no e1 e2 e3 e4]; rfl
theorem beg_tq (A B C D : List Int) : begQ (tq A B C D) = tq [] [] (C ++ A) (D ++ B) := by
  refine tq_ext rfl rfl rfl rfl (fun s e1 e2 e3 e4 => ?_)
  unfold begQ begT
  by_cases h : s < 64 ∧ s / 4 * 2 + s % 2 < 32
  · rw [if_pos h]
    by_cases h2 : s % 4 < 2
    · rw [if_pos h2]
    · rw [if_neg h2, tq_no e1 e2 e3 e4, tq_no (by omega) (by omega) (by omega) (by omega)]; rfl
  · rw [if_neg h, tq_no e1 e2 e3 e4]
theorem uns_tq (A B C D : List Int) : ∀ t, uns (tq A B C D) t = (if 6 < t then C.length else 0) + (if 7 < t then D.length else 0)
  | 0 => rfl
  | t + 1 => by
    show uns _ t + (tq A B C D (urow t)).length = _
    rw [uns_tq A B C D t]
    have hu : urow t = t / 2 * 4 + 2 + t % 2 := rfl
    by_cases e6 : t = 6
    · subst e6; simp [tq, urow]
    · by_cases e7 : t = 7
      · subst e7; simp [tq, urow]
      · rw [tq_no (by omega) (by omega) (by omega) (by omega)]
        by_cases h6 : 6 < t
        · rw [if_pos h6, if_pos (by omega), if_pos (by omega), if_pos (by omega)]; rfl
        · rw [if_neg h6, if_neg (by omega), if_neg (by omega), if_neg (by omega)]; rfl
theorem msum_tq (A B C D : List Int) : ∀ t, msum (tq A B C D) t = (if 6 < t then A.length else 0) + (if 7 < t then B.length else 0)
  | 0 => rfl
  | t + 1 => by
    show msum _ t + (tq A B C D (srow t)).length = _
    rw [msum_tq A B C D t]
    have hu : srow t = t / 2 * 4 + t % 2 := rfl
    by_cases e6 : t = 6
    · subst e6; simp [tq, srow]
    · by_cases e7 : t = 7
      · subst e7; simp [tq, srow]
      · rw [tq_no (by omega) (by omega) (by omega) (by omega)]
        by_cases h6 : 6 < t
        · rw [if_pos h6, if_pos (by omega), if_pos (by omega), if_pos (by omega)]; rfl
        · rw [if_neg h6, if_neg (by omega), if_neg (by omega), if_neg (by omega)]; rfl
theorem take_s (A B C D : List Int) (x : Int) : takeA (tq (A ++ [x]) B C D) 3 = (x, false, true) ∧ takeQ (tq (A ++ [x]) B C D) 3 = tq A B C D := by
  have e : (tq (A ++ [x]) B C D (3 * 4)).getLast? = some x := by show (A ++ [x]).getLast? = _; simp
  unfold takeA takeQ
  simp only [e]
  refine ⟨trivial, tq_ext ?_ rfl rfl rfl (fun s e1 e2 e3 e4 => ?_)⟩
  · show (A ++ [x]).dropLast = A; exact List.dropLast_concat
  · rw [upd_ne _ _ e1, tq_no e1 e2 e3 e4]
theorem take_u (B C D : List Int) (x : Int) : takeA (tq [] B (C ++ [x]) D) 3 = (x, true, true) ∧ takeQ (tq [] B (C ++ [x]) D) 3 = tq [] B C D := by
  have e0 : (tq [] B (C ++ [x]) D (3 * 4)).getLast? = none := rfl
  have e : (tq [] B (C ++ [x]) D (3 * 4 + 2)).getLast? = some x := by show (C ++ [x]).getLast? = _; simp
  unfold takeA takeQ
  simp only [e, e0]
  refine ⟨trivial, tq_ext rfl rfl ?_ rfl (fun s e1 e2 e3 e4 => ?_)⟩
  · show (C ++ [x]).dropLast = C; exact List.dropLast_concat
  · rw [upd_ne _ _ e3, tq_no e1 e2 e3 e4]
theorem takef_f (A B C D : List Int) (x : Int) : takeFA (tq A B C (D ++ [x])) 3 = (x, true) ∧ takeFQ (tq A B C (D ++ [x])) 3 = tq A B C D := by
  have e : (tq A B C (D ++ [x]) (3 * 4 + 3)).getLast? = some x := by show (D ++ [x]).getLast? = _; simp
  unfold takeFA takeFQ
  simp only [e]
  refine ⟨trivial, tq_ext rfl rfl rfl ?_ (fun s e1 e2 e3 e4 => ?_)⟩
  · show (D ++ [x]).dropLast = D; exact List.dropLast_concat
  · rw [upd_ne _ _ e4, tq_no e1 e2 e3 e4]
theorem wf_of {x : Int} (h : 0 ≤ x ∧ x < 1000) : (Lit.int .i64 x).wf = true := by
  simp only [Lit.wf]
  rw [show IntKind.i64.min = -9223372036854775808 from by decide, show IntKind.i64.max = 9223372036854775807 from by decide, decide_eq_true (by omega), decide_eq_true (by omega)]; rfl
end Ce
end Go.Proofs.Ytejijddhmckgiaa
