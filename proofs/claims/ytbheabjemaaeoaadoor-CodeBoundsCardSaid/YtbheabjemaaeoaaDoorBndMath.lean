/- CodeBounds: what may be of the program that it builds. -/
import Derived.Test.YtbheabjemaaeoaaDoorBnd
namespace Go.Proofs.YtbheabjemaaeoaaDoor
open Go.RowKit Go.Lib Fx Ho Gr
set_option linter.unusedVariables false
namespace Cd
variable {G nf len n : Int} {x : Ins} {f k : Nat}
def pf (f k : Nat) (x : Ins) : List (List Ins) := (List.replicate f (List.replicate k zi)).set (f - 1) ((List.replicate k zi).set (k - 1) x)
theorem pf_len : (pf f k x).length = f := by unfold pf; rw [List.length_set, List.length_replicate]
theorem pf_at {i : Nat} (hi : i < f) : (pf f k x).getD i [] = if i = f - 1 then (List.replicate k zi).set (k - 1) x else List.replicate k zi := by
  unfold pf
  rw [List.getD_eq_getElem?_getD]
  split
  · rename_i e
    rw [e, List.getElem?_set_self (by rw [List.length_replicate]; omega)]; rfl
  · rename_i e
    rw [List.getElem?_set_ne (fun h => e h.symm), List.getElem?_replicate, if_pos hi]; rfl
theorem pf_row {i : Nat} (hi : i < f) : ((pf f k x).getD i []).length = k := by
  rw [pf_at hi]; split
  · rw [List.length_set, List.length_replicate]
  · rw [List.length_replicate]
theorem pf_ins {i j : Nat} (hi : i < f) (hj : j < k) : ((pf f k x).getD i []).getD j zi = if i = f - 1 ∧ j = k - 1 then x else zi := by
  rw [pf_at hi]
  by_cases e : i = f - 1
  · rw [if_pos e, List.getD_eq_getElem?_getD]
    by_cases e2 : j = k - 1
    · rw [if_pos ⟨e, e2⟩, e2, List.getElem?_set_self (by rw [List.length_replicate]; omega)]; rfl
    · rw [if_neg (fun h => e2 h.2), List.getElem?_set_ne (fun h => e2 h.symm), List.getElem?_replicate, if_pos hj]; rfl
  · rw [if_neg e, if_neg (fun h => e h.1), List.getD_eq_getElem?_getD, List.getElem?_replicate, if_pos hj]; rfl
theorem pf_pos : ∀ i, i ≤ f → pos (pf f k x) i = i * k
  | 0, _ => by simp [pos]
  | i + 1, hi => by
    show pos (pf f k x) i + _ = _
    rw [pf_pos i (by omega), pf_row (by omega), Nat.add_mul]; omega
theorem zi_ok : okI G nf len zi = true := by
  show (decide ((0 : Int) ≤ 0 ∧ (0 : Int) < 18) && (hasB G nf len 0 0 && (hasB G nf len 0 0 && hasB G nf len 0 0))) = true
  have : hasB G nf len 0 0 = true := by unfold hasB; exact decide_eq_true ⟨by decide, by show (0 : Int) < 1; decide⟩
  rw [this]; rfl
theorem bnd_may (hf : 1 ≤ f ∧ f ≤ 16) (hk : 1 ≤ k ∧ k ≤ 64) (hG : 0 ≤ G ∧ G ≤ 32) : MayIs G (pf f k x) (if okI G f k x = true then 0 else 1 + (f : Int) * (k : Int)) := by
  have hc : CntOk G (pf f k x) := ⟨by rw [pf_len]; omega, by rw [pf_len]; omega, hG.1, hG.2, fun i hi => by rw [pf_len] at hi; rw [pf_row hi]; omega⟩
  have hat : ∀ i j, i < f → j < k → okAt G (pf f k x) i j = if i = f - 1 ∧ j = k - 1 then okI G f k x else true := fun i j hi hj => by
    unfold okAt
    rw [pf_len, pf_row hi, pf_ins hi hj]
    split
    · rfl
    · exact zi_ok
  split
  · rename_i h
    refine .inr (.inl ⟨hc, fun i hi j hj => ?_, rfl⟩)
    rw [pf_len] at hi
    rw [pf_row hi] at hj
    rw [hat i j hi hj]; split
    · exact h
    · rfl
  · rename_i h
    have hp : pos (pf f k x) (f - 1) = (f - 1) * k := pf_pos (f - 1) (by omega)
    refine .inr (.inr ⟨hc, f - 1, k - 1, by rw [pf_len]; omega, by rw [pf_row (by omega)]; omega, fun i' hi' j' hj' => ?_, fun j' hj' => ?_, ?_, ?_⟩)
    · rw [pf_row (by omega)] at hj'
      rw [hat i' j' (by omega) hj', if_neg (fun e => by omega)]
    · rw [hat (f - 1) j' (by omega) (by omega), if_neg (fun e => by omega)]
    · rw [hat (f - 1) (k - 1) (by omega) (by omega), if_pos ⟨rfl, rfl⟩]
      exact Bool.not_eq_true _ ▸ h
    · rw [hp]
      obtain ⟨a, rfl⟩ : ∃ a, f = a + 1 := ⟨f - 1, by omega⟩
      obtain ⟨b, rfl⟩ : ∃ b, k = b + 1 := ⟨k - 1, by omega⟩
      rw [Nat.add_sub_cancel, Nat.add_sub_cancel]
      push_cast
      rw [Int.add_mul]
      omega
/-- What may be of each of the seven. -/
theorem ok_seven (xx : Int) : okI G nf len (2, xx, 0, 0) = decide (0 ≤ xx ∧ xx < 16) ∧ okI G nf len (3, 0, xx, 0) = decide (0 ≤ xx ∧ xx < 256) ∧ okI G nf len (6, 0, xx, 0) = decide (0 ≤ xx ∧ xx < G) ∧ okI G nf len (7, xx, 0, 0) = decide (0 ≤ xx ∧ xx < G) ∧ okI G nf len (8, xx, 0, 0) = decide (0 ≤ xx ∧ xx < nf) ∧ okI G nf len (14, xx, 0, 0) = decide (0 ≤ xx ∧ xx < len) ∧ okI G nf len (11, xx, 0, 0) = decide (0 ≤ xx ∧ xx < 32) := by
  have b0 : hasB G nf len 0 0 = true := by unfold hasB; exact decide_eq_true ⟨by decide, by show (0 : Int) < 1; decide⟩
  have b1 : hasB G nf len 1 0 = true := by unfold hasB; exact decide_eq_true ⟨by decide, by show (0 : Int) < 256; decide⟩
  have b2 : hasB G nf len 2 0 = true := by unfold hasB; exact decide_eq_true ⟨by decide, by show (0 : Int) < 16; decide⟩
  refine ⟨?_, ?_, ?_, ?_, ?_, ?_, ?_⟩
  · show (true && (hasB G nf len 2 xx && (hasB G nf len 2 0 && hasB G nf len 1 0))) = _
    rw [b2, b1]; simp only [Bool.true_and, Bool.and_true]; rfl
  · show (true && (hasB G nf len 2 0 && (hasB G nf len 1 xx && hasB G nf len 2 0))) = _
    rw [b2]; simp only [Bool.true_and, Bool.and_true]; rfl
  · show (true && (hasB G nf len 2 0 && (hasB G nf len 3 xx && hasB G nf len 0 0))) = _
    rw [b2, b0]; simp only [Bool.true_and, Bool.and_true]; rfl
  · show (true && (hasB G nf len 3 xx && (hasB G nf len 2 0 && hasB G nf len 0 0))) = _
    rw [b2, b0]; simp only [Bool.true_and, Bool.and_true]; rfl
  · show (true && (hasB G nf len 4 xx && (hasB G nf len 2 0 && hasB G nf len 0 0))) = _
    rw [b2, b0]; simp only [Bool.true_and, Bool.and_true]; rfl
  · show (true && (hasB G nf len 5 xx && (hasB G nf len 0 0 && hasB G nf len 0 0))) = _
    rw [b0]; simp only [Bool.true_and, Bool.and_true]; rfl
  · show (true && (hasB G nf len 6 xx && (hasB G nf len 0 0 && hasB G nf len 0 0))) = _
    rw [b0]; simp only [Bool.true_and, Bool.and_true]; rfl
end Cd
end Go.Proofs.YtbheabjemaaeoaaDoor
