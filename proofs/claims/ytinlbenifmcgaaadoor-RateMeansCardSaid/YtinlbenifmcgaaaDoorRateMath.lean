/- The greatest ones of a row of floats: plain mathematics. -/
import Derived.Test.YtinlbenifmcgaaaDoorFKey
namespace Go.Proofs.YtinlbenifmcgaaaDoor
set_option linter.unusedVariables false
namespace Fk
def Fall (L : List Nat) : Prop := L.Pairwise (fun a b => key b ≤ key a)
theorem fall_eq {A B : List Nat} (hp : A.Perm B) (ha : Fall A) (hb : Fall B) : A.map key = B.map key := by
  have h1 : (A.map key).Perm (B.map key) := hp.map key
  have ha2 : (A.map key).Pairwise (fun a b => b ≤ a) := List.pairwise_map.2 ha
  have hb2 : (B.map key).Pairwise (fun a b => b ≤ a) := List.pairwise_map.2 hb
  exact h1.eq_of_pairwise (fun a b _ _ h k => by omega) ha2 hb2
/-- m are k greatest ones of l, falling. -/
def MostOf (l : List Nat) (k : Nat) (m : List Nat) : Prop := ∃ r : List Nat, (m ++ r).Perm l ∧ Fall m ∧ (∀ a ∈ m, ∀ b ∈ r, key b ≤ key a) ∧ m.length = min k l.length
theorem most_eq {l m out : List Nat} {k : Nat} (h : MostOf l k m) (ho : out.Perm l) (hf : Fall out) : m.map key = (out.take k).map key := by
  obtain ⟨r, h1, h2, h3, h4⟩ := h
  have hr : (r.mergeSort (fun a b => decide (key b ≤ key a))).Pairwise (fun a b => (decide (key b ≤ key a)) = true) := List.pairwise_mergeSort (fun a b c h k => by simp only [decide_eq_true_iff] at *; omega) (fun a b => by simp only [Bool.or_eq_true, decide_eq_true_iff]; omega) r
  have hp : (r.mergeSort (fun a b => decide (key b ≤ key a))).Perm r := List.mergeSort_perm r _
  generalize r.mergeSort (fun a b => decide (key b ≤ key a)) = r2 at *
  have hf2 : Fall (m ++ r2) := List.pairwise_append.2 ⟨h2, hr.imp (fun h => by simpa using h), fun a ha b hb => h3 a ha b (hp.mem_iff.1 hb)⟩
  have e := fall_eq ((hp.append_left m).trans (h1.trans ho.symm)) hf2 hf
  have e2 := congrArg (List.take m.length) e
  rw [List.map_append, List.take_left' (by simp)] at e2
  rw [e2, ← List.map_take]
  have hl := ho.length_eq
  rcases Nat.le_total k l.length with h | h
  · rw [h4, Nat.min_eq_left h]
  · rw [h4, Nat.min_eq_right h, List.take_of_length_le (by omega), List.take_of_length_le (by omega)]
theorem count_most {l m : List Nat} {k : Nat} (h : MostOf l k m) {x : Nat} (hx : x ∈ m) (hl : ∀ a ∈ m, key x ≤ key a) : l.countP (fun b => decide (key x < key b)) < m.length := by
  obtain ⟨r, h1, h2, h3, h4⟩ := h
  rw [← h1.countP_eq, List.countP_append]
  have h5 : r.countP (fun b => decide (key x < key b)) = 0 := List.countP_eq_zero.2 (fun b hb => by have := h3 x hx b hb; simp only [decide_eq_true_iff]; omega)
  have h6 : m.countP (fun b => decide (key x < key b)) < m.length := by
    refine Nat.lt_of_le_of_ne List.countP_le_length (fun e => ?_)
    have := List.countP_eq_length.1 e x hx
    simp only [decide_eq_true_iff] at this
    omega
  omega
end Fk
end Go.Proofs.YtinlbenifmcgaaaDoor
