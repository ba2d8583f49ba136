/- The document's own Put: a rising list with a number, once. -/
import Derived.Test.YtbheabjemaaeoabRow

namespace Go.Proofs.Ytbheabjemaaeoab
open Go.RowKit Go.Lib Fx Ho Qu
set_option linter.unusedVariables false
namespace Rw
variable {w w' : World} {v : Value} {zs A B : List Int} {S : Home}
def putL : List Int → Int → List Int
  | [], x => [x]
  | y :: l, x => if y < x then y :: putL l x else if y = x then y :: l else x :: y :: l
theorem mem_putL {x z : Int} : ∀ l : List Int, z ∈ putL l x ↔ z = x ∨ z ∈ l
  | [] => by simp [putL]
  | y :: l => by
    unfold putL
    by_cases h : y < x
    · rw [if_pos h, List.mem_cons, mem_putL l, List.mem_cons]
      constructor
      · rintro (h | h | h) <;> simp [h]
      · rintro (h | h | h) <;> simp [h]
    · rw [if_neg h]
      by_cases e : y = x
      · rw [if_pos e, e]; simp
      · rw [if_neg e]; simp
theorem rise_putL {x : Int} : ∀ l : List Int, l.Pairwise (· < ·) → (putL l x).Pairwise (· < ·)
  | [], _ => by simp [putL]
  | y :: l, h => by
    obtain ⟨h1, h2⟩ := List.pairwise_cons.1 h
    unfold putL
    by_cases e : y < x
    · rw [if_pos e]
      refine List.pairwise_cons.2 ⟨fun z hz => ?_, rise_putL l h2⟩
      rcases (mem_putL l).1 hz with rfl | hz
      · exact e
      · exact h1 z hz
    · rw [if_neg e]
      by_cases e2 : y = x
      · rw [if_pos e2]; exact h
      · rw [if_neg e2]
        refine List.pairwise_cons.2 ⟨fun z hz => ?_, h⟩
        rcases List.mem_cons.1 hz with rfl | hz
        · omega
        · have := h1 z hz; omega
/-- Two rising lists with the same members are one. -/
theorem rise_eq : ∀ {l m : List Int}, l.Pairwise (· < ·) → m.Pairwise (· < ·) → (∀ z, z ∈ l ↔ z ∈ m) → l = m
  | [], [], _, _, _ => rfl
  | [], y :: m, _, _, h => by have := (h y).2 (by simp); simp at this
  | y :: l, [], _, _, h => by have := (h y).1 (by simp); simp at this
  | x :: l, y :: m, h1, h2, h => by
    obtain ⟨a1, a2⟩ := List.pairwise_cons.1 h1
    obtain ⟨b1, b2⟩ := List.pairwise_cons.1 h2
    have hxy : x = y := by
      have hx := (h x).1 (by simp)
      have hy := (h y).2 (by simp)
      rcases List.mem_cons.1 hx with hx | hx
      · exact hx
      · rcases List.mem_cons.1 hy with hy | hy
        · exact hy.symm
        · have := b1 x hx; have := a1 y hy; omega
    subst hxy
    rw [rise_eq a2 b2 (fun z => ?_)]
    constructor
    · intro hz
      rcases List.mem_cons.1 ((h z).1 (List.mem_cons_of_mem _ hz)) with e | e
      · have := a1 z hz; omega
      · exact e
    · intro hz
      rcases List.mem_cons.1 ((h z).2 (List.mem_cons_of_mem _ hz)) with e | e
      · have := b1 z hz; omega
      · exact e
/-- Where the number belongs. -/
theorem put_at {x : Int} : ∀ l : List Int, ∃ A B, l = A ++ B ∧ (∀ a ∈ A, a < x) ∧ ((∃ C, B = x :: C ∧ putL l x = l) ∨ ((∀ y C, B = y :: C → x < y) ∧ putL l x = A ++ x :: B))
  | [] => ⟨[], [], rfl, by simp, Or.inr ⟨by simp, rfl⟩⟩
  | y :: l => by
    by_cases e : y < x
    · obtain ⟨A, B, h1, h2, h3⟩ := put_at (x := x) l
      refine ⟨y :: A, B, by rw [h1]; rfl, fun a ha => ?_, ?_⟩
      · rcases List.mem_cons.1 ha with rfl | ha
        · exact e
        · exact h2 a ha
      · have hp : putL (y :: l) x = y :: putL l x := by show (if _ then _ else _) = _; rw [if_pos e]
        rcases h3 with ⟨C, h4, h5⟩ | ⟨h4, h5⟩
        · exact Or.inl ⟨C, h4, by rw [hp, h5]⟩
        · exact Or.inr ⟨h4, by rw [hp, h5]; rfl⟩
    · refine ⟨[], y :: l, rfl, by simp, ?_⟩
      by_cases e2 : y = x
      · exact Or.inl ⟨l, by rw [e2], by show (if _ then _ else _) = _; rw [if_neg e, if_pos e2]⟩
      · exact Or.inr ⟨fun z C h => by injection h with h1 h2; omega, by show (if _ then _ else _) = _; rw [if_neg e, if_neg e2]; rfl⟩
end Rw
end Go.Proofs.Ytbheabjemaaeoab
