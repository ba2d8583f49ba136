/- Plain facts on the rising list of a set's members: where a number stands in it, what it is behind the number is taken in or out. -/
import Derived.Test.YtoamabmnbldgkaaDoorPlaysA
namespace Go.Proofs.YtoamabmnbldgkaaDoor
open Go.RowKit Go.Lib Fx Bm
set_option linter.unusedVariables false

/-- The members from x on, among the next d numbers. -/
def restOf (M : Nat → Bool) (x : Nat) : Nat → List Nat
  | 0 => []
  | d + 1 => restOf M x d ++ (if M (x + d) then [x + d] else [])
theorem mem_rest (M : Nat → Bool) (x : Nat) : ∀ d, mem M (x + d) = mem M x ++ restOf M x d
  | 0 => by simp [restOf]
  | d + 1 => by
    rw [show x + (d + 1) = (x + d) + 1 from rfl, mem_succ, mem_rest M x d, List.append_assoc]; rfl
theorem rest_head (M : Nat → Bool) (x : Nat) : ∀ d, restOf M x (d + 1) = (if M x then [x] else []) ++ restOf M (x + 1) d
  | 0 => by simp [restOf]
  | d + 1 => by
    have e : restOf M x (d + 2) = restOf M x (d + 1) ++ (if M (x + (d + 1)) then [x + (d + 1)] else []) := rfl
    have e2 : restOf M (x + 1) (d + 1) = restOf M (x + 1) d ++ (if M (x + 1 + d) then [x + 1 + d] else []) := rfl
    rw [e, rest_head M x d, e2, show x + (d + 1) = x + 1 + d by omega, List.append_assoc]
theorem mem_parts (M : Nat → Bool) {x n : Nat} (h : x < n) : mem M n = mem M x ++ ((if M x then [x] else []) ++ restOf M (x + 1) (n - x - 1)) := by
  obtain ⟨d, rfl⟩ : ∃ d, n = x + (d + 1) := ⟨n - x - 1, by omega⟩
  rw [mem_rest, rest_head, show x + (d + 1) - x - 1 = d by omega]
theorem rest_upd (M : Nat → Bool) {x y : Nat} (b : Bool) (h : x < y) : ∀ d, restOf (upd M x b) y d = restOf M y d
  | 0 => rfl
  | d + 1 => by
    unfold restOf
    rw [rest_upd M b h d, show upd M x b (y + d) = M (y + d) by unfold upd; rw [if_neg (by omega)]]
theorem mem_upd_low (M : Nat → Bool) (x : Nat) (b : Bool) : ∀ q, q ≤ x → mem (upd M x b) q = mem M q
  | 0, _ => rfl
  | q + 1, h => by
    rw [mem_succ, mem_succ, mem_upd_low M x b q (by omega), show upd M x b q = M q by unfold upd; rw [if_neg (by omega)]]
theorem mem_upd (M : Nat → Bool) {x n : Nat} (b : Bool) (h : x < n) : mem (upd M x b) n = mem M x ++ ((if b then [x] else []) ++ restOf M (x + 1) (n - x - 1)) := by
  rw [mem_parts _ h, mem_upd_low M x b x (Nat.le_refl _), rest_upd M b (by omega), show upd M x b x = b by unfold upd; rw [if_pos rfl]]
theorem mem_lt {M : Nat → Bool} {x k : Nat} (h : k ∈ mem M x) : k < x := List.mem_range.1 (List.mem_filter.1 h).1
theorem rest_ge {M : Nat → Bool} {x k : Nat} : ∀ {d : Nat}, k ∈ restOf M x d → x ≤ k
  | 0, h => by cases h
  | d + 1, h => by
    have e : restOf M x (d + 1) = restOf M x d ++ (if M (x + d) then [x + d] else []) := rfl
    rw [e, List.mem_append] at h
    rcases h with h | h
    · exact rest_ge h
    · by_cases hM : M (x + d) = true
      · rw [if_pos hM, List.mem_singleton] at h; omega
      · rw [if_neg hM] at h; cases h
/-- As whole numbers: those below x, x itself or not, those above. -/
theorem ints_parts (M : Nat → Bool) {x n : Nat} (h : x < n) : ∃ A B : List Int, (∀ a ∈ A, a < (x : Int)) ∧ (∀ b ∈ B, (x : Int) < b) ∧ A.length + B.length ≤ n ∧
    ((mem M n).map fun (k : Nat) => (k : Int)) = A ++ ((if M x then [(x : Int)] else []) ++ B) ∧ ∀ b, ((mem (upd M x b) n).map fun (k : Nat) => (k : Int)) = A ++ ((if b then [(x : Int)] else []) ++ B) := by
  have hc : ∀ b : Bool, ((if b then [x] else ([] : List Nat)).map fun (k : Nat) => (k : Int)) = (if b then [(x : Int)] else []) := fun b => by cases b <;> rfl
  refine ⟨(mem M x).map fun (k : Nat) => (k : Int), (restOf M (x + 1) (n - x - 1)).map fun (k : Nat) => (k : Int), fun a ha => ?_, fun b hb => ?_, ?_, ?_, fun b => ?_⟩
  · obtain ⟨k, hk, rfl⟩ := List.mem_map.1 ha
    have := mem_lt hk; omega
  · obtain ⟨k, hk, rfl⟩ := List.mem_map.1 hb
    have := rest_ge hk; omega
  · rw [List.length_map, List.length_map]
    have e1 : (mem M n).length ≤ n := by rw [mem_len]; exact cnt_le _ _
    rw [mem_parts M h, List.length_append, List.length_append] at e1
    omega
  · rw [mem_parts M h, List.map_append, List.map_append, hc]
  · rw [mem_upd M b h, List.map_append, List.map_append, hc]
end Go.Proofs.YtoamabmnbldgkaaDoor
