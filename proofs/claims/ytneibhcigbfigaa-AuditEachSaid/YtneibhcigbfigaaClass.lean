/- What the package class's calls, and the document's own answers for them, are for every whole number of 64 bits: the classes' sizes, pages and places, and the class of a size. -/
import Derived.Test.YtneibhcigbfigaaKit
import Derived.LoopTactic
import Derived.Laws.Rows
namespace Go.Proofs.Ytneibhcigbfigaa
open Go.RowKit Go.Lib Fx
set_option linter.unusedVariables false

namespace Cl
def sizeN : Nat → Int
  | 0 => 1 | 1 => 2 | 2 => 3 | 3 => 4 | 4 => 6 | 5 => 8 | 6 => 12 | 7 => 16 | 8 => 24 | 9 => 32 | 10 => 48 | 11 => 64 | 12 => 96 | 13 => 128 | 14 => 192 | 15 => 256 | _ => 0
def pagesN : Nat → Int
  | 0 => 1 | 1 => 1 | 2 => 1 | 3 => 1 | 4 => 1 | 5 => 1 | 6 => 1 | 7 => 1 | 8 => 2 | 9 => 1 | 10 => 3 | 11 => 1 | 12 => 3 | 13 => 2 | 14 => 3 | 15 => 4 | _ => 0
/-- A class's size in words; 0 of none. -/
def sizeI (k : Int) : Int := if k < 0 then 0 else sizeN k.toNat
/-- A class's pages; 0 of none. -/
def pagesI (k : Int) : Int := if k < 0 then 0 else pagesN k.toNat
/-- A class's places; 0 of none. -/
def slotsI (k : Int) : Int := pagesI k * 64 / sizeI k
/-- The class of the least size that holds n; -1 of none. -/
def ofI (n : Int) : Int :=
  if n < 1 then -1 else if n ≤ 1 then 0 else if n ≤ 2 then 1 else if n ≤ 3 then 2 else if n ≤ 4 then 3 else if n ≤ 6 then 4 else if n ≤ 8 then 5 else if n ≤ 12 then 6 else if n ≤ 16 then 7
  else if n ≤ 24 then 8 else if n ≤ 32 then 9 else if n ≤ 48 then 10 else if n ≤ 64 then 11 else if n ≤ 96 then 12 else if n ≤ 128 then 13 else if n ≤ 192 then 14 else if n ≤ 256 then 15 else -1

theorem sizeN_out {m : Nat} (h : 16 ≤ m) : sizeN m = 0 := by
  obtain ⟨j, rfl⟩ : ∃ j, m = j + 16 := ⟨m - 16, by omega⟩
  rfl
theorem pagesN_out {m : Nat} (h : 16 ≤ m) : pagesN m = 0 := by
  obtain ⟨j, rfl⟩ : ∃ j, m = j + 16 := ⟨m - 16, by omega⟩
  rfl
theorem size_out {k : Int} (h : k < 0 ∨ 16 ≤ k) : sizeI k = 0 := by
  unfold sizeI
  by_cases hk : k < 0
  · rw [if_pos hk]
  · rw [if_neg hk, sizeN_out (by omega)]
theorem pages_out {k : Int} (h : k < 0 ∨ 16 ≤ k) : pagesI k = 0 := by
  unfold pagesI
  by_cases hk : k < 0
  · rw [if_pos hk]
  · rw [if_neg hk, pagesN_out (by omega)]
theorem slots_out {k : Int} (h : k < 0 ∨ 16 ≤ k) : slotsI k = 0 := by
  unfold slotsI; rw [pages_out h]; simp
/-- A fact of all sixteen classes is a fact of each. -/
theorem each {p : Int → Prop} (h : ∀ m : Fin 16, p (m.val : Int)) {k : Int} (h0 : 0 ≤ k) (h1 : k ≤ 15) : p k := by
  have := h ⟨k.toNat, by omega⟩
  rwa [show ((k.toNat : Nat) : Int) = k by omega] at this
theorem size_in {k : Int} (h0 : 0 ≤ k) (h1 : k ≤ 15) : 1 ≤ sizeI k ∧ sizeI k ≤ 256 :=
  each (p := fun k => 1 ≤ sizeI k ∧ sizeI k ≤ 256) (by decide) h0 h1
theorem pages_in {k : Int} (h0 : 0 ≤ k) (h1 : k ≤ 15) : 1 ≤ pagesI k ∧ pagesI k ≤ 4 :=
  each (p := fun k => 1 ≤ pagesI k ∧ pagesI k ≤ 4) (by decide) h0 h1
/-- Whole sizes fill p pages but for what may be lost: just where p is the class's number of pages, of those up to it. -/
theorem pages_test {k p : Int} (h0 : 0 ≤ k) (h1 : k ≤ 15) (p1 : 1 ≤ p) (p2 : p ≤ pagesI k) : (p * 64 % sizeI k * 8 ≤ p * 64 ↔ p = pagesI k) ∧ (sizeI k ≤ p * 64 ∧ p * 64 % sizeI k * 8 ≤ p * 64 ↔ p = pagesI k) := by
  have hp := pages_in h0 h1
  have hall := each (p := fun k => ∀ j : Fin 4, (j.val : Int) + 1 ≤ pagesI k → (((j.val : Int) + 1) * 64 % sizeI k * 8 ≤ ((j.val : Int) + 1) * 64 ↔ (j.val : Int) + 1 = pagesI k) ∧ (sizeI k ≤ ((j.val : Int) + 1) * 64 ∧ ((j.val : Int) + 1) * 64 % sizeI k * 8 ≤ ((j.val : Int) + 1) * 64 ↔ (j.val : Int) + 1 = pagesI k)) (by decide) h0 h1
  have := hall ⟨(p - 1).toNat, by omega⟩
  rw [show (((p - 1).toNat : Nat) : Int) + 1 = p by omega] at this
  exact this p2
theorem of_found {n k : Int} (hn : 1 ≤ n) (h0 : 0 ≤ k) (h1 : k ≤ 15) (h2 : n ≤ sizeI k) (h3 : k = 0 ∨ sizeI (k - 1) < n) : ofI n = k := by
  have hs := (size_in h0 h1).2
  have hall := each (p := fun k => ∀ m : Fin 257, 1 ≤ (m.val : Int) → (m.val : Int) ≤ sizeI k → (k = 0 ∨ sizeI (k - 1) < (m.val : Int)) → ofI (m.val : Int) = k) (by decide +kernel) h0 h1
  have := hall ⟨n.toNat, by omega⟩
  rw [show ((n.toNat : Nat) : Int) = n by omega] at this
  exact this hn h2 h3
theorem of_none {n : Int} (h : n < 1 ∨ 256 < n) : ofI n = -1 := by
  unfold ofI
  rcases h with h | h
  · rw [if_pos h]
  · repeat rw [if_neg (by omega)]
theorem each_n {p : Int → Prop} (h : ∀ m : Fin 256, p ((m.val : Int) + 1)) {n : Int} (h0 : 1 ≤ n) (h1 : n ≤ 256) : p n := by
  have := h ⟨(n - 1).toNat, by omega⟩
  rwa [show (((n - 1).toNat : Nat) : Int) + 1 = n by omega] at this
theorem of_in {n : Int} (h0 : 1 ≤ n) (h1 : n ≤ 256) : 0 ≤ ofI n ∧ ofI n ≤ 15 ∧ n ≤ sizeI (ofI n) ∧ (ofI n = 0 ∨ sizeI (ofI n - 1) < n) :=
  each_n (p := fun n => 0 ≤ ofI n ∧ ofI n ≤ 15 ∧ n ≤ sizeI (ofI n) ∧ (ofI n = 0 ∨ sizeI (ofI n - 1) < n)) (by decide +kernel) h0 h1
end Cl
open Cl

theorem index_any (k : Int) (h0 : 0 ≤ k) (h1 : k ≤ 15) : ∀ w, (Instr.index 123 (.agg #[.int .i64 1, .int .i64 2, .int .i64 3, .int .i64 4, .int .i64 6, .int .i64 8, .int .i64 12, .int .i64 16, .int .i64 24, .int .i64 32, .int .i64 48, .int .i64 64, .int .i64 96, .int .i64 128, .int .i64 192, .int .i64 256]) (.int .i64 k)).run Try.prog w = .ok (.int .i64 (sizeI k)) w := by
  rcases (show k = 0 ∨ k = 1 ∨ k = 2 ∨ k = 3 ∨ k = 4 ∨ k = 5 ∨ k = 6 ∨ k = 7 ∨ k = 8 ∨ k = 9 ∨ k = 10 ∨ k = 11 ∨ k = 12 ∨ k = 13 ∨ k = 14 ∨ k = 15 by omega) with rfl | rfl | rfl | rfl | rfl | rfl | rfl | rfl | rfl | rfl | rfl | rfl | rfl | rfl | rfl | rfl
  all_goals (intro w; kernel_rfl)

set_option maxRecDepth 100000 in
set_option maxHeartbeats 1000000 in
theorem sizes_any (w : World) : Calls Try.prog 108 #[] w (AnsB (.agg #[.int .i64 1, .int .i64 2, .int .i64 3, .int .i64 4, .int .i64 6, .int .i64 8, .int .i64 12, .int .i64 16, .int .i64 24, .int .i64 32, .int .i64 48, .int .i64 64, .int .i64 96, .int .i64 128, .int .i64 192, .int .i64 256]) w) := by
  go_enter Try.func108, Try.ntmps108
  go_wp2_with fail
  refine bodyPost_ret (results_cell_row (by rfl) _ _ w.heap.size 123 _ (0, 0) _ rfl (heap_alloc_new _ _) Try.underlying123 rfl (by kernel_rfl)) rfl ?_
  exact ⟨rfl, below_alloc (Below.refl _ _) _⟩

set_option maxRecDepth 100000 in
set_option maxHeartbeats 1000000 in
theorem size_any4 (k : Int) (w : World) : Calls Try.prog 73 #[.int .i64 k] w (AnsB (.int .i64 (sizeI k)) w) := by
  have c := fun w => sizes_any w
  by_cases h0 : k < 0
  · rw [size_out (Or.inl h0)]
    go_enter Try.func73, Try.ntmps73
    go_wp2_with fail
    go_ret
    exact ⟨rfl, Below.refl _ _⟩
  · by_cases h1 : 16 ≤ k
    · rw [size_out (Or.inr h1)]
      go_enter Try.func73, Try.ntmps73
      go_wp2_with fail
      go_ret
      exact ⟨rfl, Below.refl _ _⟩
    · have hi := index_any k (by omega) (by omega)
      generalize sizeI k = s at *
      go_enter Try.func73, Try.ntmps73
      go_wp2_with (go_at_call 108; ((with_reducible refine (c _).mono ?_); rintro e w' ⟨rfl, hb⟩))
      go_ret
      exact ⟨rfl, hb⟩

set_option maxRecDepth 100000 in
set_option maxHeartbeats 1000000 in
theorem of_any (n : Int) (w : World) : Calls Try.prog 74 #[.int .i64 n] w (AnsB (.int .i64 (ofI n)) w) := by
  have c := fun w => sizes_any w
  by_cases h0 : n < 1
  · rw [of_none (Or.inl h0)]
    go_enter Try.func74, Try.ntmps74
    go_wp2_with fail
    go_ret
    exact ⟨rfl, Below.refl _ _⟩
  · go_enter Try.func74, Try.ntmps74
    go_wp2_with (go_at_call 108; ((with_reducible refine (c _).mono ?_); rintro e w' ⟨rfl, hb⟩))
    go_loopw [8] (fun i wr => ∃ k : Int, i = .int .i64 k ∧ 0 ≤ k ∧ k ≤ 16 ∧ Hid (k = 0 ∨ sizeI (k - 1) < n) ∧ Below w.heap.size w wr) (fun i _ => (16 - intOf i).toNat)
    case atStart => exact ⟨0, rfl, by omega, by omega, Or.inl rfl, hb⟩
    case round =>
      obtain ⟨k, rfl, k0, k1, hk, hbr⟩ := hrel
      by_cases h : k ≤ 15
      · have hi := index_any k k0 h
        have hf := fun h2 => of_found (n := n) (k := k) (by omega) k0 h h2 hk.out
        obtain ⟨s, hs⟩ : ∃ s, sizeI k = s := ⟨_, rfl⟩
        have hn : s < n → Hid (k + 1 = 0 ∨ sizeI (k + 1 - 1) < n) := fun h => Or.inr (by rw [show k + 1 - 1 = k by omega, hs]; exact h)
        rw [hs] at hf
        simp only [hs] at hi
        by_cases h3 : n ≤ s
        · have hf := hf h3
          rw [hf]
          clear hn hf hs hk
          go_wp2_with fail
          go_ret
          exact ⟨rfl, hbr⟩
        · have hn := hn (by omega)
          clear hf hs hk
          go_wp2_with fail
          go_roundw
          case rel => exact ⟨k + 1, rfl, by omega, by omega, hn, hbr⟩
          case measure => simp [intOf]; omega
      · obtain rfl : k = 16 := by omega
        have : 256 < n := by
          have := hk.out
          rw [show sizeI (16 - 1) = 256 from by decide] at this
          omega
        have hf := of_none (Or.inr this)
        clear hk
        go_wp2_with fail
        go_ret
        exact ⟨rfl, hbr⟩

end Go.Proofs.Ytneibhcigbfigaa
