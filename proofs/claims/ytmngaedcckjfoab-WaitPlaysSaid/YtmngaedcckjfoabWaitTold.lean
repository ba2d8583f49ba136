/- The law's own told of package wait. -/
import Derived.Test.YtmngaedcckjfoabWaitMore
namespace Go.Proofs.Ytmngaedcckjfoab
open Go.RowKit Go.Lib Fx Ho Gr Qu Rw
set_option linter.unusedVariables false
namespace Wt
theorem upd_upd {α : Type} (f : Nat → α) (i : Nat) (x y : α) : upd (upd f i x) i y = upd f i y := by
  funext j
  by_cases e : j = i
  · subst e; rw [upd_same, upd_same]
  · rw [upd_ne _ _ e, upd_ne _ _ e, upd_ne _ _ e]
theorem upd_self {α : Type} (f : Nat → α) (i : Nat) : upd f i (f i) = f := by
  funext j
  by_cases e : j = i
  · subst e; rw [upd_same]
  · rw [upd_ne _ _ e]
set_option maxRecDepth 100000 in
set_option maxHeartbeats 2000000 in
theorem told_any (w : World) : Calls Try.prog 47 #[] w (AnsB (.bool true) w) := by
  have cn := new_any w
  go_enter Try.func47, Try.ntmps47
  go_wp2_with fail
  with_reducible refine Calls.mono (cn) ?_
  rintro e w1 ⟨rfl, hs⟩
  clear cn
  have cy := wait_in hs (a := 0) (by omega) 5 (fun j hj => by simp) (by simp)
  clear hs
  go_wp2_with fail
  with_reducible refine Calls.mono (cy) ?_
  rintro e w2 ⟨rfl, H2, -, hs⟩
  clear cy
  have hat : At (upd (fun _ => []) 0 ([] ++ [(5 : Int)])) 5 0 [] [] := ⟨by omega, (fun j hj => by omega), (by rw [upd_same]), (by simp)⟩
  have cb := wait_busy hs (a := 1) (by omega) 5 hat
  replace hs := Lib.hid hs
  clear hat
  go_wp2_with fail
  with_reducible refine Calls.mono (cb) ?_
  rintro e w3 ⟨rfl, rfl⟩
  have cr := wait_range (p := w.heap.size) 32 6 (.inr (by omega)) w2
  clear cb
  go_wp2_with fail
  with_reducible refine Calls.mono (cr) ?_
  rintro e w3 ⟨rfl, rfl⟩
  have ck := wake_some hs.out (a := 0) (by omega) (g := 5) (T := []) (by rw [upd_same]; rfl)
  clear cr hs
  go_wp2_with fail
  with_reducible refine Calls.mono (ck) ?_
  rintro e w3 ⟨rfl, H3, -, hs⟩
  rw [upd_upd] at hs
  have hz : ∀ k, k ≤ 32 → sumZ (upd (fun _ => []) 0 ([] : List Int)) k = 0 := by
    intro k
    induction k with
    | zero => intro _; rfl
    | succ k ih =>
      intro hk
      show sumZ _ k + (upd (fun _ => []) 0 ([] : List Int) k).length = 0
      rw [ih (by omega), show upd (fun _ => ([] : List Int)) 0 [] k = [] from congrFun (upd_self (fun _ => ([] : List Int)) 0) k]; rfl
  have cl := len_any hs (fun k hk => by rw [hz k hk]; omega)
  rw [hz 32 (Nat.le_refl _)] at cl
  have hb := hs.out
  clear ck hs hz
  go_wp2_with fail
  with_reducible refine Calls.mono (cl) ?_
  rintro e w4 ⟨rfl, rfl⟩
  clear cl
  go_wp2_with fail
  go_ret
  exact ⟨rfl, hb⟩
/-- Of the numbers from i on, m of them, those that P names. -/
def sel (P : Nat → Bool) (i : Nat) : Nat → List Int
  | 0 => []
  | m + 1 => if P i then (i : Int) :: sel P (i + 1) m else sel P (i + 1) m
theorem sel_add (P : Nat → Bool) : ∀ (m i n : Nat), sel P i (m + n) = sel P i m ++ sel P (i + m) n
  | 0, i, n => by rw [Nat.zero_add]; rfl
  | m + 1, i, n => by
    rw [show m + 1 + n = (m + n) + 1 by omega]
    show (if P i then (i : Int) :: sel P (i + 1) (m + n) else sel P (i + 1) (m + n)) = (if P i then (i : Int) :: sel P (i + 1) m else sel P (i + 1) m) ++ _
    rw [sel_add P m (i + 1) n, show i + 1 + m = i + (m + 1) by omega]
    split <;> rfl
theorem sel_in {P : Nat → Bool} : ∀ {m i : Nat} {g : Int}, g ∈ sel P i m → ∃ t : Nat, g = (t : Int) ∧ i ≤ t ∧ t < i + m ∧ P t = true
  | 0, i, g, h => by cases h
  | m + 1, i, g, h => by
    unfold sel at h
    by_cases e : P i = true
    · rw [if_pos e] at h
      rcases List.mem_cons.1 h with h | h
      · exact ⟨i, h, by omega, by omega, e⟩
      · obtain ⟨t, a, b, c, d⟩ := sel_in h
        exact ⟨t, a, by omega, by omega, d⟩
    · rw [if_neg e] at h
      obtain ⟨t, a, b, c, d⟩ := sel_in h
      exact ⟨t, a, by omega, by omega, d⟩
theorem sel_len (P : Nat → Bool) : ∀ (m i : Nat), (sel P i m).length ≤ m
  | 0, i => Nat.le_refl _
  | m + 1, i => by
    unfold sel
    have := sel_len P m (i + 1)
    split <;> simp <;> omega
theorem sel_same {P Q : Nat → Bool} : ∀ {m i : Nat}, (∀ j, i ≤ j → j < i + m → P j = Q j) → sel P i m = sel Q i m
  | 0, i, h => rfl
  | m + 1, i, h => by
    unfold sel
    rw [h i (by omega) (by omega), sel_same (m := m) (i := i + 1) (fun j h1 h2 => h j (by omega) (by omega))]
theorem sel_none {P : Nat → Bool} : ∀ {m i : Nat}, (∀ j, i ≤ j → j < i + m → P j = false) → sel P i m = []
  | 0, i, h => rfl
  | m + 1, i, h => by
    unfold sel
    rw [h i (by omega) (by omega), sel_none (m := m) (i := i + 1) (fun j h1 h2 => h j (by omega) (by omega))]; rfl
theorem sum_le {Z : Nat → List Int} {b : Nat} (h : ∀ j, j < 32 → (Z j).length ≤ b) : ∀ k, k ≤ 32 → sumZ Z k ≤ k * b
  | 0, _ => Nat.le_of_eq (Nat.zero_mul _).symm
  | k + 1, hk => by
    have h1 := sum_le h k (by omega)
    have h2 := h k (by omega)
    show sumZ Z k + (Z k).length ≤ (k + 1) * b
    rw [Nat.add_mul]; omega
theorem sum_none {Z : Nat → List Int} (h : ∀ j, j < 32 → Z j = []) : ∀ k, k ≤ 32 → sumZ Z k = 0
  | 0, _ => rfl
  | k + 1, hk => by
    show sumZ Z k + (Z k).length = 0
    rw [sum_none h k (by omega), h k (by omega)]; rfl
end Wt
end Go.Proofs.Ytmngaedcckjfoab
