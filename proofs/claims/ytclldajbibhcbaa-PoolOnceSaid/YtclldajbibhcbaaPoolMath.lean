/- What the calls of a pool make of what there is, and that nothing is lost: plain mathematics. -/
import Derived.Test.YtclldajbibhcbaaPool
namespace Go.Proofs.Ytclldajbibhcbaa
set_option linter.unusedVariables false
namespace Po
def sTurn (s : St) (i : Nat) : St := ⟨up s.o i (s.t i), up s.t i (s.o i), s.fl, s.F, s.e⟩
def sCh0 (s : St) (i : Nat) : St := ⟨up s.o i [], s.t, up s.fl i true, s.F ++ [s.o i], s.e - 1⟩
def sCh1 (s : St) (i : Nat) : St := ⟨s.o, up s.t i [], up s.fl i true, s.F ++ [s.t i], s.e - 1⟩
def sTake (s : St) (i : Nat) : St := ⟨up s.o i (s.F.getD (s.F.length - 1) []), s.t, s.fl, s.F.take (s.F.length - 1), s.e + 1⟩
def sSet (s : St) (i : Nat) (L : List Int) : St := ⟨up s.o i L, s.t, s.fl, s.F, s.e⟩
def sHalf (s : St) (i k : Nat) : St := ⟨up s.o i ((s.o i).take k), s.t, up s.fl i true, s.F ++ [(s.o i).drop k], s.e⟩
def sFl (s : St) (i : Nat) (b : Bool) : St := ⟨s.o, s.t, up s.fl i b, s.F, s.e⟩
def sPut1 (s : St) (i : Nat) : St := if (s.o i).length = 32 then sTurn s i else s
def sPut2 (s : St) (i : Nat) : St := if (s.o i).length = 32 then sCh0 s i else s
def sPut (s : St) (i : Nat) (v : Int) : St := sSet (sPut2 (sPut1 s i) i) i ((sPut2 (sPut1 s i) i).o i ++ [v])
def sGet1 (s : St) (i : Nat) : St := if (s.o i).length = 0 then sTurn s i else s
def sGet2 (s : St) (i : Nat) : St := if (s.o i).length = 0 ∧ 0 < s.F.length then sTake s i else s
def sGet3 (s : St) (i : Nat) : St := sSet s i ((s.o i).take ((s.o i).length - 1))
def sGot (s : St) (i : Nat) : Int × Bool := if (s.o i).length = 0 then (0, false) else ((s.o i).getD ((s.o i).length - 1) 0, true)
def sGet (s : St) (i : Nat) : St := sGet3 (sGet2 (sGet1 s i) i) i
def sAns (s : St) (i : Nat) : Int × Bool := sGot (sGet2 (sGet1 s i) i) i
def sGive (s : St) (i : Nat) : St := if 0 < (s.t i).length then sCh1 s i else if 4 < (s.o i).length then sHalf s i ((s.o i).length - (s.o i).length / 2) else s
def sGave (s : St) (i : Nat) : Bool := decide (0 < (s.t i).length) || decide (4 < (s.o i).length)
def sFl1 (s : St) (i : Nat) : St := if 0 < (s.o i).length then sCh0 s i else s
def sFl2 (s : St) (i : Nat) : St := if 0 < (s.t i).length then sCh1 s i else s
def sFlush (s : St) (i : Nat) : St := sFl2 (sFl1 s i) i
def st0 : St := ⟨fun _ => [], fun _ => [], fun _ => false, [], 0⟩
/-- A measure that adds up. -/
structure Meas (μ : List Int → Nat) : Prop where
  nil : μ [] = 0
  app : ∀ A B, μ (A ++ B) = μ A + μ B
theorem meas_len : Meas List.length := ⟨rfl, fun _ _ => List.length_append⟩
theorem meas_count (v : Int) : Meas (List.count v) := ⟨rfl, fun _ _ => List.count_append⟩
def sm (f : Nat → Nat) : Nat → Nat
  | 0 => 0
  | n + 1 => sm f n + f n
theorem sm_congr {f g : Nat → Nat} : ∀ {n : Nat}, (∀ i, i < n → f i = g i) → sm f n = sm g n
  | 0, _ => rfl
  | n + 1, h => by show sm f n + f n = sm g n + g n; rw [sm_congr (fun i hi => h i (by omega)), h n (by omega)]
theorem sm_one {f g : Nat → Nat} {i : Nat} : ∀ {n : Nat}, i < n → (∀ j, j ≠ i → f j = g j) → sm f n + g i = sm g n + f i
  | 0, h, _ => by omega
  | n + 1, h, hne => by
    show sm f n + f n + g i = sm g n + g n + f i
    by_cases e : i = n
    · subst e
      rw [sm_congr (fun j hj => hne j (by omega))]; omega
    · have := sm_one (n := n) (by omega : i < n) hne
      rw [hne n (by omega)]; omega
theorem sm_zero {f : Nat → Nat} : ∀ {n : Nat}, (∀ i, i < n → f i = 0) → sm f n = 0
  | 0, _ => rfl
  | n + 1, h => by show sm f n + f n = 0; rw [sm_zero (fun i hi => h i (by omega)), h n (by omega)]
theorem sm_ge {f : Nat → Nat} {i : Nat} : ∀ {n : Nat}, i < n → f i ≤ sm f n
  | 0, h => by omega
  | n + 1, h => by
    show f i ≤ sm f n + f n
    by_cases e : i = n
    · subst e; omega
    · have := sm_ge (f := f) (n := n) (by omega : i < n); omega
def tot (μ : List Int → Nat) (ps : Nat) (s : St) : Nat := sm (fun i => μ (s.o i) + μ (s.t i)) ps + (s.F.map μ).sum
variable {μ : List Int → Nat} {ps i : Nat} {s : St}
theorem tot0 (hm : Meas μ) : tot μ ps st0 = 0 := by
  unfold tot st0
  rw [sm_zero (fun i _ => by simp [hm.nil])]; rfl
theorem tot_turn (hi : i < ps) : tot μ ps (sTurn s i) = tot μ ps s := by
  unfold tot sTurn
  try dsimp only
  rw [sm_congr (g := fun j => μ (s.o j) + μ (s.t j)) (fun j hj => ?_)]
  by_cases e : j = i
  · subst e; rw [up_same, up_same]; omega
  · rw [up_ne _ _ e, up_ne _ _ e]
theorem sum_snoc (F : List (List Int)) (L : List Int) : ((F ++ [L]).map μ).sum = (F.map μ).sum + μ L := by simp
theorem tot_ch0 (hm : Meas μ) (hi : i < ps) : tot μ ps (sCh0 s i) = tot μ ps s := by
  unfold tot sCh0
  try dsimp only
  have h := sm_one (f := fun j => μ (up s.o i [] j) + μ (s.t j)) (g := fun j => μ (s.o j) + μ (s.t j)) hi (fun j hj => by (try dsimp only); rw [up_ne _ _ hj])
  try dsimp only at h
  rw [up_same, hm.nil] at h
  rw [sum_snoc]; omega
theorem tot_ch1 (hm : Meas μ) (hi : i < ps) : tot μ ps (sCh1 s i) = tot μ ps s := by
  unfold tot sCh1
  try dsimp only
  have h := sm_one (f := fun j => μ (s.o j) + μ (up s.t i [] j)) (g := fun j => μ (s.o j) + μ (s.t j)) hi (fun j hj => by (try dsimp only); rw [up_ne _ _ hj])
  try dsimp only at h
  rw [up_same, hm.nil] at h
  rw [sum_snoc]; omega
theorem tot_half (hm : Meas μ) (hi : i < ps) (k : Nat) : tot μ ps (sHalf s i k) = tot μ ps s := by
  unfold tot sHalf
  try dsimp only
  have h := sm_one (f := fun j => μ (up s.o i ((s.o i).take k) j) + μ (s.t j)) (g := fun j => μ (s.o j) + μ (s.t j)) hi (fun j hj => by (try dsimp only); rw [up_ne _ _ hj])
  try dsimp only at h
  have h2 := hm.app ((s.o i).take k) ((s.o i).drop k)
  rw [List.take_append_drop] at h2
  rw [up_same] at h
  rw [sum_snoc]; omega
theorem tot_set (hi : i < ps) (L : List Int) : tot μ ps (sSet s i L) + μ (s.o i) = tot μ ps s + μ L := by
  unfold tot sSet
  try dsimp only
  have h := sm_one (f := fun j => μ (up s.o i L j) + μ (s.t j)) (g := fun j => μ (s.o j) + μ (s.t j)) hi (fun j hj => by (try dsimp only); rw [up_ne _ _ hj])
  try dsimp only at h
  rw [up_same] at h
  omega
theorem last_split {α : Type} (F : List α) (d : α) (h : 0 < F.length) : F = F.take (F.length - 1) ++ [F.getD (F.length - 1) d] := by
  conv => lhs; rw [← List.take_append_drop (F.length - 1) F]
  congr 1
  refine List.ext_getElem (by rw [List.length_drop, List.length_singleton]; omega) (fun j h1 h2 => ?_)
  have : j = 0 := by rw [List.length_singleton] at h2; omega
  subst this
  rw [List.getElem_drop, List.getElem_singleton, List.getD_eq_getElem?_getD, List.getElem?_eq_getElem (by omega)]
  simp
theorem tot_take (hm : Meas μ) (hi : i < ps) (h0 : (s.o i).length = 0) (hF : 0 < s.F.length) : tot μ ps (sTake s i) = tot μ ps s := by
  unfold tot sTake
  try dsimp only
  have h := sm_one (f := fun j => μ (up s.o i (s.F.getD (s.F.length - 1) []) j) + μ (s.t j)) (g := fun j => μ (s.o j) + μ (s.t j)) hi (fun j hj => by (try dsimp only); rw [up_ne _ _ hj])
  try dsimp only at h
  rw [up_same, List.eq_nil_of_length_eq_zero h0, hm.nil] at h
  have e := congrArg (fun F => (F.map μ).sum) (last_split s.F [] hF)
  try dsimp only at e
  rw [sum_snoc] at e
  omega
theorem tot_put1 (hi : i < ps) : tot μ ps (sPut1 s i) = tot μ ps s := by
  unfold sPut1; split
  · exact tot_turn hi
  · rfl
theorem tot_put2 (hm : Meas μ) (hi : i < ps) : tot μ ps (sPut2 s i) = tot μ ps s := by
  unfold sPut2; split
  · exact tot_ch0 hm hi
  · rfl
theorem tot_put (hm : Meas μ) (hi : i < ps) (v : Int) : tot μ ps (sPut s i v) = tot μ ps s + μ [v] := by
  have h := tot_set (μ := μ) (s := sPut2 (sPut1 s i) i) hi ((sPut2 (sPut1 s i) i).o i ++ [v])
  rw [hm.app, tot_put2 hm hi, tot_put1 hi] at h
  unfold sPut; omega
theorem tot_get1 (hi : i < ps) : tot μ ps (sGet1 s i) = tot μ ps s := by
  unfold sGet1; split
  · exact tot_turn hi
  · rfl
theorem tot_get2 (hm : Meas μ) (hi : i < ps) : tot μ ps (sGet2 s i) = tot μ ps s := by
  unfold sGet2; split
  · rename_i h; exact tot_take hm hi h.1 h.2
  · rfl
theorem tot_get (hm : Meas μ) (hi : i < ps) : tot μ ps s = tot μ ps (sGet s i) + (if (sAns s i).2 = true then μ [(sAns s i).1] else 0) := by
  have h := tot_set (μ := μ) (s := sGet2 (sGet1 s i) i) hi (((sGet2 (sGet1 s i) i).o i).take (((sGet2 (sGet1 s i) i).o i).length - 1))
  rw [tot_get2 hm hi, tot_get1 hi] at h
  unfold sGet sGet3 sAns sGot
  generalize (sGet2 (sGet1 s i) i) = S at *
  by_cases h0 : (S.o i).length = 0
  · have e := List.eq_nil_of_length_eq_zero h0
    rw [if_pos h0, if_neg (by simp)]
    rw [e] at h ⊢
    simp only [List.take_nil] at h ⊢
    omega
  · rw [if_neg h0, if_pos rfl]
    have e := congrArg μ (last_split (S.o i) 0 (by omega))
    rw [hm.app] at e
    try dsimp only
    omega
theorem tot_give (hm : Meas μ) (hi : i < ps) : tot μ ps (sGive s i) = tot μ ps s := by
  unfold sGive; split
  · exact tot_ch1 hm hi
  · split
    · exact tot_half hm hi _
    · rfl
theorem tot_flush (hm : Meas μ) (hi : i < ps) : tot μ ps (sFlush s i) = tot μ ps s := by
  have h1 : tot μ ps (sFl1 s i) = tot μ ps s := by
    unfold sFl1; split
    · exact tot_ch0 hm hi
    · rfl
  unfold sFlush sFl2; split
  · rw [tot_ch1 hm hi, h1]
  · exact h1
/-- What is full is not empty; what a P has is at most what a buffer holds. -/
structure Good (ps : Nat) (s : St) : Prop where
  f : ∀ L, L ∈ s.F → L ≠ []
theorem good0 : Good ps st0 := ⟨fun L h => by cases h⟩
theorem good_ch0 (h : Good ps s) (h0 : 0 < (s.o i).length) : Good ps (sCh0 s i) := ⟨fun L hL => by
  rcases List.mem_append.1 hL with hL | hL
  · exact h.f L hL
  · obtain rfl := List.mem_singleton.1 hL
    intro e; rw [e] at h0; simp at h0⟩
theorem good_ch1 (h : Good ps s) (h0 : 0 < (s.t i).length) : Good ps (sCh1 s i) := ⟨fun L hL => by
  rcases List.mem_append.1 hL with hL | hL
  · exact h.f L hL
  · obtain rfl := List.mem_singleton.1 hL
    intro e; rw [e] at h0; simp at h0⟩
theorem good_put (h : Good ps s) (v : Int) : Good ps (sPut s i v) := by
  have h1 : Good ps (sPut1 s i) := by
    unfold sPut1; split
    · exact ⟨h.f⟩
    · exact h
  have h2 : Good ps (sPut2 (sPut1 s i) i) := by
    unfold sPut2; split
    · exact good_ch0 h1 (by omega)
    · exact h1
  exact ⟨h2.f⟩
theorem good_get (h : Good ps s) : Good ps (sGet s i) := by
  have h1 : Good ps (sGet1 s i) := by
    unfold sGet1; split
    · exact ⟨h.f⟩
    · exact h
  have h2 : Good ps (sGet2 (sGet1 s i) i) := by
    unfold sGet2; split
    · exact ⟨fun L hL => h1.f L (List.mem_of_mem_take hL)⟩
    · exact h1
  exact ⟨h2.f⟩
theorem good_give (h : Good ps s) : Good ps (sGive s i) := by
  unfold sGive; split
  · rename_i h0; exact good_ch1 h h0
  · split
    · rename_i h0
      refine ⟨fun L hL => ?_⟩
      rcases List.mem_append.1 hL with hL | hL
      · exact h.f L hL
      · obtain rfl := List.mem_singleton.1 hL
        intro e
        have := congrArg List.length e
        rw [List.length_drop] at this
        simp at this; omega
    · exact h
theorem good_flush (h : Good ps s) : Good ps (sFlush s i) := by
  have h1 : Good ps (sFl1 s i) := by
    unfold sFl1; split
    · rename_i h0; exact good_ch0 h h0
    · exact h
  unfold sFlush sFl2; split
  · rename_i h0; exact good_ch1 h1 h0
  · exact h1
/-- Where there is something in all and no other P has any, Get gets. -/
theorem get_some (h : Good ps s) (hi : i < ps) (ho : ∀ j, j < ps → j ≠ i → s.o j = [] ∧ s.t j = []) (h0 : 0 < tot List.length ps s) : (sAns s i).2 = true := by
  have hg : Good ps (sGet2 (sGet1 s i) i) := by
    have h1 : Good ps (sGet1 s i) := by
      unfold sGet1; split
      · exact ⟨h.f⟩
      · exact h
    unfold sGet2; split
    · exact ⟨fun L hL => h1.f L (List.mem_of_mem_take hL)⟩
    · exact h1
  unfold sAns sGot
  rw [if_neg]
  intro hz
  have ht1 : tot List.length ps (sGet1 s i) = tot List.length ps s := tot_get1 hi
  have hF : ¬ ((((sGet1 s i).o i).length = 0) ∧ 0 < (sGet1 s i).F.length) := by
    intro hc
    unfold sGet2 at hz
    rw [if_pos hc] at hz
    unfold sTake at hz
    try dsimp only at hz
    rw [up_same] at hz
    have h1 : Good ps (sGet1 s i) := by
      unfold sGet1; split
      · exact ⟨h.f⟩
      · exact h
    have hm : (sGet1 s i).F.getD ((sGet1 s i).F.length - 1) [] ∈ (sGet1 s i).F := by
      rw [List.getD_eq_getElem?_getD, List.getElem?_eq_getElem (by omega)]; exact List.getElem_mem _
    exact h1.f _ hm (List.eq_nil_of_length_eq_zero hz)
  have hz1 : ((sGet1 s i).o i).length = 0 := by
    unfold sGet2 at hz
    rw [if_neg hF] at hz; exact hz
  have hF0 : (sGet1 s i).F = [] := List.eq_nil_of_length_eq_zero (by omega)
  have hall : ∀ j, j < ps → (sGet1 s i).o j = [] ∧ (sGet1 s i).t j = [] := fun j hj => by
    by_cases e : j = i
    · subst e
      have hz2 := hz1
      unfold sGet1 at hz2 ⊢
      split at hz2
      · rename_i h2
        rw [if_pos h2]
        unfold sTurn at hz2 ⊢
        try dsimp only at hz2 ⊢
        rw [up_same] at hz2 ⊢
        rw [up_same]
        exact ⟨List.eq_nil_of_length_eq_zero hz2, List.eq_nil_of_length_eq_zero h2⟩
      · rename_i h2; exact absurd hz2 h2
    · have h3 := ho j hj e
      unfold sGet1; split
      · unfold sTurn
        try dsimp only
        rw [up_ne _ _ e, up_ne _ _ e]; exact h3
      · exact h3
  rw [← ht1] at h0
  unfold tot at h0
  rw [hF0, sm_zero (fun j hj => by rw [(hall j hj).1, (hall j hj).2]; rfl)] at h0
  simp at h0
end Po
end Go.Proofs.Ytclldajbibhcbaa
