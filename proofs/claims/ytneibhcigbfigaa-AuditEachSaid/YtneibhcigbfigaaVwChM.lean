/- A chain, as a view: what can be reached, and the ways, as mathematics. -/
import Derived.Test.YtneibhcigbfigaaVwToldM
namespace Go.Proofs.Ytneibhcigbfigaa
open Go.RowKit Go.Lib Fx Ho Gr
set_option linter.unusedVariables false
namespace Vw
variable {k c n i j : Nat} {b : Bool} {a x y : Int} {ts T pre lost : List Int} {L : List Ent}
theorem wfI (h1 : -9223372036854775808 ≤ x) (h2 : x ≤ 9223372036854775807) : WfI x := by
  show (decide (-9223372036854775808 ≤ x) && decide (x ≤ 9223372036854775807)) = true
  simp [h1, h2]
theorem slo_map (f : Nat → Ob) (hf : ∀ i j, (f i).1 = (f j).1 → i = j) : ∀ {l : List Nat}, i ∈ l → slo (l.map f) (f i).1 = (f i).2.1
  | [], h => by cases h
  | x :: l, h => by
    show (if (f x).1 = (f i).1 then (f x).2.1 else slo (l.map f) (f i).1) = _
    by_cases e : (f x).1 = (f i).1
    · rw [if_pos e, hf _ _ e]
    · rw [if_neg e]
      rcases List.mem_cons.1 h with rfl | h2
      · exact absurd rfl e
      · exact slo_map f hf h2
theorem slo_of (f : Nat → Ob) : ∀ {l : List Nat}, x ∈ slo (l.map f) a → ∃ i ∈ l, a = (f i).1 ∧ x ∈ (f i).2.1
  | [], h => by cases h
  | y :: l, h => by
    have h : x ∈ (if (f y).1 = a then (f y).2.1 else slo (l.map f) a) := h
    by_cases e : (f y).1 = a
    · rw [if_pos e] at h
      exact ⟨y, by simp, e.symm, h⟩
    · rw [if_neg e] at h
      obtain ⟨i, hi, h2⟩ := slo_of f h
      exact ⟨i, List.mem_cons_of_mem _ hi, h2⟩
/-- What the i-th names. -/
def vC (k c i : Nat) : Int := if i + 1 < k ∧ i + 1 ≠ c then 65 + (i : Int) else 0
def oC (k c i : Nat) : Ob := (64 + (i : Int), [vC k c i], false)
def osC (k c n : Nat) : List Ob := (List.range n).map (oC k c)
def glC (k : Nat) (b : Bool) : List Int := if b then [64, 64 + (k : Int) - 1] else [64]
def VC (k c : Nat) (b : Bool) : Vi := ⟨0, 0, 0, glC k b, [], osC k c k, 0, 0, 0⟩
theorem oC_inj : ∀ i j, (oC k c i).1 = (oC k c j).1 → i = j := fun i j h => by
  have h : (64 : Int) + (i : Int) = 64 + (j : Int) := h
  omega
theorem mem_adC : a ∈ ads (osC k c n) ↔ ∃ i, i < n ∧ a = 64 + (i : Int) := by
  unfold ads osC
  rw [List.map_map, List.mem_map]
  constructor
  · rintro ⟨i, hi, rfl⟩; exact ⟨i, List.mem_range.1 hi, rfl⟩
  · rintro ⟨i, hi, rfl⟩; exact ⟨i, List.mem_range.2 hi, rfl⟩
theorem sloC (hi : i < n) : slo (osC k c n) (64 + (i : Int)) = [vC k c i] := slo_map (oC k c) oC_inj (List.mem_range.2 hi)
theorem slo_ofC (h : x ∈ slo (osC k c n) a) : ∃ i, i < n ∧ a = 64 + (i : Int) ∧ x = vC k c i := by
  obtain ⟨i, hi, e, h2⟩ := slo_of (oC k c) h
  exact ⟨i, List.mem_range.1 hi, e, List.mem_singleton.1 h2⟩
theorem mem_glC (hk : 2 ≤ k) : a ∈ rootsL (glC k b) [] ↔ a = 64 ∨ b = true ∧ a = 64 + (k : Int) - 1 := by
  rw [mem_roots]
  cases b with
  | true =>
    constructor
    · rintro ⟨_, h | ⟨g, hg, _⟩⟩
      · have h : a ∈ [(64 : Int), 64 + (k : Int) - 1] := h
        simp at h
        exact h.imp id fun h => ⟨rfl, h⟩
      · cases hg
    · rintro (rfl | ⟨_, rfl⟩)
      · exact ⟨by decide, .inl (by show (64 : Int) ∈ [(64 : Int), 64 + (k : Int) - 1]; simp)⟩
      · exact ⟨by omega, .inl (by show (64 + (k : Int) - 1) ∈ [(64 : Int), 64 + (k : Int) - 1]; simp)⟩
  | false =>
    constructor
    · rintro ⟨_, h | ⟨g, hg, _⟩⟩
      · exact .inl (List.mem_singleton.1 h)
      · cases hg
    · rintro (rfl | ⟨h, _⟩)
      · exact ⟨by decide, .inl (by show (64 : Int) ∈ [(64 : Int)]; simp)⟩
      · cases h
def InC (k c : Nat) (b : Bool) (i : Nat) : Prop := i < k ∧ (i < c ∨ b = true ∧ i + 1 = k)
theorem rchC (hk : 2 ≤ k) (hc : 1 ≤ c) : Rch (rootsL (glC k b) []) (osC k c k) a ↔ ∃ i, InC k c b i ∧ a = 64 + (i : Int) := by
  constructor
  · intro h
    induction h with
    | root h1 =>
      rcases (mem_glC hk).1 h1 with rfl | ⟨hb, rfl⟩
      · exact ⟨0, ⟨by omega, .inl (by omega)⟩, rfl⟩
      · exact ⟨k - 1, ⟨by omega, .inr ⟨hb, by omega⟩⟩, by omega⟩
    | step h1 h2 h3 h4 ih =>
      obtain ⟨i, hi, rfl⟩ := ih
      obtain ⟨j, hj, e, rfl⟩ := slo_ofC h2
      obtain rfl : i = j := by omega
      unfold vC at h3 ⊢
      split at h3
      · rename_i hh
        rw [if_pos hh]
        refine ⟨i + 1, ⟨hh.1, .inl ?_⟩, by omega⟩
        rcases hi.2 with h | ⟨_, h⟩
        · have := hh.2; omega
        · have := hh.1; omega
      · exact absurd rfl h3
  · have low : ∀ i, i < k → i < c → Rch (rootsL (glC k b) []) (osC k c k) (64 + (i : Int)) := by
      intro i
      induction i with
      | zero => intro _ _; exact .root ((mem_glC hk).2 (.inl (by omega))) (by omega) (mem_adC.2 ⟨0, by omega, rfl⟩)
      | succ i ih =>
        intro h1 h2
        refine .step (ih (by omega) (by omega)) ?_ (by omega) (mem_adC.2 ⟨i + 1, h1, rfl⟩)
        rw [sloC (by omega), List.mem_singleton]
        unfold vC
        rw [if_pos ⟨h1, by omega⟩]; omega
    rintro ⟨i, ⟨h1, h2 | ⟨hb, h2⟩⟩, rfl⟩
    · exact low i h1 h2
    · exact .root ((mem_glC hk).2 (.inr ⟨hb, by omega⟩)) (by omega) (mem_adC.2 ⟨i, h1, rfl⟩)
/-- How many. -/
def wantC (k c : Nat) (b : Bool) : Nat := min c k + (if b = true ∧ min c k < k then 1 else 0)
def tsC (k c : Nat) (b : Bool) : List Int := (List.range (min c k)).map (fun i : Nat => 64 + (i : Int)) ++ (if b = true ∧ min c k < k then [64 + (k : Int) - 1] else [])
theorem tsC_len : (tsC k c b).length = wantC k c b := by
  unfold tsC wantC
  rw [List.length_append, List.length_map, List.length_range]
  split <;> rfl
theorem mem_tsC (hk : 2 ≤ k) (hc : 1 ≤ c) : a ∈ tsC k c b ↔ ∃ i, InC k c b i ∧ a = 64 + (i : Int) := by
  unfold tsC InC
  rw [List.mem_append, List.mem_map]
  constructor
  · rintro (⟨i, hi, rfl⟩ | h)
    · have := List.mem_range.1 hi
      exact ⟨i, ⟨by omega, .inl (by omega)⟩, rfl⟩
    · split at h
      · rename_i hh
        exact ⟨k - 1, ⟨by omega, .inr ⟨hh.1, by omega⟩⟩, by have := List.mem_singleton.1 h; omega⟩
      · cases h
  · rintro ⟨i, ⟨h1, h2⟩, rfl⟩
    by_cases e : i < min c k
    · exact .inl ⟨i, List.mem_range.2 e, rfl⟩
    · refine .inr ?_
      rcases h2 with h2 | ⟨hb, h2⟩
      · exact absurd (by omega) e
      · rw [if_pos ⟨hb, by omega⟩, List.mem_singleton]; omega
theorem up_tsC : (tsC k c b).Pairwise (· < ·) := by
  unfold tsC
  rw [List.pairwise_append]
  refine ⟨?_, ?_, ?_⟩
  · rw [List.pairwise_map]
    exact List.pairwise_lt_range.imp fun h => by omega
  · split
    · exact List.pairwise_singleton _ _
    · exact List.Pairwise.nil
  · intro x hx y hy
    obtain ⟨i, hi, rfl⟩ := List.mem_map.1 hx
    have := List.mem_range.1 hi
    split at hy
    · have := List.mem_singleton.1 hy; omega
    · cases hy
theorem reachC (hk : 2 ≤ k) (hc : 1 ≤ c) (h : RchL (VC k c b) ts) : ts.length = wantC k c b := by
  rw [← tsC_len, up_one h.up up_tsC fun x => by rw [h.mem, mem_tsC hk hc]; exact rchC hk hc]
theorem mkd_no {os : List Ob} (h : ∀ o ∈ os, o.2.2 = false) : mkd os a = false := by
  unfold mkd
  split
  · rename_i j hj
    exact h _ (getD_mem _ (fidx_some hj).1)
  · rfl
theorem whiteC (hk : 2 ≤ k) (hc : 1 ≤ c) (h : WhtL (VC k c b) ts) : ts.length = wantC k c b := by
  rw [← tsC_len, up_one h.up up_tsC fun x => by
    rw [h.mem, mem_tsC hk hc]
    constructor
    · rintro ⟨h1, _⟩; exact (rchC hk hc).1 h1
    · intro h1
      refine ⟨(rchC hk hc).2 h1, mkd_no fun o ho => ?_⟩
      obtain ⟨i, _, rfl⟩ := List.mem_map.1 ho
      rfl]
theorem sz_one (x y : Int) (m : Bool) : sz (x, [y], m) = 1 := by
  show Go.Proofs.Ytneibhcigbfigaa.Cl.sizeI (Go.Proofs.Ytneibhcigbfigaa.Cl.ofI (1 : Int)) = 1
  decide +kernel
theorem osC_len : (osC k c n).length = n := by unfold osC; rw [List.length_map, List.length_range]
theorem osC_get (hi : i < n) : (osC k c n).getD i o0 = oC k c i := by
  rw [List.getD_eq_getElem?_getD, List.getElem?_eq_getElem (by rw [osC_len]; exact hi)]
  show (osC k c n)[i]'_ = _
  unfold osC
  rw [List.getElem_map, List.getElem_range]
theorem wdsC : wds (osC k c n) = (n : Int) := by
  have : ∀ j, j ≤ n → wdN (osC k c n) j = (j : Int) := by
    intro j
    induction j with
    | zero => intro _; rfl
    | succ j ih =>
      intro h
      show wdN (osC k c n) j + sz ((osC k c n).getD j o0) = _
      rw [ih (by omega), osC_get (by omega)]
      unfold oC
      rw [sz_one]; omega
  unfold wds
  rw [osC_len]
  exact this n (Nat.le_refl n)
theorem vC_wf (hk : k ≤ 40) : WfI (vC k c i) := by
  unfold vC
  split
  · rename_i h; have := h.1; exact wfI (by omega) (by omega)
  · exact wfI (by omega) (by omega)
theorem glC_mem (hk : 2 ≤ k) (h40 : k ≤ 40) (h : x ∈ glC k b) : 64 ≤ x ∧ x ≤ 104 := by
  unfold glC at h
  split at h
  · simp at h; omega
  · simp at h; omega
theorem wfC (hk : 2 ≤ k) (h40 : k ≤ 40) : WfV (VC k c b) := by
  refine ⟨fun x hx => ?_, fun g hg => (by cases hg), fun o ho => ?_, fun o ho x hx => ?_⟩
  · have := glC_mem hk h40 hx
    exact wfI (by omega) (by omega)
  · obtain ⟨i, hi, rfl⟩ := List.mem_map.1 ho
    have := List.mem_range.1 hi
    exact wfI (by show -9223372036854775808 ≤ 64 + (i : Int); omega) (by show 64 + (i : Int) ≤ 9223372036854775807; omega)
  · obtain ⟨i, hi, rfl⟩ := List.mem_map.1 ho
    rw [List.mem_singleton.1 hx]
    exact vC_wf h40
theorem fwC (h40 : k ≤ 40) : Fw (VC k c b) := by
  refine ⟨?_, (by show 0 ≤ 40; omega), (by show (osC k c k).length ≤ 40; rw [osC_len]; exact h40), fun g hg => (by cases hg), fun o ho => ?_⟩
  · show (glC k b).length ≤ 40
    unfold glC
    split
    · show 2 ≤ 40; omega
    · show 1 ≤ 40; omega
  · obtain ⟨i, hi, rfl⟩ := List.mem_map.1 ho
    show 1 ≤ 300; omega
/-- How long the way to the i-th is. -/
def szC (k c : Nat) (b : Bool) (i : Nat) : Nat := if b = true ∧ i + 1 = k then 1 else if i < min c k then i + 1 else 0
theorem wayC (hk : 2 ≤ k) (hB : Bf (rootsL (glC k b) []) (osC k c k) L lost j pre) : ∀ i T, i < k → Way L (64 + (i : Int)) T → T.length = (if b = true ∧ i + 1 = k then 1 else i + 1) := by
  intro i
  induction i with
  | zero =>
    intro T hi hw
    rcases hw.back hB with ⟨_, rfl⟩ | ⟨hn, _⟩
    · split <;> rfl
    · exact absurd ((mem_glC hk).2 (.inl (by omega))) hn
  | succ i ih =>
    intro T hi hw
    rcases hw.back hB with ⟨h, rfl⟩ | ⟨hn, a, q, rfl, hw2, h3, _⟩
    · rcases (mem_glC hk).1 h with h | ⟨hb, h⟩
      · omega
      · rw [if_pos ⟨hb, by omega⟩]; rfl
    · obtain ⟨j, hj, rfl, e⟩ := slo_ofC h3
      unfold vC at e
      split at e
      · obtain rfl : j = i := by omega
        have hq := ih q (by omega) hw2
        rw [if_neg (by omega)] at hq
        rw [if_neg (fun hh => hn ((mem_glC hk).2 (.inr ⟨hh.1, by omega⟩))), List.length_append, hq]; rfl
      · omega
theorem pathC (hk : 2 ≤ k) (hc : 1 ≤ c) (hi : i < k) (h : Fin (VC k c b) (64 + (i : Int)) L lost j pre) (hr : Res L (64 + (i : Int)) T) : T.length = szC k c b i ∧ (0 < szC k c b i → T.getD (szC k c b i - 1) 0 = 64 + (i : Int)) := by
  have hB := h.bf
  rcases hr with ⟨h1, hw⟩ | ⟨hn, rfl⟩
  · have hl : T.length = szC k c b i := by
      rw [wayC hk hB i T hi hw]
      obtain ⟨i2, h2, e⟩ := (rchC hk hc).1 (hB.rch h1)
      obtain rfl : i = i2 := by omega
      unfold szC
      by_cases hh : b = true ∧ i + 1 = k
      · rw [if_pos hh, if_pos hh]
      · have h4 : i < c := h2.2.elim id fun h3 => absurd h3 hh
        rw [if_neg hh, if_neg hh, if_pos (by omega)]
    refine ⟨hl, fun _ => ?_⟩
    obtain ⟨q, rfl⟩ := (Way.facts hB hw).1
    rw [← hl, List.length_append, List.getD_eq_getElem?_getD]
    simp
  · have h0 : szC k c b i = 0 := by
      unfold szC
      by_cases hh : b = true ∧ i + 1 = k
      · exact absurd (h.come ((rchC hk hc).2 ⟨i, ⟨hi, .inr hh⟩, rfl⟩)) hn
      · rw [if_neg hh]
        by_cases h3 : i < min c k
        · exact absurd (h.come ((rchC hk hc).2 ⟨i, ⟨hi, .inl (by omega)⟩, rfl⟩)) hn
        · rw [if_neg h3]
    rw [h0]
    exact ⟨rfl, fun h => absurd h (by omega)⟩
end Vw
end Go.Proofs.Ytneibhcigbfigaa
