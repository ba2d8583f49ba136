/- The ways of container/heap's up and down: what holds at each round; plain mathematics. -/
import Derived.Test.YtbheabjemaaeoabHeapMath
namespace Go.Proofs.Ytbheabjemaaeoab
set_option linter.unusedVariables false
namespace Hm
variable {α : Type} {d : α} {lt : α → α → Bool}
/-- up: the one at j is on its way. -/
structure UpI (d : α) (lt : α → α → Bool) (n : Nat) (ys0 : List α) (j : Nat) (ys : List α) : Prop where
  perm : ys.Perm ys0
  len : ys.length = n
  hole : Hole d lt 0 n j ys
  kids : Kids d lt n j ys
  lt : j < n
theorem UpI.step (o : Ord lt) {n j i : Nat} {ys0 ys : List α} (h : UpI d lt n ys0 j ys) (hi : i = (j - 1) / 2) (j0 : 0 < j) (hl : lt (ys.getD j d) (ys.getD i d) = true) : UpI d lt n ys0 i (swp d ys i j) := by
  subst hi
  have hj := h.lt
  have hn := h.len
  obtain ⟨h1, h2⟩ := h.hole.rise o h.kids (by omega) h.lt j0 rfl hl
  exact ⟨(swp_perm _ (by omega) (by omega)).trans h.perm, by rw [swp_len]; exact hn, h1, h2, by omega⟩
theorem UpI.done {n j : Nat} {ys0 ys : List α} (h : UpI d lt n ys0 j ys) (hu : 0 < j → lt (ys.getD j d) (ys.getD ((j - 1) / 2) d) = false) : Ok d lt 0 n ys :=
  h.hole.done (fun j0 _ => hu j0) h.kids
/-- down: the one at i is on its way, from i0 on. -/
structure DownI (d : α) (lt : α → α → Bool) (b n i0 : Nat) (ys0 : List α) (i : Nat) (ys : List α) : Prop where
  perm : ys.Perm ys0
  len : ys.length = ys0.length
  hole : Hole d lt b n i ys
  low : b ≤ i0
  from_ : i0 ≤ i
  start : i = i0 → ys = ys0
  up : i0 < i → Up d lt b i ys
  rest : ∀ k, n ≤ k → ys.getD k d = ys0.getD k d
  n : n ≤ ys0.length
/-- What down leaves: it moved, and it is a heap; or it did not, and the one at i0 is ahead of its children. -/
structure DownO (d : α) (lt : α → α → Bool) (b n i0 : Nat) (ys0 : List α) (m : Bool) (ys : List α) : Prop where
  perm : ys.Perm ys0
  len : ys.length = ys0.length
  moved : m = true → Ok d lt b n ys
  still : m = false → ys = ys0 ∧ Kids d lt n i0 ys0
  rest : ∀ k, n ≤ k → ys.getD k d = ys0.getD k d
theorem DownI.begin {b n i0 : Nat} {ys0 : List α} (h : Hole d lt b n i0 ys0) (hb : b ≤ i0) (hn : n ≤ ys0.length) : DownI d lt b n i0 ys0 i0 ys0 :=
  ⟨.refl _, rfl, h, hb, Nat.le_refl _, fun _ => rfl, fun h => by omega, fun _ _ => rfl, hn⟩
theorem DownI.step (o : Ord lt) {b n i0 i j : Nat} {ys0 ys : List α} (h : DownI d lt b n i0 ys0 i ys) (hj : j < n) (hp : j = 2 * i + 1 ∨ j = 2 * i + 2) (hl : lt (ys.getD j d) (ys.getD i d) = true)
    (hs : ∀ s, s < n → (s = 2 * i + 1 ∨ s = 2 * i + 2) → lt (ys.getD s d) (ys.getD j d) = false) : DownI d lt b n i0 ys0 j (swp d ys i j) := by
  have hn := h.n
  have hlen := h.len
  have hlow := h.low
  have hfrom := h.from_
  obtain ⟨h1, h2, h3⟩ := h.hole.sink o (by omega) (by omega) hj (by omega) (by omega) hl (fun s s0 sn sp => hs s sn (by omega))
  refine ⟨(swp_perm _ (by omega) (by omega)).trans h.perm, by rw [swp_len]; exact hlen, h1, hlow, by omega, fun e => by omega, fun _ => h2, fun k hk => ?_, hn⟩
  rw [swp_get _ (by omega) (by omega), if_neg (by omega), if_neg (by omega)]
  exact h.rest k hk
theorem DownI.done {b n i0 i : Nat} {ys0 ys : List α} (h : DownI d lt b n i0 ys0 i ys) (hk : ∀ s, s < n → (s = 2 * i + 1 ∨ s = 2 * i + 2) → lt (ys.getD s d) (ys.getD i d) = false) : DownO d lt b n i0 ys0 (decide (i0 < i)) ys := by
  have hk2 : Kids d lt n i ys := fun c c0 cn cp => hk c cn (by omega)
  have hf := h.from_
  refine ⟨h.perm, h.len, fun e => h.hole.done (h.up (by simpa using e)) hk2, fun e => ?_, h.rest⟩
  have e2 : i = i0 := by simp only [decide_eq_false_iff_not] at e; omega
  have := h.start e2
  subst e2 this
  exact ⟨rfl, hk2⟩
/-- The answer of down, whatever it was, where the hole was in order with its parent. -/
theorem DownO.ok {b n i0 : Nat} {ys0 ys : List α} {m : Bool} (h : DownO d lt b n i0 ys0 m ys) (hh : Hole d lt b n i0 ys0) (hu : Up d lt b i0 ys0) : Ok d lt b n ys := by
  cases m with
  | true => exact h.moved rfl
  | false =>
    obtain ⟨h1, h2⟩ := h.still rfl
    subst h1
    exact hh.done hu h2
theorem irrefl (o : Ord lt) (a : α) : lt a a = false := by
  cases e : lt a a with
  | false => rfl
  | true => have := o.asym a a e; rw [e] at this; exact this
/-- A heap of one more, put at the end. -/
theorem UpI.begin {n : Nat} {L : List α} {x : α} (h : Ok d lt 0 n L) (hn : L.length = n) : UpI d lt (n + 1) (L ++ [x]) n (L ++ [x]) := by
  obtain ⟨h1, h2⟩ := hole_end (n := n) h (M := L ++ [x]) (fun k hk => by
    simp only [List.getD_eq_getElem?_getD]
    rw [List.getElem?_append_left (by omega)])
  exact ⟨.refl _, by simp [hn], h1, h2, by omega⟩
/-- The first one and the last one in each other's place: the hole is 0. -/
theorem top_swap {n : Nat} {L : List α} (h : Ok d lt 0 (n + 1) L) (hn : L.length = n + 1) : Hole d lt 0 n 0 (swp d L 0 n) ∧ Up d lt 0 0 (swp d L 0 n) ∧ (swp d L 0 n).getD n d = L.getD 0 d := by
  obtain ⟨h1, h2⟩ := hole_top (n := n) (h.less (Nat.le_succ n)) (M := swp d L 0 n) (fun k k0 hk => by
    rw [swp_get _ (by omega) (by omega), if_neg (by omega), if_neg (by omega)])
  refine ⟨h1, h2, ?_⟩
  rw [swp_get _ (by omega) (by omega), if_pos rfl]
/-- All but the last one, of a row of n + 1. -/
theorem cut_last {n : Nat} {L : List α} (hn : L.length = n + 1) : (L.take n ++ [L.getD n d]) = L := by
  rw [getD_at (by omega)]
  have : L.take n ++ L.drop n = L := List.take_append_drop n L
  rw [List.drop_eq_getElem_cons (by omega), List.drop_eq_nil_of_le (by omega)] at this
  exact this
theorem take_get {n k : Nat} {L : List α} (hk : k < n) : (L.take n).getD k d = L.getD k d := by
  simp only [List.getD_eq_getElem?_getD]
  rw [List.getElem?_take, if_pos hk]
/-- Pop's end: what is left, and the one that was first. -/
theorem pop_end {n : Nat} {L ys : List α} {m : Bool} (h : Ok d lt 0 (n + 1) L) (hn : L.length = n + 1) (ho : DownO d lt 0 n 0 (swp d L 0 n) m ys) : ys.length = n + 1 ∧ ys.getD n d = L.getD 0 d ∧ Ok d lt 0 n (ys.take n) ∧ (L.getD 0 d :: ys.take n).Perm L := by
  obtain ⟨h1, h2, h3⟩ := top_swap h hn
  have hl : ys.length = n + 1 := by rw [ho.len, swp_len]; exact hn
  have hlast : ys.getD n d = L.getD 0 d := by rw [ho.rest n (Nat.le_refl n)]; exact h3
  refine ⟨hl, hlast, ((ho.ok h1 h2).same (fun k hk => take_get hk)), ?_⟩
  have hp : ys.Perm L := ho.perm.trans (swp_perm _ (by omega) (by omega))
  rw [← cut_last (d := d) hl, hlast] at hp
  exact (List.perm_append_comm (l₁ := [L.getD 0 d])).trans hp
end Hm
end Go.Proofs.Ytbheabjemaaeoab
