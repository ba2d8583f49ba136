/- Heaps in rows, as container/heap keeps them: plain mathematics. -/
import Derived.Test.YtbheabjemaaeoabRows
namespace Go.Proofs.Ytbheabjemaaeoab
namespace Hm
variable {α : Type} {d : α} {lt : α → α → Bool}
/-- An order of all, asked by a test. -/
structure Ord (lt : α → α → Bool) : Prop where
  asym : ∀ a b, lt a b = true → lt b a = false
  trans : ∀ a b c, lt b a = false → lt c b = false → lt c a = false
def swp (d : α) (L : List α) (i j : Nat) : List α := (L.set i (L.getD j d)).set j (L.getD i d)
theorem swp_len (L : List α) (i j : Nat) : (swp d L i j).length = L.length := by simp [swp]
theorem swp_get (L : List α) {i j : Nat} (hi : i < L.length) (hj : j < L.length) (k : Nat) : (swp d L i j).getD k d = if k = j then L.getD i d else if k = i then L.getD j d else L.getD k d := by
  unfold swp
  simp only [List.getD_eq_getElem?_getD, List.getElem?_set, List.length_set]
  by_cases h1 : k = j
  · subst h1; simp [hj]
  · by_cases h2 : k = i
    · subst h2; simp [h1, hi, Ne.symm h1]
    · simp [h1, h2, Ne.symm h1, Ne.symm h2]
theorem swp_self (L : List α) {i : Nat} (hi : i < L.length) : swp d L i i = L := by
  refine List.ext_getElem (by rw [swp_len]) (fun k h1 h2 => ?_)
  have e := swp_get (d := d) L hi hi k
  rw [List.getD_eq_getElem?_getD, List.getElem?_eq_getElem h1, List.getD_eq_getElem?_getD, List.getD_eq_getElem?_getD, List.getElem?_eq_getElem h2, List.getElem?_eq_getElem hi] at e
  by_cases h : k = i
  · subst h; simpa using e
  · simpa [h] using e
theorem getD_at {L : List α} {i : Nat} (h : i < L.length) : L.getD i d = L[i] := by
  rw [List.getD_eq_getElem?_getD, List.getElem?_eq_getElem h]; rfl
theorem swp_perm (L : List α) {i j : Nat} (hi : i < L.length) (hj : j < L.length) : (swp d L i j).Perm L := by
  unfold swp
  rw [getD_at hi, getD_at hj]
  exact List.set_set_perm hi hj
/-- All pairs of a child below n and its parent from b on are in order. -/
def Ok (d : α) (lt : α → α → Bool) (b n : Nat) (L : List α) : Prop := ∀ c, 0 < c → c < n → b ≤ (c - 1) / 2 → lt (L.getD c d) (L.getD ((c - 1) / 2) d) = false
/-- .. but for the pairs of i and its children; the children are in order with i's parent. -/
structure Hole (d : α) (lt : α → α → Bool) (b n i : Nat) (L : List α) : Prop where
  ok : ∀ c, 0 < c → c < n → b ≤ (c - 1) / 2 → (c - 1) / 2 ≠ i → c ≠ i → lt (L.getD c d) (L.getD ((c - 1) / 2) d) = false
  grand : ∀ c, 0 < c → c < n → (c - 1) / 2 = i → 0 < i → b ≤ (i - 1) / 2 → lt (L.getD c d) (L.getD ((i - 1) / 2) d) = false
/-- i is in order with its parent. -/
def Up (d : α) (lt : α → α → Bool) (b i : Nat) (L : List α) : Prop := 0 < i → b ≤ (i - 1) / 2 → lt (L.getD i d) (L.getD ((i - 1) / 2) d) = false
/-- i's children are in order with it. -/
def Kids (d : α) (lt : α → α → Bool) (n i : Nat) (L : List α) : Prop := ∀ c, 0 < c → c < n → (c - 1) / 2 = i → lt (L.getD c d) (L.getD i d) = false
theorem Hole.done {b n i : Nat} {L : List α} (h : Hole d lt b n i L) (hu : Up d lt b i L) (hk : Kids d lt n i L) : Ok d lt b n L := fun c c0 cn cb => by
  by_cases h1 : c = i
  · subst h1; exact hu c0 cb
  · by_cases h2 : (c - 1) / 2 = i
    · rw [h2]; exact hk c c0 cn h2
    · exact h.ok c c0 cn cb h2 h1
/-- The least of i's children, where it is to go ahead of i. -/
theorem Hole.sink (o : Ord lt) {b n i j : Nat} {L : List α} (h : Hole d lt b n i L) (hn : n ≤ L.length) (hb : b ≤ i) (hj : j < n) (hp : (j - 1) / 2 = i) (j0 : 0 < j) (hl : lt (L.getD j d) (L.getD i d) = true)
    (hs : ∀ s, 0 < s → s < n → (s - 1) / 2 = i → lt (L.getD s d) (L.getD j d) = false) : Hole d lt b n j (swp d L i j) ∧ Up d lt b j (swp d L i j) ∧ Up d lt b i (swp d L i j) := by
  have hi : i < L.length := by omega
  have hjl : j < L.length := by omega
  have hij : i ≠ j := by omega
  have g := swp_get (d := d) L hi hjl
  have gi : (swp d L i j).getD i d = L.getD j d := by rw [g, if_neg hij, if_pos rfl]
  have gj : (swp d L i j).getD j d = L.getD i d := by rw [g, if_pos rfl]
  have gk : ∀ k, k ≠ i → k ≠ j → (swp d L i j).getD k d = L.getD k d := fun k h1 h2 => by rw [g, if_neg h2, if_neg h1]
  have hui : Up d lt b i (swp d L i j) := fun i0 ib => by
    rw [gi, gk _ (by omega) (by omega)]
    exact h.grand j j0 hj hp i0 ib
  refine ⟨⟨fun c c0 cn cb h1 h2 => ?_, fun c c0 cn cp _ _ => ?_⟩, fun _ _ => ?_, hui⟩
  · by_cases h3 : c = i
    · subst h3; exact hui c0 cb
    · rw [gk c h3 h2]
      by_cases h4 : (c - 1) / 2 = i
      · rw [h4, gi]; exact hs c c0 cn h4
      · rw [gk _ h4 h1]; exact h.ok c c0 cn cb h4 h3
  · rw [gk c (by omega) (by omega), hp, gi, ← cp]
    exact h.ok c c0 cn (by omega) (by omega) (by omega)
  · rw [gj, hp, gi]
    exact o.asym _ _ hl
/-- i goes ahead of its parent. -/
theorem Hole.rise (o : Ord lt) {n j i : Nat} {L : List α} (h : Hole d lt 0 n j L) (hk : Kids d lt n j L) (hn : n ≤ L.length) (hj : j < n) (j0 : 0 < j) (hi : (j - 1) / 2 = i) (hl : lt (L.getD j d) (L.getD i d) = true) : Hole d lt 0 n i (swp d L i j) ∧ Kids d lt n i (swp d L i j) := by
  have hil : i < L.length := by omega
  have hjl : j < L.length := by omega
  have hij : i ≠ j := by omega
  have g := swp_get (d := d) L hil hjl
  have gi : (swp d L i j).getD i d = L.getD j d := by rw [g, if_neg hij, if_pos rfl]
  have gj : (swp d L i j).getD j d = L.getD i d := by rw [g, if_pos rfl]
  have gk : ∀ k, k ≠ i → k ≠ j → (swp d L i j).getD k d = L.getD k d := fun k h1 h2 => by rw [g, if_neg h2, if_neg h1]
  have old : ∀ c, 0 < c → c < n → (c - 1) / 2 = i → c ≠ j → lt (L.getD c d) (L.getD i d) = false := fun c c0 cn cp cj => by
    have := h.ok c c0 cn (by omega) (by omega) cj
    rwa [cp] at this
  have hkid : Kids d lt n i (swp d L i j) := fun c c0 cn cp => by
    rw [gi]
    by_cases h1 : c = j
    · subst h1; rw [gj]; exact o.asym _ _ hl
    · rw [gk c (by omega) h1]
      exact o.trans _ _ _ (o.asym _ _ hl) (old c c0 cn cp h1)
  refine ⟨⟨fun c c0 cn cb h1 h2 => ?_, fun c c0 cn cp i0 _ => ?_⟩, hkid⟩
  · by_cases h3 : (c - 1) / 2 = j
    · rw [gk c h2 (by omega), h3, gj, ← hi]
      exact h.grand c c0 cn h3 j0 (by omega)
    · by_cases h4 : c = j
      · subst h4; exact absurd hi h1
      · rw [gk c h2 h4, gk _ h1 h3]
        exact h.ok c c0 cn cb h3 h4
  · rw [gk ((i - 1) / 2) (by omega) (by omega)]
    have hg : lt (L.getD i d) (L.getD ((i - 1) / 2) d) = false := h.ok i i0 (by omega) (by omega) (by omega) hij
    by_cases h1 : c = j
    · subst h1; rw [gj]; exact hg
    · rw [gk c (by omega) h1]
      exact o.trans _ _ _ hg (old c c0 cn cp h1)
/-- In a heap the first one is ahead of all. -/
theorem Ok.least (o : Ord lt) {n : Nat} {L : List α} (h : Ok d lt 0 n L) : ∀ k c, c ≤ k → c < n → lt (L.getD c d) (L.getD 0 d) = false := by
  have ir : ∀ a, lt a a = false := fun a => by
    cases e : lt a a with
    | false => rfl
    | true => have := o.asym a a e; rw [e] at this; exact this
  intro k
  induction k with
  | zero => intro c hc _; obtain rfl : c = 0 := by omega
            exact ir _
  | succ k ih =>
    intro c hc cn
    rcases Nat.eq_zero_or_pos c with rfl | c0
    · exact ir _
    · exact o.trans _ _ _ (ih ((c - 1) / 2) (by omega) (by omega)) (h c c0 cn (by omega))
theorem Ok.less {b n m : Nat} {L : List α} (h : Ok d lt b n L) (hm : m ≤ n) : Ok d lt b m L := fun c c0 cm cb => h c c0 (by omega) cb
/-- A heap of n, its places below n as they were. -/
theorem Ok.same {b n : Nat} {L M : List α} (h : Ok d lt b n L) (hs : ∀ k, k < n → M.getD k d = L.getD k d) : Ok d lt b n M := fun c c0 cn cb => by
  rw [hs c cn, hs _ (by omega)]; exact h c c0 cn cb
theorem ok_one {b n : Nat} {L : List α} (hn : n ≤ 2 * b + 1) : Ok d lt b n L := fun c c0 cn cb => by omega
/-- Where the pairs from i + 1 on are in order, i is the hole. -/
theorem hole_at {n i : Nat} {L : List α} (h : Ok d lt (i + 1) n L) : Hole d lt i n i L ∧ Up d lt i i L :=
  ⟨⟨fun c c0 cn cb h1 _ => h c c0 cn (by omega), fun c c0 cn cp i0 hb => by omega⟩, fun i0 hb => by omega⟩
/-- The first one gone to the end, and the last one in its place: the hole is 0. -/
theorem hole_top {n : Nat} {L M : List α} (h : Ok d lt 0 n L) (hs : ∀ k, 0 < k → k < n → M.getD k d = L.getD k d) : Hole d lt 0 n 0 M ∧ Up d lt 0 0 M :=
  ⟨⟨fun c c0 cn cb h1 _ => by rw [hs c c0 cn, hs _ (by omega) (by omega)]; exact h c c0 cn cb, fun c c0 cn cp i0 hb => by omega⟩, fun i0 hb => by omega⟩
/-- Another one in the midst. -/
theorem hole_mid (o : Ord lt) {n i : Nat} {L M : List α} (h : Ok d lt 0 n L) (hi : i < n) (hs : ∀ k, k ≠ i → k < n → M.getD k d = L.getD k d) : Hole d lt 0 n i M :=
  ⟨fun c c0 cn cb h1 h2 => by rw [hs c h2 cn, hs _ h1 (by omega)]; exact h c c0 cn cb, fun c c0 cn cp i0 hb => by
    rw [hs c (by omega) cn, hs _ (by omega) (by omega)]
    have h1 := h c c0 cn (by omega)
    rw [cp] at h1
    exact o.trans _ _ _ (h i i0 hi hb) h1⟩
/-- One more at the end. -/
theorem hole_end {n : Nat} {L M : List α} (h : Ok d lt 0 n L) (hs : ∀ k, k < n → M.getD k d = L.getD k d) : Hole d lt 0 (n + 1) n M ∧ Kids d lt (n + 1) n M :=
  ⟨⟨fun c c0 cn cb h1 h2 => by rw [hs c (by omega), hs _ (by omega)]; exact h c c0 (by omega) cb, fun c c0 cn cp _ _ => by omega⟩, fun c c0 cn cp => by omega⟩
end Hm
end Go.Proofs.Ytbheabjemaaeoab
