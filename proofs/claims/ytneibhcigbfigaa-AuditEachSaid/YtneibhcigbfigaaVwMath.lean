/- What can be reached in a view: by breadth, told as mathematics. -/
import Derived.Test.YtneibhcigbfigaaHome
namespace Go.Proofs.Ytneibhcigbfigaa
set_option linter.unusedVariables false
namespace Vw
abbrev Gor := Int × Int × List Int
abbrev Ob := Int × List Int × Bool
abbrev Ent := Int × Nat
/-- A list with a number behind it, unless it is 0 or in it. -/
def once (l : List Int) (x : Int) : List Int := if x = 0 ∨ x ∈ l then l else l ++ [x]
def adds (acc l : List Int) : List Int := l.foldl once acc
def stks (acc : List Int) (gs : List Gor) : List Int := gs.foldl (fun acc g => if g.1 = 5 then acc else adds acc g.2.2) acc
def rootsL (gl : List Int) (gs : List Gor) : List Int := stks (adds [] gl) gs
def ads (os : List Ob) : List Int := os.map (·.1)
/-- The slots of the first object at an address. -/
def slo : List Ob → Int → List Int
  | [], _ => []
  | o :: os, a => if o.1 = a then o.2.1 else slo os a
variable {l acc R zs rs zs' rs' pre lost : List Int} {gs : List Gor} {os : List Ob} {L : List Ent} {i k n s t : Nat} {a b x y : Int}
theorem mem_once : y ∈ once l x ↔ y ∈ l ∨ y ≠ 0 ∧ y = x := by
  unfold once
  split
  · rename_i h
    constructor
    · exact .inl
    · rintro (e | ⟨e, rfl⟩)
      · exact e
      · exact h.elim (fun h => absurd h e) id
  · rename_i h
    rw [List.mem_append, List.mem_singleton]
    constructor
    · rintro (e | rfl)
      · exact .inl e
      · exact .inr ⟨fun e => h (.inl e), rfl⟩
    · rintro (e | ⟨_, rfl⟩)
      · exact .inl e
      · exact .inr rfl
theorem nodup_once (h : l.Nodup) : (once l x).Nodup := by
  unfold once
  split
  · exact h
  · rename_i e
    rw [List.nodup_append]
    exact ⟨h, by simp, fun u hu v hv e2 => e (.inr (by rw [List.mem_singleton] at hv; rw [← hv, ← e2]; exact hu))⟩
theorem once_le : (once l x).length ≤ l.length + 1 := by unfold once; split <;> simp
theorem mem_adds : ∀ (l acc : List Int), y ∈ adds acc l ↔ y ∈ acc ∨ y ≠ 0 ∧ y ∈ l
  | [], acc => by simp [adds]
  | x :: l, acc => by
    show y ∈ adds (once acc x) l ↔ _
    rw [mem_adds l, mem_once, List.mem_cons]
    constructor
    · rintro ((e | e) | e)
      · exact .inl e
      · exact .inr ⟨e.1, .inl e.2⟩
      · exact .inr ⟨e.1, .inr e.2⟩
    · rintro (e | ⟨e, e2 | e2⟩)
      · exact .inl (.inl e)
      · exact .inl (.inr ⟨e, e2⟩)
      · exact .inr ⟨e, e2⟩
theorem nodup_adds : ∀ (l acc : List Int), acc.Nodup → (adds acc l).Nodup
  | [], acc, h => h
  | x :: l, acc, h => nodup_adds l _ (nodup_once h)
theorem adds_le : ∀ (l acc : List Int), (adds acc l).length ≤ acc.length + l.length
  | [], acc => Nat.le_refl _
  | x :: l, acc => by
    show (adds (once acc x) l).length ≤ _
    have := adds_le l (once acc x)
    have := once_le (l := acc) (x := x)
    rw [List.length_cons]; omega
theorem adds_next (l acc : List Int) (hk : k < l.length) : adds acc (l.take (k + 1)) = once (adds acc (l.take k)) (l.getD k 0) := by
  rw [List.take_add_one, List.getElem?_eq_getElem hk, List.getD_eq_getElem?_getD, List.getElem?_eq_getElem hk]
  unfold adds
  rw [Option.toList_some, List.foldl_append]; rfl
theorem stks_next (acc : List Int) (gs : List Gor) (hk : k < gs.length) (d : Gor) : stks acc (gs.take (k + 1)) = if (gs.getD k d).1 = 5 then stks acc (gs.take k) else adds (stks acc (gs.take k)) (gs.getD k d).2.2 := by
  rw [List.take_add_one, List.getElem?_eq_getElem hk, List.getD_eq_getElem?_getD, List.getElem?_eq_getElem hk]
  unfold stks
  rw [Option.toList_some, List.foldl_append]; rfl
theorem mem_stks : ∀ (gs : List Gor) (acc : List Int), y ∈ stks acc gs ↔ y ∈ acc ∨ y ≠ 0 ∧ ∃ g ∈ gs, g.1 ≠ 5 ∧ y ∈ g.2.2
  | [], acc => by simp [stks]
  | g :: gs, acc => by
    show y ∈ stks (if g.1 = 5 then acc else adds acc g.2.2) gs ↔ _
    rw [mem_stks gs]
    by_cases h : g.1 = 5
    · rw [if_pos h]
      simp [h]
    · rw [if_neg h, mem_adds]
      constructor
      · rintro ((e | e) | ⟨e, g2, h2, h3⟩)
        · exact .inl e
        · exact .inr ⟨e.1, g, by simp, h, e.2⟩
        · exact .inr ⟨e, g2, by simp [h2], h3⟩
      · rintro (e | ⟨e, g2, h2, h3, h4⟩)
        · exact .inl (.inl e)
        · rcases List.mem_cons.1 h2 with rfl | h5
          · exact .inl (.inr ⟨e, h4⟩)
          · exact .inr ⟨e, g2, h5, h3, h4⟩
theorem nodup_stks : ∀ (gs : List Gor) (acc : List Int), acc.Nodup → (stks acc gs).Nodup
  | [], acc, h => h
  | g :: gs, acc, h => by
    show (stks (if g.1 = 5 then acc else adds acc g.2.2) gs).Nodup
    refine nodup_stks gs _ ?_
    split
    · exact h
    · exact nodup_adds _ _ h
theorem mem_roots {gl : List Int} : y ∈ rootsL gl gs ↔ y ≠ 0 ∧ (y ∈ gl ∨ ∃ g ∈ gs, g.1 ≠ 5 ∧ y ∈ g.2.2) := by
  unfold rootsL
  rw [mem_stks, mem_adds]
  constructor
  · rintro ((e | e) | e)
    · cases e
    · exact ⟨e.1, .inl e.2⟩
    · exact ⟨e.1, .inr e.2⟩
  · rintro ⟨e, e2 | e2⟩
    · exact .inl (.inr ⟨e, e2⟩)
    · exact .inr ⟨e, e2⟩
/-- Rising, each once, without 0. -/
structure Ris (zs rs : List Int) : Prop where
  up : rs.Pairwise (· < ·)
  mem : ∀ x, x ∈ rs ↔ x ∈ zs ∧ x ≠ 0
theorem up_one : ∀ {rs rs' : List Int}, rs.Pairwise (· < ·) → rs'.Pairwise (· < ·) → (∀ x, x ∈ rs ↔ x ∈ rs') → rs = rs'
  | [], [], _, _, _ => rfl
  | [], b :: t, _, _, h => absurd ((h b).2 (by simp)) (by simp)
  | a :: t, [], _, _, h => absurd ((h a).1 (by simp)) (by simp)
  | a :: t, b :: u, h1, h2, h => by
    rw [List.pairwise_cons] at h1 h2
    have e : a = b := by
      rcases List.mem_cons.1 ((h a).1 (by simp)) with e | e
      · exact e
      · rcases List.mem_cons.1 ((h b).2 (by simp)) with e2 | e2
        · exact e2.symm
        · have := h1.1 b e2; have := h2.1 a e; omega
    subst e
    refine congrArg _ (up_one h1.2 h2.2 fun x => ⟨fun hx => ?_, fun hx => ?_⟩)
    · rcases List.mem_cons.1 ((h x).1 (List.mem_cons_of_mem _ hx)) with e | e
      · have := h1.1 x hx; omega
      · exact e
    · rcases List.mem_cons.1 ((h x).2 (List.mem_cons_of_mem _ hx)) with e | e
      · have := h2.1 x hx; omega
      · exact e
theorem Ris.one (h : Ris zs rs) (h' : Ris zs' rs') (hm : ∀ x, x ∈ zs ∧ x ≠ 0 ↔ x ∈ zs' ∧ x ≠ 0) : rs = rs' :=
  up_one h.up h'.up fun x => by rw [h.mem, h'.mem]; exact hm x
theorem up_nodup (h : rs.Pairwise (· < ·)) : rs.Nodup := h.imp (fun h e => by omega)
/-- Different ones of a list are no more than it has. -/
theorem nodup_le : ∀ {l m : List Int}, l.Nodup → (∀ x ∈ l, x ∈ m) → l.length ≤ m.length
  | [], m, _, _ => Nat.zero_le _
  | a :: l, m, h, hs => by
    rw [List.nodup_cons] at h
    have h1 : (m.erase a).length + 1 = m.length := by
      have := List.length_erase_of_mem (hs a (by simp))
      have h2 : 0 < m.length := List.length_pos_of_mem (hs a (by simp))
      omega
    have h2 := nodup_le (m := m.erase a) h.2 (fun x hx => (List.mem_erase_of_ne (fun e => h.1 (by rw [← e]; exact hx))).2 (hs x (List.mem_cons_of_mem _ hx)))
    rw [List.length_cons]; omega
/-- What can be reached. -/
inductive Rch (R : List Int) (os : List Ob) : Int → Prop
  | root {a : Int} : a ∈ R → a ≠ 0 → a ∈ ads os → Rch R os a
  | step {a b : Int} : Rch R os b → a ∈ slo os b → a ≠ 0 → a ∈ ads os → Rch R os a
theorem Rch.in_ (h : Rch R os a) : a ≠ 0 ∧ a ∈ ads os := by cases h with
  | root h1 h2 h3 => exact ⟨h2, h3⟩
  | step h1 h2 h3 h4 => exact ⟨h3, h4⟩
/-- What is named and is no object's. -/
def Lst (R : List Int) (os : List Ob) (x : Int) : Prop := x ∉ ads os ∧ x ≠ 0 ∧ (x ∈ R ∨ ∃ b, Rch R os b ∧ x ∈ slo os b)
/-- What was reached, in order; each with the number of whom it was reached from: 0 of the roots, one more than its place of others. -/
def ord (L : List Ent) : List Int := L.map (·.1)
/-- What the one of that number names. -/
def src (R : List Int) (os : List Ob) (L : List Ent) : Nat → List Int
  | 0 => R
  | s + 1 => slo os (L.getD s (0, 0)).1
def ahd (L : List Ent) : Nat → Int
  | 0 => 0
  | s + 1 => (L.getD s (0, 0)).1
theorem getD_app (hs : s < L.length) (e : Ent) : (L ++ [e]).getD s (0, 0) = L.getD s (0, 0) := by
  rw [List.getD_eq_getElem?_getD, List.getElem?_append_left hs, ← List.getD_eq_getElem?_getD]
theorem src_app (hs : s ≤ L.length) (e : Ent) : src R os (L ++ [e]) s = src R os L s := by
  cases s with
  | zero => rfl
  | succ s => show slo os ((L ++ [e]).getD s (0, 0)).1 = slo os (L.getD s (0, 0)).1; rw [getD_app (by omega)]
theorem ahd_app (hs : s ≤ L.length) (e : Ent) : ahd (L ++ [e]) s = ahd L s := by
  cases s with
  | zero => rfl
  | succ s => show ((L ++ [e]).getD s (0, 0)).1 = (L.getD s (0, 0)).1; rw [getD_app (by omega)]
structure Bf (R : List Int) (os : List Ob) (L : List Ent) (lost : List Int) (i : Nat) (pre : List Int) : Prop where
  up : L.Pairwise (fun x y => x.2 < y.2 ∨ x.2 = y.2 ∧ x.1 < y.1)
  pos : ∀ k (h : k < L.length), L[k].2 ≤ k
  top : ∀ x ∈ L, x.2 ≤ i
  il : i ≤ L.length
  old : ∀ x ∈ L, x.1 ≠ 0 ∧ x.1 ∈ ads os ∧ x.1 ∈ src R os L x.2 ∧ ∀ s, s < x.2 → x.1 ∉ src R os L s
  cur : ∀ x ∈ L, x.2 = i → x.1 ∈ pre
  all : ∀ s, s < i → ∀ a, a ∈ src R os L s → a ≠ 0 → a ∈ ads os → a ∈ ord L
  now : ∀ a ∈ pre, a ∈ ads os → a ∈ ord L
  lo : ∀ x, x ∈ lost ↔ x ∉ ads os ∧ (x ∈ pre ∨ x ≠ 0 ∧ ∃ s, s < i ∧ x ∈ src R os L s)
theorem bf_start (R : List Int) (os : List Ob) : Bf R os [] [] 0 [] :=
  ⟨List.Pairwise.nil, fun k h => by simp at h, fun x h => (by cases h), Nat.le_refl _, fun x h => (by cases h), fun x h => (by cases h), fun s h => by omega, fun a h => (by cases h), fun x => by simp⟩
theorem mem_ord : a ∈ ord L ↔ ∃ s, (a, s) ∈ L := by
  unfold ord
  rw [List.mem_map]
  constructor
  · rintro ⟨⟨u, s⟩, h, rfl⟩; exact ⟨s, h⟩
  · rintro ⟨s, h⟩; exact ⟨_, h, rfl⟩
/-- One more, who is no object. -/
theorem Bf.lose (h : Bf R os L lost i pre) (ha : a ∉ ads os) : Bf R os L (lost ++ [a]) i (pre ++ [a]) :=
  ⟨h.up, h.pos, h.top, h.il, h.old, fun x hx e => List.mem_append_left _ (h.cur x hx e), h.all, fun x hx hA => by
    rcases List.mem_append.1 hx with e | e
    · exact h.now x e hA
    · rw [List.mem_singleton.1 e] at hA; exact absurd hA ha, fun x => by
    rw [List.mem_append, List.mem_append, List.mem_singleton, h.lo]
    constructor
    · rintro (⟨e, e2 | e2⟩ | rfl)
      · exact ⟨e, .inl (.inl e2)⟩
      · exact ⟨e, .inr e2⟩
      · exact ⟨ha, .inl (.inr rfl)⟩
    · rintro ⟨e, (e2 | e2) | e2⟩
      · exact .inl ⟨e, .inl e2⟩
      · exact .inr e2
      · exact .inl ⟨e, .inr e2⟩⟩
theorem lo_more (h : Bf R os L lost i pre) (ha : a ∈ ads os) (x : Int) : x ∈ lost ↔ x ∉ ads os ∧ (x ∈ pre ++ [a] ∨ x ≠ 0 ∧ ∃ s, s < i ∧ x ∈ src R os L s) := by
  rw [h.lo, List.mem_append, List.mem_singleton]
  constructor
  · rintro ⟨e, e2 | e2⟩
    · exact ⟨e, .inl (.inl e2)⟩
    · exact ⟨e, .inr e2⟩
  · rintro ⟨e, (e2 | rfl) | e2⟩
    · exact ⟨e, .inl e2⟩
    · exact absurd ha e
    · exact ⟨e, .inr e2⟩
/-- One more, who was reached. -/
theorem Bf.was (h : Bf R os L lost i pre) (ha : a ∈ ads os) (hw : a ∈ ord L) : Bf R os L lost i (pre ++ [a]) :=
  ⟨h.up, h.pos, h.top, h.il, h.old, fun x hx e => List.mem_append_left _ (h.cur x hx e), h.all, fun x hx hA => by
    rcases List.mem_append.1 hx with e | e
    · exact h.now x e hA
    · rw [List.mem_singleton.1 e]; exact hw, lo_more h ha⟩
/-- One more, who is reached now. -/
theorem Bf.new (h : Bf R os L lost i pre) (ha : a ∈ ads os) (hw : a ∉ ord L) (h0 : a ≠ 0) (hs : a ∈ src R os L i) (hlt : ∀ b ∈ pre, b < a) : Bf R os (L ++ [(a, i)]) lost i (pre ++ [a]) := by
  have hsrc : ∀ s, s ≤ i → src R os (L ++ [(a, i)]) s = src R os L s := fun s hs => src_app (by have := h.il; omega) _
  refine ⟨?_, fun k hk => ?_, fun x hx => ?_, by rw [List.length_append]; have := h.il; omega, fun x hx => ?_, fun x hx e => ?_, fun s hs2 b hb e1 e2 => ?_, fun x hx hA => ?_, fun x => ?_⟩
  · rw [List.pairwise_append]
    refine ⟨h.up, by simp, fun x hx y hy => ?_⟩
    rw [List.mem_singleton.1 hy]
    rcases Nat.lt_or_eq_of_le (h.top x hx) with e | e
    · exact .inl e
    · exact .inr ⟨e, hlt _ (h.cur x hx e)⟩
  · rw [List.getElem_append]
    split
    · exact h.pos k _
    · rename_i e
      rw [List.length_append] at hk
      have hk : k < L.length + 1 := hk
      have e2 : k - L.length = 0 := by omega
      simp only [e2, List.getElem_cons_zero]
      have := h.il; omega
  · rcases List.mem_append.1 hx with e | e
    · exact h.top x e
    · rw [List.mem_singleton.1 e]; exact Nat.le_refl _
  · rcases List.mem_append.1 hx with e | e
    · obtain ⟨e1, e2, e3, e4⟩ := h.old x e
      have := h.top x e
      exact ⟨e1, e2, by rw [hsrc _ this]; exact e3, fun s hs => by rw [hsrc s (by omega)]; exact e4 s hs⟩
    · rw [List.mem_singleton.1 e]
      exact ⟨h0, ha, by rw [hsrc i (Nat.le_refl _)]; exact hs, fun s hs2 e5 => hw (h.all s hs2 a (by rw [hsrc s (by have hs2 : s < i := hs2; omega)] at e5; exact e5) h0 ha)⟩
  · rcases List.mem_append.1 hx with e2 | e2
    · exact List.mem_append_left _ (h.cur x e2 e)
    · rw [List.mem_singleton.1 e2]; simp
  · rw [hsrc s (by omega)] at hb
    unfold ord
    rw [List.map_append]
    exact List.mem_append_left _ (h.all s hs2 b hb e1 e2)
  · unfold ord
    rw [List.map_append, List.mem_append]
    rcases List.mem_append.1 hx with e | e
    · exact .inl (h.now x e hA)
    · exact .inr (by rw [List.mem_singleton.1 e]; simp)
  · rw [lo_more h ha]
    constructor
    · rintro ⟨e, e2 | ⟨e2, s, hs, e3⟩⟩
      · exact ⟨e, .inl e2⟩
      · exact ⟨e, .inr ⟨e2, s, hs, by rw [hsrc s (by omega)]; exact e3⟩⟩
    · rintro ⟨e, e2 | ⟨e2, s, hs, e3⟩⟩
      · exact ⟨e, .inl e2⟩
      · exact ⟨e, .inr ⟨e2, s, hs, by rw [hsrc s (by omega)] at e3; exact e3⟩⟩
/-- All that the one named is gone along; the next one. -/
theorem Bf.next (h : Bf R os L lost i pre) (hr : Ris (src R os L i) pre) (hi : i < L.length) : Bf R os L lost (i + 1) [] :=
  ⟨h.up, h.pos, fun x hx => by have := h.top x hx; omega, hi, h.old, fun x hx e => by have := h.top x hx; omega, fun s hs a ha e1 e2 => by
    rcases Nat.lt_or_eq_of_le (Nat.le_of_lt_succ hs) with e | rfl
    · exact h.all s e a ha e1 e2
    · exact h.now a ((hr.mem a).2 ⟨ha, e1⟩) e2, fun a ha => (by cases ha), fun x => by
    rw [h.lo]
    constructor
    · rintro ⟨e, e2 | ⟨e2, s, hs, e3⟩⟩
      · exact ⟨e, .inr ⟨((hr.mem x).1 e2).2, i, by omega, ((hr.mem x).1 e2).1⟩⟩
      · exact ⟨e, .inr ⟨e2, s, by omega, e3⟩⟩
    · rintro ⟨e, e2 | ⟨e2, s, hs, e3⟩⟩
      · cases e2
      · rcases Nat.lt_or_eq_of_le (Nat.le_of_lt_succ hs) with e4 | rfl
        · exact ⟨e, .inr ⟨e2, s, e4, e3⟩⟩
        · exact ⟨e, .inl ((hr.mem x).2 ⟨e3, e2⟩)⟩⟩
theorem Bf.nodup (h : Bf R os L lost i pre) : (ord L).Nodup := by
  unfold ord List.Nodup
  rw [List.pairwise_map]
  refine (List.pairwise_iff_getElem.2 fun j k hj hk hjk e => ?_)
  have h1 := List.pairwise_iff_getElem.1 h.up j k hj hk hjk
  rcases h1 with h1 | ⟨_, h1⟩
  · exact (h.old _ (List.getElem_mem hk)).2.2.2 _ h1 (by rw [← e]; exact (h.old _ (List.getElem_mem hj)).2.2.1)
  · omega
theorem getD_L (hk : k < L.length) : L.getD k (0, 0) = L[k] := by rw [List.getD_eq_getElem?_getD, List.getElem?_eq_getElem hk]; rfl
/-- Each that was reached can be. -/
theorem Bf.sound (h : Bf R os L lost i pre) : ∀ k (hk : k < L.length), Rch R os L[k].1 := by
  intro k
  induction k using Nat.strongRecOn with
  | ind k ih =>
    intro hk
    obtain ⟨e1, e2, e3, _⟩ := h.old _ (List.getElem_mem hk)
    have hp := h.pos k hk
    revert e3
    cases hs : L[k].2 with
    | zero => exact fun e3 => .root e3 e1 e2
    | succ s =>
      intro e3
      rw [hs] at hp
      replace e3 : L[k].1 ∈ slo os (L.getD s (0, 0)).1 := e3
      rw [getD_L (by omega)] at e3
      exact .step (ih s (by omega) (by omega)) e3 e1 e2
theorem Bf.mem (h : Bf R os L lost i pre) (hr : Ris (src R os L i) pre) (hi : i = L.length) : a ∈ ord L ↔ Rch R os a := by
  constructor
  · intro ha
    obtain ⟨s, hs⟩ := mem_ord.1 ha
    obtain ⟨k, hk, e⟩ := List.getElem_of_mem hs
    have := h.sound k hk
    rw [e] at this; exact this
  · have hall : ∀ s, s ≤ i → ∀ a, a ∈ src R os L s → a ≠ 0 → a ∈ ads os → a ∈ ord L := fun s hs a ha e1 e2 => by
      rcases Nat.lt_or_eq_of_le hs with e | rfl
      · exact h.all s e a ha e1 e2
      · exact h.now a ((hr.mem a).2 ⟨ha, e1⟩) e2
    intro ha
    induction ha with
    | root h1 h2 h3 => exact hall 0 (by omega) _ h1 h2 h3
    | step h1 h2 h3 h4 ih =>
      rename_i b
      obtain ⟨s, hs⟩ := mem_ord.1 ih
      obtain ⟨k, hk, e⟩ := List.getElem_of_mem hs
      exact hall (k + 1) (by omega) _ (by show _ ∈ slo os (L.getD k (0, 0)).1; rw [getD_L hk, e]; exact h2) h3 h4
theorem Bf.loses (h : Bf R os L lost i pre) (hr : Ris (src R os L i) pre) (hi : i = L.length) : x ∈ lost ↔ Lst R os x := by
  rw [h.lo]
  constructor
  · rintro ⟨e, e2⟩
    have : x ≠ 0 ∧ ∃ s, s ≤ i ∧ x ∈ src R os L s := by
      rcases e2 with e2 | ⟨e2, s, hs, e3⟩
      · exact ⟨((hr.mem x).1 e2).2, i, Nat.le_refl _, ((hr.mem x).1 e2).1⟩
      · exact ⟨e2, s, by omega, e3⟩
    obtain ⟨e3, s, hs, e4⟩ := this
    refine ⟨e, e3, ?_⟩
    cases s with
    | zero => exact .inl e4
    | succ s =>
      replace e4 : x ∈ slo os (L.getD s (0, 0)).1 := e4
      rw [getD_L (by omega)] at e4
      exact .inr ⟨_, h.sound s (by omega), e4⟩
  · rintro ⟨e, e2, e3⟩
    have : ∃ s, s ≤ i ∧ x ∈ src R os L s := by
      rcases e3 with e3 | ⟨b, hb, e3⟩
      · exact ⟨0, by omega, e3⟩
      · obtain ⟨s, hs⟩ := mem_ord.1 ((h.mem hr hi).2 hb)
        obtain ⟨k, hk, e⟩ := List.getElem_of_mem hs
        exact ⟨k + 1, by omega, by show _ ∈ slo os (L.getD k (0, 0)).1; rw [getD_L hk, e]; exact e3⟩
    obtain ⟨s, hs, e4⟩ := this
    refine ⟨e, ?_⟩
    rcases Nat.lt_or_eq_of_le hs with e5 | rfl
    · exact .inr ⟨e2, s, e5, e4⟩
    · exact .inl ((hr.mem x).2 ⟨e4, e2⟩)
end Vw
end Go.Proofs.Ytneibhcigbfigaa
