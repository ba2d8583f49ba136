/- Pages that come back: the run that they become; plain mathematics. -/
import Derived.Test.YtbheabjemaaeoabPageDo
namespace Go.Proofs.Ytbheabjemaaeoab
set_option linter.unusedVariables false
namespace Pg
variable {n a b k K m c i A B p : Nat} {F : List Bool} {L M : List Rn} {r s : Rn}
theorem left_end (h0 : F.getD 0 false = false) : ∀ i, F.getD i false = true → ∃ b, 1 ≤ b ∧ b ≤ i ∧ (∀ j, b ≤ j → j ≤ i → F.getD j false = true) ∧ F.getD (b - 1) false = false
  | 0, h => by rw [h0] at h; cases h
  | i + 1, h => by
    cases hp : F.getD i false with
    | true =>
      obtain ⟨b, b1, b2, b3, b4⟩ := left_end h0 i hp
      refine ⟨b, b1, by omega, fun j h1 h2 => ?_, b4⟩
      by_cases e : j = i + 1
      · rw [e]; exact h
      · exact b3 j h1 (by omega)
    | false => exact ⟨i + 1, by omega, Nat.le_refl _, fun j h1 h2 => by rw [show j = i + 1 by omega]; exact h, hp⟩
theorem out_false (hl : F.length = n) {i : Nat} (h : n ≤ i) : F.getD i false = false := by
  rw [List.getD_eq_getElem?_getD, List.getElem?_eq_none (by omega)]; rfl
theorem right_end (hl : F.length = n) : ∀ d i, n ≤ i + d → F.getD i false = true → ∃ e, i < e ∧ e ≤ n ∧ (∀ j, i ≤ j → j < e → F.getD j false = true) ∧ F.getD e false = false
  | 0, i, hd, h => by rw [out_false hl (by omega)] at h; cases h
  | d + 1, i, hd, h => by
    have hin : i < n := by
      rcases Nat.lt_or_ge i n with q | q
      · exact q
      · rw [out_false hl q] at h; cases h
    cases hp : F.getD (i + 1) false with
    | true =>
      obtain ⟨e, e1, e2, e3, e4⟩ := right_end hl d (i + 1) (by omega) hp
      refine ⟨e, by omega, e2, fun j h1 h2 => ?_, e4⟩
      by_cases q : j = i
      · rw [q]; exact h
      · exact e3 j (by omega) h2
    | false => exact ⟨i + 1, by omega, by omega, fun j h1 h2 => by rw [show j = i by omega]; exact h, hp⟩
/-- A free page lies in a run. -/
theorem in_run (hl : F.length = n) (h0 : F.getD 0 false = false) (h : F.getD i false = true) : ∃ b m, IsRun n F b m ∧ b ≤ i ∧ i < b + m := by
  obtain ⟨b, b1, b2, b3, b4⟩ := left_end h0 i h
  obtain ⟨e, e1, e2, e3, e4⟩ := right_end hl n i (by omega) h
  refine ⟨b, e - b, ⟨b1, by omega, by omega, fun j h1 h2 => ?_, b4, by rw [show b + (e - b) = e by omega]; exact e4⟩, b2, by omega⟩
  rcases Nat.lt_or_ge j i with q | q
  · exact b3 j h1 (by omega)
  · exact e3 j q (by omega)
/-- What lies at the left of the pages that come back: a run that ends there, or nothing. -/
def LeftOf (n : Nat) (F : List Bool) (a c : Nat) : Prop := (c = a ∧ F.getD (a - 1) false = false) ∨ (∃ A, IsRun n F c A ∧ c + A = a)
def RightOf (n : Nat) (F : List Bool) (e d : Nat) : Prop := (d = e ∧ F.getD e false = false) ∨ (∃ B, IsRun n F e B ∧ d = e + B)
theorem joined (hl : F.length = n) (ha : 1 ≤ a) (hk : 1 ≤ k) (hak : a + k ≤ n) (h1 : LeftOf n F a c) (h2 : RightOf n F (a + k) (c + K)) : IsRun n (setR F a true k) c K ∧ c ≤ a ∧ a + k ≤ c + K := by
  have hs : ∀ i, (setR F a true k).getD i false = if a ≤ i ∧ i < a + k then true else F.getD i false := fun i => setR_get F a true i k (by omega)
  have hca : c ≤ a := by rcases h1 with ⟨e, _⟩ | ⟨A, g, e⟩ <;> omega
  have hke : a + k ≤ c + K := by rcases h2 with ⟨e, _⟩ | ⟨A, g, e⟩ <;> omega
  refine ⟨⟨?_, by omega, ?_, fun i i1 i2 => ?_, ?_, ?_⟩, hca, hke⟩
  · rcases h1 with ⟨e, _⟩ | ⟨A, g, e⟩
    · omega
    · exact g.a1
  · rcases h2 with ⟨e, _⟩ | ⟨A, g, e⟩
    · omega
    · have := g.le; omega
  · rw [hs]
    by_cases q : a ≤ i ∧ i < a + k
    · rw [if_pos q]
    · rw [if_neg q]
      rcases Nat.lt_or_ge i a with q2 | q2
      · rcases h1 with ⟨e, _⟩ | ⟨A, g, e⟩
        · omega
        · exact g.in_ i i1 (by omega)
      · rcases h2 with ⟨e, _⟩ | ⟨A, g, e⟩
        · omega
        · exact g.in_ i (by omega) (by omega)
  · rcases h1 with ⟨e, g⟩ | ⟨A, g, e⟩
    · rw [e, hs, if_neg (by omega)]; exact g
    · have := g.a1
      have := g.k1
      rw [hs, if_neg (by omega)]; exact g.lo
  · rcases h2 with ⟨e, g⟩ | ⟨A, g, e⟩
    · rw [e, hs, if_neg (by omega)]; exact g
    · have := g.k1
      rw [e, hs, if_neg (by omega)]; exact g.hi
theorem left_none (hl : F.length = n) (h0 : F.getD 0 false = false) (hf : F.getD a false = false) (ha : 1 ≤ a) (hn : ∀ b m, IsRun n F b m → b + m ≠ a) : LeftOf n F a a := by
  refine .inl ⟨rfl, ?_⟩
  cases h : F.getD (a - 1) false with
  | false => rfl
  | true =>
    obtain ⟨b, m, g, g1, g2⟩ := in_run hl h0 h
    exfalso
    rcases Nat.lt_or_ge a (b + m) with q | q
    · have := g.in_ a (by omega) q
      rw [hf] at this; cases this
    · exact hn b m g (by omega)
theorem right_none (hl : F.length = n) (h0 : F.getD 0 false = false) {e : Nat} (he : 1 ≤ e) (hf : F.getD (e - 1) false = false) (hn : ∀ b m, IsRun n F b m → b ≠ e) : RightOf n F e e := by
  refine .inl ⟨rfl, ?_⟩
  cases h : F.getD e false with
  | false => rfl
  | true =>
    obtain ⟨b, m, g, g1, g2⟩ := in_run hl h0 h
    exfalso
    rcases Nat.lt_or_ge b e with q | q
    · have := g.in_ (e - 1) (by omega) (by omega)
      rw [hf] at this; cases this
    · exact hn b m g (by omega)
/-- The runs behind it. -/
theorem rel_join (hr : Rel n F L) (hl : F.length = n) (ha : 1 ≤ a) (hk : 1 ≤ k) (hak : a + k ≤ n) (hf : ∀ i, a ≤ i → i < a + k → F.getD i false = false) (h1 : LeftOf n F a c) (h2 : RightOf n F (a + k) (c + K)) (hx : Lx n L) {L2 M2 : List Rn} {N : Nat} (hset : ∀ s, s ∈ L2 ↔ s ∈ L ∧ s.1 + s.2.1 ≠ a ∧ s.1 ≠ (a : Int) + k) (hM : M2.Perm (L2 ++ [((c : Int), (K : Int), N)])) : Rel n (setR F a true k) M2 := by
  obtain ⟨hrun, hca, hke⟩ := joined hl ha hk hak h1 h2
  have hiff := run_join hl hak hk hf hrun hca hke
  have hz : (setR F a true k).getD 0 false = false := by
    rw [setR_get F a true 0 k (by omega), if_neg (by omega)]; exact hr.zero
  refine (show Rel n (setR F a true k) (L2 ++ [((c : Int), (K : Int), N)]) from ⟨fun s hs => ?_, fun b q g => ?_, hz⟩).perm hM
  · rcases List.mem_append.1 hs with hs | hs
    · obtain ⟨s1, s2, s3⟩ := (hset s).1 hs
      have hp := hx.pos s s1
      exact (hiff _ _).2 (.inr ⟨hr.sound s s1, by omega, by omega⟩)
    · obtain rfl : s = ((c : Int), (K : Int), N) := by simpa using hs
      exact (hiff _ _).2 (.inl ⟨Int.toNat_natCast _, Int.toNat_natCast _⟩)
  · rcases (hiff b q).1 g with ⟨rfl, rfl⟩ | ⟨g1, g2, g3⟩
    · exact ⟨_, List.mem_append_right _ (List.mem_singleton.2 rfl), rfl, rfl⟩
    · obtain ⟨s, hs, s1, s2⟩ := hr.all b q g1
      exact ⟨s, List.mem_append_left _ ((hset s).2 ⟨hs, by omega, by omega⟩), s1, s2⟩
end Pg
end Go.Proofs.Ytbheabjemaaeoab
