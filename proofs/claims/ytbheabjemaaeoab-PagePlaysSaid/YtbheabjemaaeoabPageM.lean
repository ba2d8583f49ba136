/- Runs of free pages: what is left of one that is cut, what becomes one that is joined; plain mathematics. -/
import Derived.Test.YtbheabjemaaeoabPageE
namespace Go.Proofs.Ytbheabjemaaeoab
set_option linter.unusedVariables false
namespace Pg
variable {n a b k K m c i : Nat} {F : List Bool} {L M : List Rn} {r : Rn}
/-- The K pages from a on are free, and those beside them are not. -/
structure IsRun (n : Nat) (F : List Bool) (a K : Nat) : Prop where
  a1 : 1 ≤ a
  k1 : 1 ≤ K
  le : a + K ≤ n
  in_ : ∀ i, a ≤ i → i < a + K → F.getD i false = true
  lo : F.getD (a - 1) false = false
  hi : F.getD (a + K) false = false
theorem IsRun.apart (h : IsRun n F a K) (g : IsRun n F b m) (hne : a ≠ b) : a + K < b ∨ b + m < a := by
  rcases Nat.lt_or_ge a b with q | q
  · refine .inl ?_
    rcases Nat.lt_or_ge (a + K) b with q2 | q2
    · exact q2
    · have := h.in_ (b - 1) (by omega) (by omega)
      rw [g.lo] at this; cases this
  · refine .inr ?_
    rcases Nat.lt_or_ge (b + m) a with q2 | q2
    · exact q2
    · have := g.in_ (a - 1) (by omega) (by omega)
      rw [h.lo] at this; cases this
theorem IsRun.same (h : IsRun n F a K) (g : IsRun n F a m) : K = m := by
  rcases Nat.lt_trichotomy K m with q | q | q
  · have := g.in_ (a + K) (by omega) (by omega)
    rw [h.hi] at this; cases this
  · exact q
  · have := h.in_ (a + m) (by omega) (by omega)
    rw [g.hi] at this; cases this
/-- A run from which the first k pages were taken: what is a run then. -/
theorem run_cut (h : IsRun n F a K) (k1 : 1 ≤ k) (kK : k ≤ K) (hl : F.length = n) : ∀ b m, IsRun n (setR F a false k) b m ↔ (IsRun n F b m ∧ b ≠ a) ∨ (k < K ∧ b = a + k ∧ m = K - k) := fun b m => by
  have hle := h.le
  have hs : ∀ i, (setR F a false k).getD i false = if a ≤ i ∧ i < a + k then false else F.getD i false := fun i => setR_get F a false i k (by omega)
  constructor
  · intro g
    have gb := g.in_ b (by omega) (by have := g.k1; omega)
    have gF : ∀ i, b ≤ i → i < b + m → F.getD i false = true ∧ ¬ (a ≤ i ∧ i < a + k) := fun i h1 h2 => by
      have := g.in_ i h1 h2
      rw [hs] at this
      by_cases q : a ≤ i ∧ i < a + k
      · rw [if_pos q] at this; cases this
      · rw [if_neg q] at this; exact ⟨this, q⟩
    have gm := g.k1
    have ga := g.a1
    have hb := (gF b (by omega) (by omega))
    have hlast := gF (b + m - 1) (by omega) (by omega)
    by_cases q : a ≤ b - 1 ∧ b - 1 < a + k
    · have hbe : b = a + k := by have := hb.2; omega
      refine .inr ?_
      have h1 : a + K ≥ b + m := by
        rcases Nat.lt_or_ge (a + K) (b + m) with q2 | q2
        · have := (gF (a + K) (by omega) q2).1
          rw [h.hi] at this; cases this
        · exact q2
      have h2 : a + K ≤ b + m := by
        rcases Nat.lt_or_ge (b + m) (a + K) with q2 | q2
        · have h3 := h.in_ (b + m) (by omega) q2
          have h4 := g.hi
          rw [hs, if_neg (by omega), h3] at h4; cases h4
        · exact q2
      omega
    · refine .inl ⟨⟨ga, gm, g.le, fun i h1 h2 => (gF i h1 h2).1, ?_, ?_⟩, fun e => hb.2 (by omega)⟩
      · have := g.lo; rwa [hs, if_neg q] at this
      · have h5 := g.hi
        rw [hs] at h5
        by_cases q2 : a ≤ b + m ∧ b + m < a + k
        · exfalso
          have h6 := hlast.2
          have : a = b + m := by omega
          have h7 := hlast.1
          rw [show b + m - 1 = a - 1 by omega, h.lo] at h7; cases h7
        · rwa [if_neg q2] at h5
  · rintro (⟨g, hne⟩ | ⟨h1, rfl, rfl⟩)
    · have hap := h.apart g (Ne.symm hne)
      refine ⟨g.a1, g.k1, g.le, fun i h1 h2 => ?_, ?_, ?_⟩
      · rw [hs, if_neg (by omega)]; exact g.in_ i h1 h2
      · rw [hs]; split
        · rfl
        · exact g.lo
      · rw [hs]; split
        · rfl
        · exact g.hi
    · refine ⟨by omega, by omega, by omega, fun i h2 h3 => ?_, ?_, ?_⟩
      · rw [hs, if_neg (by omega)]; exact h.in_ i (by omega) (by omega)
      · rw [hs, if_pos (by omega)]
      · rw [hs, if_neg (by omega), show a + k + (K - k) = a + K by omega]; exact h.hi
/-- Pages that come back, with what is beside them: a run c, K around the k pages from a on. -/
theorem run_join (hl : F.length = n) (hak : a + k ≤ n) (k1 : 1 ≤ k) (hf : ∀ i, a ≤ i → i < a + k → F.getD i false = false) (h : IsRun n (setR F a true k) c K) (hc : c ≤ a) (he : a + k ≤ c + K) : ∀ b m, IsRun n (setR F a true k) b m ↔ (b = c ∧ m = K) ∨ (IsRun n F b m ∧ b + m ≠ a ∧ b ≠ a + k) := fun b m => by
  have hs : ∀ i, (setR F a true k).getD i false = if a ≤ i ∧ i < a + k then true else F.getD i false := fun i => setR_get F a true i k (by omega)
  constructor
  · intro g
    by_cases e : b = c
    · subst e
      exact .inl ⟨rfl, g.same h⟩
    · have hap := h.apart g (Ne.symm e)
      have gk := g.k1
      have ga := g.a1
      refine .inr ⟨⟨ga, gk, g.le, fun i h1 h2 => ?_, ?_, ?_⟩, by omega, by omega⟩
      · have := g.in_ i h1 h2
        rwa [hs, if_neg (by omega)] at this
      · have := g.lo
        rw [hs] at this
        split at this
        · cases this
        · exact this
      · have := g.hi
        rw [hs] at this
        split at this
        · cases this
        · exact this
  · rintro (⟨rfl, rfl⟩ | ⟨g, h1, h2⟩)
    · exact h
    · have gk := g.k1
      have ga := g.a1
      have no : ∀ i, b ≤ i → i < b + m → ¬ (a ≤ i ∧ i < a + k) := fun i q1 q2 q3 => by
        have := g.in_ i q1 q2
        rw [hf i q3.1 q3.2] at this; cases this
      refine ⟨ga, gk, g.le, fun i q1 q2 => ?_, ?_, ?_⟩
      · rw [hs]; split
        · rfl
        · exact g.in_ i q1 q2
      · rw [hs, if_neg (fun q => no b (by omega) (by omega) (by omega))]; exact g.lo
      · rw [hs, if_neg (fun q => no (b + m - 1) (by omega) (by omega) (by omega))]; exact g.hi
/-- L is the runs of F. -/
structure Rel (n : Nat) (F : List Bool) (L : List Rn) : Prop where
  sound : ∀ r, r ∈ L → IsRun n F r.1.toNat r.2.1.toNat
  all : ∀ a K, IsRun n F a K → ∃ r, r ∈ L ∧ r.1 = (a : Int) ∧ r.2.1 = (K : Int)
  zero : F.getD 0 false = false
theorem Rel.perm (h : Rel n F L) (hp : M.Perm L) : Rel n F M := ⟨fun r hr => h.sound r (hp.mem_iff.1 hr), fun a K g => by
  obtain ⟨r, h1, h2⟩ := h.all a K g
  exact ⟨r, hp.mem_iff.2 h1, h2⟩, h.zero⟩
end Pg
end Go.Proofs.Ytbheabjemaaeoab
