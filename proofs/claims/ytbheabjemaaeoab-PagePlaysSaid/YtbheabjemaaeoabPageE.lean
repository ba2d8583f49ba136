/- Pages with runs that do not meet, and a map that tells their ends: a run is taken, a run is put. -/
import Derived.Test.YtbheabjemaaeoabSeek
namespace Go.Proofs.Ytbheabjemaaeoab
open Go.RowKit Go.Lib Fx Ho Gr
set_option linter.unusedVariables false
namespace Pg
open Hm Mp
variable {w w' W : World} {P b0 z n c i j k N : Nat} {v fv mv : Value} {L M : List Rn} {H H' : Home} {x r s : Rn} {F : List Bool} {m m' : Int → Value}
/-- Two runs that do not meet. -/
def Apart (r s : Rn) : Prop := r.1 + r.2.1 ≤ s.1 ∨ s.1 + s.2.1 ≤ r.1
theorem Apart.symm (h : Apart r s) : Apart s r := h.elim .inr .inl
structure Lx (n : Nat) (L : List Rn) : Prop where
  pos : ∀ r, r ∈ L → 1 ≤ r.1 ∧ 1 ≤ r.2.1 ∧ r.1 + r.2.1 ≤ n
  pair : L.Pairwise Apart
theorem Lx.perm (h : Lx n L) (hp : M.Perm L) : Lx n M := ⟨fun r hr => h.pos r (hp.mem_iff.1 hr), (hp.symm.pairwise h.pair (fun h => Apart.symm h))⟩
theorem Lx.cons (h : Lx n (r :: L)) : Lx n L ∧ ∀ s, s ∈ L → Apart r s := by
  have := List.pairwise_cons.1 h.pair
  exact ⟨⟨fun s hs => h.pos s (List.mem_cons_of_mem _ hs), this.2⟩, this.1⟩
theorem Lx.snoc (h : Lx n L) (hx : 1 ≤ x.1 ∧ 1 ≤ x.2.1 ∧ x.1 + x.2.1 ≤ n) (ha : ∀ s, s ∈ L → Apart s x) : Lx n (L ++ [x]) := by
  refine ⟨fun r hr => ?_, List.pairwise_append.2 ⟨h.pair, by simp, fun a ha' b hb => ?_⟩⟩
  · rcases List.mem_append.1 hr with hr | hr
    · exact h.pos r hr
    · obtain rfl : r = x := by simpa using hr
      exact hx
  · obtain rfl : b = x := by simpa using hb
    exact ha a ha'
/-- k is the first or the last page of r. -/
def End (r : Rn) (k : Int) : Prop := r.1 = k ∨ r.1 + r.2.1 - 1 = k
def Ends (m : Int → Value) (L : List Rn) : Prop := ∀ k : Int, (∃ r, r ∈ L ∧ End r k ∧ m k = pn r.2.2) ∨ ((∀ r, r ∈ L → ¬ End r k) ∧ m k = pz)
theorem Ends.perm (h : Ends m L) (hp : M.Perm L) : Ends m M := fun k => by
  rcases h k with ⟨r, h1, h2, h3⟩ | ⟨h1, h2⟩
  · exact .inl ⟨r, hp.mem_iff.2 h1, h2, h3⟩
  · exact .inr ⟨fun r hr => h1 r (hp.mem_iff.1 hr), h2⟩
theorem end_apart (h : Apart r s) (h1 : 1 ≤ r.2.1) (h2 : 1 ≤ s.2.1) {k : Int} (hr : End r k) (hs : End s k) : False := by
  unfold Apart at h; unfold End at hr hs; omega
theorem Ends.drop (h : Ends m (r :: L)) (hx : Lx n (r :: L)) : Ends (up (up m r.1 pz) (r.1 + r.2.1 - 1) pz) L := fun k => by
  obtain ⟨hl, ha⟩ := hx.cons
  have hr := hx.pos r (List.mem_cons_self ..)
  by_cases he : End r k
  · refine .inr ⟨fun s hs hse => end_apart (ha s hs) hr.2.1 (hx.pos s (List.mem_cons_of_mem _ hs)).2.1 he hse, ?_⟩
    unfold up
    unfold End at he
    by_cases q : k = r.1 + r.2.1 - 1
    · rw [if_pos q]
    · rw [if_neg q, if_pos (by omega)]
  · have hm : up (up m r.1 pz) (r.1 + r.2.1 - 1) pz k = m k := by
      unfold up
      unfold End at he
      rw [if_neg (by omega), if_neg (by omega)]
    rw [hm]
    rcases h k with ⟨s, h1, h2, h3⟩ | ⟨h1, h2⟩
    · rcases List.mem_cons.1 h1 with rfl | h1
      · exact absurd h2 he
      · exact .inl ⟨s, h1, h2, h3⟩
    · exact .inr ⟨fun s hs => h1 s (List.mem_cons_of_mem _ hs), h2⟩
theorem Ends.more (h : Ends m L) (hx : Lx n (L ++ [x])) : Ends (up (up m x.1 (pn x.2.2)) (x.1 + x.2.1 - 1) (pn x.2.2)) (L ++ [x]) := fun k => by
  by_cases he : End x k
  · refine .inl ⟨x, by simp, he, ?_⟩
    unfold up
    unfold End at he
    by_cases q : k = x.1 + x.2.1 - 1
    · rw [if_pos q]
    · rw [if_neg q, if_pos (by omega)]
  · have hm : up (up m x.1 (pn x.2.2)) (x.1 + x.2.1 - 1) (pn x.2.2) k = m k := by
      unfold up
      unfold End at he
      rw [if_neg (by omega), if_neg (by omega)]
    rw [hm]
    rcases h k with ⟨s, h1, h2, h3⟩ | ⟨h1, h2⟩
    · exact .inl ⟨s, List.mem_append_left _ h1, h2, h3⟩
    · refine .inr ⟨fun s hs => ?_, h2⟩
      rcases List.mem_append.1 hs with hs | hs
      · exact h1 s hs
      · obtain rfl : s = x := by simpa using hs
        exact he
structure Pe (w : World) (P : Nat) (v : Value) (b0 z n c : Nat) (F : List Bool) (L : List Rn) (m : Int → Value) : Prop where
  pc : Pc w P v b0 z n c F L m
  lx : Lx n L
  en : Ends m L
  lc : L.length ≤ c
  nb : n ≤ 270000
theorem Pe.below (h : Pe w P v b0 z n c F L m) (hb : Below w.heap.size w w') : Pe w' P v b0 z n c F L m := ⟨h.pc.below hb, h.lx, h.en, h.lc, h.nb⟩
theorem Pe.wrote (h : Pe w P v b0 z n c F L m) (ht : Wrote H w H' w') (ho : Off (homeA P v b0 z L) H) : Pe w' P v b0 z n c F L m := ⟨h.pc.wrote ht ho, h.lx, h.en, h.lc, h.nb⟩
def TakenE (w : World) (P : Nat) (v : Value) (b0 z n c : Nat) (F : List Bool) (L : List Rn) (r : Rn) (e : Ending) (w' : World) : Prop :=
  e = .returned (.pointer (some ⟨r.2.2, 0, none⟩)) ∧ ∃ v' M m', Pe w' P v' b0 z n c F M m' ∧ (r :: M).Perm L ∧ Wrote (homeA P v b0 z L) w (homeA P v' b0 z M) w' ∧ w'.cell? ⟨r.2.2, 0, none⟩ = some (.int .i64 r.1) ∧ w'.cell? ⟨r.2.2, 1, none⟩ = some (.int .i64 r.2.1) ∧ ¬ homeA P v' b0 z M r.2.2
theorem take_e (h : Pe w P v b0 z n c F L m) (hi : i < L.length) (hr : L.getD i Rn.rn0 = r) : Calls Try.prog 22 #[.pointer (some ⟨P, 0, none⟩), .int .i64 i] w (TakenE w P v b0 z n c F L r) := by
  have hrm : r ∈ L := by rw [← hr]; exact mem_at hi
  have hp := h.lx.pos r hrm
  have hnb := h.nb
  refine (take_any h.pc hi hr (by omega) (by omega) (by omega) (by omega)).mono fun e w' ⟨he, v', M, a, h1, h2, h3, h4, h5⟩ => ?_
  have hx := h.lx.perm h2
  have hlen : M.length + 1 = L.length := by rw [← h2.length_eq]; rfl
  have hlc := h.lc
  refine ⟨he, v', M, _, ⟨h1, hx.cons.1, (h.en.perm h2).drop hx, by omega, hnb⟩, h2, h3, by unfold robj at h4; exact cell_of h4 rfl, by unfold robj at h4; exact cell_of h4 rfl, fun hh => ?_⟩
  rcases hh with (e | e) | e | e
  · exact (h.pc.q.pile.offb r hrm).2 e
  · exact h5 e
  · exact h.pc.bh (.inr ⟨r, hrm, e⟩)
  · exact h.pc.zh (.inr ⟨r, hrm, e⟩)
def PuttedE (w : World) (P : Nat) (v : Value) (b0 z n c : Nat) (F : List Bool) (L : List Rn) (a k : Nat) (e : Ending) (w' : World) : Prop :=
  e = .returned (.tuple #[]) ∧ ∃ v' M m' N, w.heap.size ≤ N ∧ Pe w' P v' b0 z n (c + 4) F M m' ∧ M.Perm (L ++ [((a : Int), (k : Int), N)]) ∧ Wrote (homeA P v b0 z L) w (homeA P v' b0 z M) w'
theorem put_e (h : Pe w P v b0 z n c F L m) (hc : c ≤ 990) (a k : Nat) (ha : 1 ≤ a) (hk : 1 ≤ k) (hak : a + k ≤ n) (hd : ∀ r, r ∈ L → r.1 + r.2.1 ≤ a ∨ (a : Int) + k ≤ r.1) : Calls Try.prog 20 #[.pointer (some ⟨P, 0, none⟩), .int .i64 a, .int .i64 k] w (PuttedE w P v b0 z n c F L a k) := by
  have hnb := h.nb
  have hlc := h.lc
  refine (put_any h.pc a k ha hk (by omega) (by omega) (by omega)).mono fun e w' ⟨he, v', M, N, hN, h1, h2, h3⟩ => ?_
  have hx : Lx n (L ++ [((a : Int), (k : Int), N)]) := h.lx.snoc ⟨by show (1 : Int) ≤ a; omega, by show (1 : Int) ≤ k; omega, by show (a : Int) + k ≤ n; omega⟩ hd
  have hlen : M.length = L.length + 1 := by rw [h2.length_eq]; simp
  exact ⟨he, v', M, _, N, hN, ⟨h1, hx.perm h2, (h.en.more hx).perm h2, by omega, hnb⟩, h2, h3⟩
end Pg
end Go.Proofs.Ytbheabjemaaeoab
