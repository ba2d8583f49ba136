/- The document's own Put and Out at a rising list; what a Barrier's names hold. -/
import Derived.Test.YtmngaedcckjfoabPutNew
import Derived.Test.YtmngaedcckjfoabOut
import Derived.Test.YtmngaedcckjfoabBarMore
namespace Go.Proofs.Ytmngaedcckjfoab
open Go.RowKit Go.Lib Fx Ho Qu
set_option linter.unusedVariables false
namespace Rw
variable {w w' : World} {v : Value} {L : List Int} {lo : Nat}
theorem put_list {x : Int} (h : OffRow w v L) (hl : Low lo (fun k => v.ownBlock = some k)) (hlo : lo ≤ w.heap.size) (hs : L.length ≤ 500000) : Calls Try.prog 34 #[v, .int .i64 x] w fun e w' => ∃ v', e = .returned v' ∧ OffRow w' v' (putL L x) ∧ Low lo (fun k => v'.ownBlock = some k) ∧ Below w.heap.size w w' := by
  obtain ⟨A, B, e, hlow, hc⟩ := put_at (x := x) L
  rcases hc with ⟨C, e2, e3⟩ | ⟨hup, e3⟩
  · have e4 : L = A ++ x :: C := by rw [e, e2]
    rw [e3]
    subst e4
    have hh := h
    obtain ⟨sp, cap, rfl⟩ := h.slice
    refine (put_here h.ints hlow rfl).mono ?_
    rintro _ w' ⟨rfl, rfl⟩
    exact ⟨_, rfl, h, hl, Below.refl _ _⟩
  · rw [e3]
    subst e
    refine (put_new h hlow hup hs).mono ?_
    rintro _ w' ⟨v', rfl, g1, g2, g3⟩
    exact ⟨v', rfl, g1, fun k hk => Nat.le_trans hlo (g2 k hk), g3⟩
theorem out_list {x : Int} (h : OffRow w v L) (hp : L.Pairwise (· < ·)) (hl : Low lo (fun k => v.ownBlock = some k)) (hlo : lo ≤ w.heap.size) (hs : L.length ≤ 500000) : Calls Try.prog 35 #[v, .int .i64 x] w fun e w' => ∃ v' b L', e = .returned (.tuple #[v', .bool b]) ∧ OffRow w' v' L' ∧ Low lo (fun k => v'.ownBlock = some k) ∧ Below w.heap.size w w' ∧ L'.Pairwise (· < ·) ∧ (∀ z, z ∈ L' ↔ z ∈ L ∧ z ≠ x) ∧ L'.length ≤ L.length := by
  by_cases hx : x ∈ L
  · obtain ⟨A, B, rfl, hno⟩ := first_of hx
    obtain ⟨ao, b, off, cap, rfl, hcap, -, -, -⟩ := h.cell
    refine (out_some h.ints hno rfl hcap hs).mono ?_
    rintro _ w' ⟨v', rfl, g1, g2, g3⟩
    refine ⟨v', true, _, rfl, g1, fun k hk => Nat.le_trans hlo (g2 k hk), g3, hp.sublist (List.Sublist.append_left (List.sublist_cons_self x B) A), fun z => ?_, by simp⟩
    have hB : ∀ z ∈ B, x < z := (List.pairwise_cons.1 (List.pairwise_append.1 hp).2.1).1
    constructor
    · intro hz
      rcases List.mem_append.1 hz with hz | hz
      · exact ⟨List.mem_append_left _ hz, fun e => hno (e ▸ hz)⟩
      · exact ⟨List.mem_append_right _ (List.mem_cons_of_mem _ hz), fun e => by have := hB z hz; omega⟩
    · rintro ⟨hz, hne⟩
      rcases List.mem_append.1 hz with hz | hz
      · exact List.mem_append_left _ hz
      · rcases List.mem_cons.1 hz with hz | hz
        · exact absurd hz hne
        · exact List.mem_append_right _ hz
  · refine (out_not h.ints hx).mono ?_
    rintro _ w' ⟨rfl, rfl⟩
    exact ⟨v, false, L, rfl, h, hl, Below.refl _ _, hp, fun z => ⟨fun hz => ⟨hz, fun e => hx (e ▸ hz)⟩, fun hz => hz.1⟩, Nat.le_refl _⟩
theorem below_same {a b : World} (hh : b.heap = a.heap) (ho : b.os = a.os) (ht : b.tape = a.tape) (hu : b.output = a.output) : Below a.heap.size a b := ⟨ho, ht, hu, by rw [hh]; exact Nat.le_refl _, fun k _ => by rw [hh]⟩
theorem putL_len (x : Int) : ∀ l : List Int, (putL l x).length ≤ l.length + 1
  | [] => by simp [putL]
  | y :: l => by
    unfold putL
    by_cases h : y < x
    · rw [if_pos h]; have := putL_len x l; simp; omega
    · rw [if_neg h]
      by_cases e : y = x
      · rw [if_pos e]; simp
      · rw [if_neg e]; simp
end Rw
namespace Ba
open Rw
theorem mem_addN {l : List Int} {v z : Int} : z ∈ addN l v ↔ z ∈ l ∨ z = v ∧ v ≠ 0 := by
  unfold addN
  by_cases h : v = 0 ∨ v ∈ l
  · rw [if_pos h]
    constructor
    · exact .inl
    · rintro (h1 | ⟨rfl, h2⟩)
      · exact h1
      · exact h.elim (fun e => absurd e h2) id
  · rw [if_neg h, List.mem_append, List.mem_singleton]
    constructor
    · rintro (h1 | rfl)
      · exact .inl h1
      · exact .inr ⟨rfl, fun e => h (.inl e)⟩
    · rintro (h1 | ⟨rfl, _⟩)
      · exact .inl h1
      · exact .inr rfl
theorem nodup_addN {l : List Int} {v : Int} (h : l.Nodup) : (addN l v).Nodup := by
  unfold addN
  by_cases e : v = 0 ∨ v ∈ l
  · rw [if_pos e]; exact h
  · rw [if_neg e]
    exact List.nodup_append.2 ⟨h, by simp, fun a ha b hb e2 => e (.inr (by rw [List.mem_singleton] at hb; rw [← hb, ← e2]; exact ha))⟩
theorem names_app (L : Pairs) (q : Int × Int) : names (L ++ [q]) = addN (addN (names L) q.1) q.2 := by
  unfold names; rw [List.foldl_append]; rfl
theorem fold_nodup : ∀ (L : Pairs) (l : List Int), l.Nodup → (L.foldl (fun l q => addN (addN l q.1) q.2) l).Nodup
  | [], l, h => h
  | q :: L, l, h => fold_nodup L _ (nodup_addN (nodup_addN h))
theorem names_nodup (L : Pairs) : (names L).Nodup := fold_nodup L [] List.nodup_nil
/-- What the law itself lists, where the pairs were noted. -/
def Wants (L : Pairs) (W : List Int) : Prop := W.Pairwise (· < ·) ∧ (∀ z, z ≠ 0 → (z ∈ W ↔ z ∈ names L)) ∧ W.length ≤ 2 * L.length
theorem wants_nil : Wants [] [] := ⟨List.Pairwise.nil, fun z _ => Iff.rfl, Nat.le_refl _⟩
theorem Wants.more {L : Pairs} {W : List Int} (h : Wants L W) (a b : Int) : Wants (L ++ [(a, b)]) (putL (putL W a) b) := by
  refine ⟨rise_putL _ (rise_putL _ h.1), fun z hz => ?_, ?_⟩
  · rw [names_app, mem_addN, mem_addN, mem_putL, mem_putL, h.2.1 z hz]
    constructor
    · rintro (rfl | rfl | h1)
      · exact .inr ⟨rfl, hz⟩
      · exact .inl (.inr ⟨rfl, hz⟩)
      · exact .inl (.inl h1)
    · rintro ((h1 | ⟨rfl, _⟩) | ⟨rfl, _⟩)
      · exact .inr (.inr h1)
      · exact .inr (.inl rfl)
      · exact .inl rfl
  · have h1 := putL_len a W
    have h2 := putL_len b (putL W a)
    have := h.2.2
    rw [List.length_append, List.length_singleton]; omega
/-- What is told, each put into a rising list, is what was wanted without 0. -/
def gotL (l : List Int) : List Int := l.foldl putL []
theorem fold_rise : ∀ (l acc : List Int), acc.Pairwise (· < ·) → (l.foldl putL acc).Pairwise (· < ·)
  | [], acc, h => h
  | x :: l, acc, h => fold_rise l _ (rise_putL _ h)
theorem fold_mem {z : Int} : ∀ (l acc : List Int), z ∈ l.foldl putL acc ↔ z ∈ acc ∨ z ∈ l
  | [], acc => by simp
  | x :: l, acc => by
    rw [List.foldl_cons, fold_mem l, mem_putL, List.mem_cons]
    constructor
    · rintro ((h | h) | h)
      · exact .inr (.inl h)
      · exact .inl h
      · exact .inr (.inr h)
    · rintro (h | h | h)
      · exact .inl (.inr h)
      · exact .inl (.inl h)
      · exact .inr h
theorem fold_len : ∀ (l acc : List Int), (l.foldl putL acc).length ≤ acc.length + l.length
  | [], acc => by simp
  | x :: l, acc => by
    rw [List.foldl_cons]
    have h1 := fold_len l (putL acc x)
    have h2 := putL_len x acc
    rw [List.length_cons]; omega
theorem got_len (l : List Int) : (gotL l).length ≤ l.length := by
  have h := fold_len l []
  rw [List.length_nil] at h; unfold gotL; omega
theorem got_more {l : List Int} {i : Nat} (hi : i < l.length) : gotL (l.take (i + 1)) = putL (gotL (l.take i)) (l.getD i 0) := by
  unfold gotL
  rw [List.take_succ_eq_append_getElem hi, List.foldl_append, List.getD_eq_getElem?_getD, List.getElem?_eq_getElem hi]; rfl
theorem got_fresh {l : List Int} (h : l.Nodup) {i : Nat} (hi : i < l.length) : l.getD i 0 ∉ gotL (l.take i) := by
  unfold gotL
  rw [fold_mem, List.getD_eq_getElem?_getD, List.getElem?_eq_getElem hi]
  rintro (h1 | h1)
  · cases h1
  · obtain ⟨j, hj, e⟩ := List.getElem_of_mem h1
    rw [List.getElem_take] at e
    rw [List.length_take] at hj
    exact List.pairwise_iff_getElem.1 h j i (by omega) hi (by omega) e
theorem zero_names : ∀ (L : Pairs) (l : List Int), (0 : Int) ∉ l → (0 : Int) ∉ L.foldl (fun l q => addN (addN l q.1) q.2) l
  | [], l, h => h
  | q :: L, l, h => by
    refine zero_names L _ (fun h1 => ?_)
    rcases mem_addN.1 h1 with h1 | ⟨e, h2⟩
    · rcases mem_addN.1 h1 with h1 | ⟨e, h2⟩
      · exact h h1
      · exact h2 e.symm
    · exact h2 e.symm
theorem got_want {L : Pairs} {W W' : List Int} (h : Wants L W) (hp : W'.Pairwise (· < ·)) (hm : ∀ z, z ∈ W' ↔ z ∈ W ∧ z ≠ 0) : gotL (names L) = W' := by
  refine rise_eq (fold_rise _ _ List.Pairwise.nil) hp (fun z => ?_)
  unfold gotL
  rw [fold_mem, hm]
  constructor
  · rintro (h1 | h1)
    · cases h1
    · have hz : z ≠ 0 := fun e => zero_names L [] (by simp) (by rw [← e]; exact h1)
      exact ⟨(h.2.1 z hz).2 h1, hz⟩
  · rintro ⟨h1, hz⟩
    exact .inr ((h.2.1 z hz).1 h1)
end Ba
end Go.Proofs.Ytmngaedcckjfoab
