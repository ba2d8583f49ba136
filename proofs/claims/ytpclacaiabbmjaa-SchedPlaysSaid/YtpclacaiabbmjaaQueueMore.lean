/- A queue that a statement made, and all else as it was. -/
import Derived.Test.YtpclacaiabbmjaaQueueGet
namespace Go.Proofs.Ytpclacaiabbmjaa
open Go.RowKit Go.Lib Fx Ho
set_option linter.unusedVariables false
namespace Qu
variable {W0 w w' : World} {p : Nat} {v v' : Value} {L L' : List Int} {H' : Home}

structure Qv (W0 w : World) (p : Nat) (v : Value) (L : List Int) : Prop where
  q : IsQ w p v L
  lo : Low W0.heap.size (home p v)
  bel : Below W0.heap.size W0 w
def Qs (W0 w : World) (p : Nat) (L : List Int) : Prop := ∃ v, Qv W0 w p v L
theorem IsQ.lt (h : IsQ w p v L) : p < w.heap.size := block_lt h.head
theorem Qv.turns (h : Qv W0 w p v L) (ht : Wrote (home p v) w (home p v') w') (hr : IsQ w' p v' L') : Qv W0 w' p v' L' :=
  ⟨hr, ht.low h.lo h.bel.size, ht.below h.lo h.bel⟩
theorem Qs.below (h : Qs W0 w p L) (hb : Below w.heap.size w w') : Qs W0 w' p L := by
  obtain ⟨v, h⟩ := h
  exact ⟨v, h.q.below hb, h.lo, h.bel.trans (hb.mono h.bel.size)⟩
theorem Qs.bel (h : Qs W0 w p L) : Below W0.heap.size W0 w := h.elim fun _ h => h.bel
theorem Qs.lt (h : Qs W0 w p L) : p < w.heap.size := h.elim fun _ h => h.q.lt
theorem qs_new (w : World) : Calls Try.prog 57 #[] w fun e w' => e = .returned (.pointer (some ⟨w.heap.size, 0, none⟩)) ∧ Qs w w' w.heap.size [] :=
  (new_any w).mono fun _ _ ⟨he, hb, hr⟩ => ⟨he, _, hr, fun k hk => hk.elim (fun e => by rw [show k = _ from e]; exact Nat.le_refl _) (fun e => by cases e), hb⟩
theorem qs_put (h : Qs W0 w p L) {S : Home} {x : Value} {ys : List Int} (hx : Ints w S x ys) (hn : L.length + ys.length ≤ 1000000) :
    Calls Try.prog 60 #[.pointer (some ⟨p, 0, none⟩), x] w fun e w' => e = .returned (.tuple #[]) ∧ Qs W0 w' p (L ++ ys) := by
  obtain ⟨v, h⟩ := h
  exact (put_any w h.q hx hn).mono fun _ _ ⟨he, v', ht, hr⟩ => ⟨he, v', h.turns ht hr⟩
/-- One number is put, out of the block that the call itself makes. -/
theorem qs_put1 (h : Qs W0 w p L) (g : Int) (hn : L.length < 1000000) :
    Calls Try.prog 60 #[.pointer (some ⟨p, 0, none⟩), .slice (some ⟨w.heap.size, 0, none⟩) 1 1] (w.alloc (.cells #[.int .i64 g] 3)) fun e w' => e = .returned (.tuple #[]) ∧ Qs W0 w' p (L ++ [g]) := by
  refine qs_put (h.below (below_alloc (Below.refl _ _) _)) (S := fun _ => True) (ys := [g]) ⟨_, 1, rfl, by simp, fun i hi => ?_⟩ (by simp; omega)
  obtain rfl : i = 0 := by simpa using hi
  exact ⟨_, _, rfl, trivial, by show _ < (w.heap.push _).size; rw [Array.size_push]; omega, cell_of (heap_alloc_new _ _) rfl⟩
theorem qs_len (h : Qs W0 w p L) : Calls Try.prog 73 #[.pointer (some ⟨p, 0, none⟩)] w (Still (.int .i64 L.length) w) := by
  obtain ⟨v, h⟩ := h
  exact len_any w h.q
theorem qs_get (h : Qs W0 w p L) {q m n : Nat} (hq : 1 ≤ q) (hq2 : q ≤ 4611686018427387904) (hm : m ≤ 4611686018427387904) (hs : L.length ≤ 1000000) (hn : n = min (min (min (L.length / q + 1) m) 128) L.length) :
    Calls Try.prog 129 #[.pointer (some ⟨p, 0, none⟩), .int .i64 q, .int .i64 m] w fun e w' => ∃ r, e = .returned r ∧ Qs W0 w' p (L.drop n) ∧ w'.ownsRow w.heap.size 3 1 r n (cells (L.take n)) := by
  obtain ⟨v, h⟩ := h
  exact (get_any w h.q hq hq2 hm hs hn).mono fun _ _ ⟨r, v', he, ht, hr, ho⟩ => ⟨r, he, ⟨v', h.turns ht hr⟩, ho⟩
end Qu
end Go.Proofs.Ytpclacaiabbmjaa
