/- A ring that a statement made, and all else as it was; the statements' own question after a few answers. -/
import Derived.Test.YtpclacaiabbmjaaRingPut
namespace Go.Proofs.Ytpclacaiabbmjaa
open Go.RowKit Go.Lib Fx Ho
set_option linter.unusedVariables false
namespace Ri
variable {p : Nat} {L R : List Int} {nx : Option Int}

structure Rs (W0 w : World) (p : Nat) (nx : Option Int) (L : List Int) : Prop where
  r : IsRing w p nx L
  lo : W0.heap.size ≤ p
  bel : Below W0.heap.size W0 w
theorem IsRing.lt {w : World} (h : IsRing w p nx L) : p < w.heap.size := by
  obtain ⟨A, F, a, y, b, h, _⟩ := h
  exact block_lt h.head
theorem IsRing.wrote {w w' : World} {H H' : Home} (h : IsRing w p nx L) (ht : Wrote H w H' w') (ho : ¬ H p) : IsRing w' p nx L := by
  obtain ⟨A, F, a, y, b, h, e⟩ := h
  exact ⟨A, F, a, y, b, h.wrote ht ho, e⟩
theorem IsRing.small {w : World} (h : IsRing w p nx L) : L.length ≤ 256 := by
  obtain ⟨A, F, a, y, b, h, _⟩ := h
  exact h.small
namespace Rs
variable {W0 w w' : World} {nx' : Option Int} {L' : List Int}
theorem turns (h : Rs W0 w p nx L) (ht : Wrote (at_ p) w (at_ p) w') (hr : IsRing w' p nx' L') : Rs W0 w' p nx' L' :=
  ⟨hr, h.lo, ht.below (fun k hk => by rw [show k = p from hk]; exact h.lo) h.bel⟩
theorem below (h : Rs W0 w p nx L) (hb : Below w.heap.size w w') : Rs W0 w' p nx L :=
  ⟨h.r.wrote (H := fun _ => False) (Wrote.of_below hb) (fun h => h), h.lo, h.bel.trans (hb.mono h.bel.size)⟩
/-- What lies above the ring was written. -/
theorem above {H' : Home} (h : Rs W0 w p nx L) (ht : Wrote (fun k => p + 1 ≤ k) w H' w') : Rs W0 w' p nx L :=
  ⟨h.r.wrote ht (by omega), h.lo, ht.below (fun k hk => by have := h.lo; omega) h.bel⟩
end Rs
/-- A row above the ring stays as the ring turns. -/
theorem row_stays {w w' : World} {v : Value} {n : Nat} {xs : List Value} (ho : w.ownsRow (p + 1) 3 1 v n xs) (ht : Wrote (at_ p) w (at_ p) w') : w'.ownsRow (p + 1) 3 1 v n xs :=
  ho.kept (row := some p) ⟨ht.os, ht.tape, ht.output, ht.size, fun k hk hne => ht.block k hk (fun e => hne (by rw [show k = p from e]))⟩ (Or.inr fun e => by have := (ho.lt p e).1; omega)
theorem row_below {w w' : World} {v : Value} {n q : Nat} {xs : List Value} (ho : w.ownsRow q 3 1 v n xs) (hb : Below w.heap.size w w') : w'.ownsRow q 3 1 v n xs :=
  ho.kept (row := none) ⟨hb.os, hb.tape, hb.output, hb.size, fun k hk _ => hb.block k hk⟩ (by cases h : v.ownBlock with | none => exact Or.inl rfl | some k => exact Or.inr (by simp))
section
variable {W0 w : World}
theorem rs_new (w : World) : Calls Try.prog 58 #[] w fun e w' => e = .returned (.pointer (some ⟨w.heap.size, 0, none⟩)) ∧ Rs w w' w.heap.size none [] :=
  (new_any w).mono fun _ _ ⟨he, hb, hr⟩ => ⟨he, hr, Nat.le_refl _, hb⟩
theorem rs_put (g : Int) (h : Rs W0 w p nx L) (hl : L.length < 256) : Calls Try.prog 61 #[.pointer (some ⟨p, 0, none⟩), .int .i64 g, .bool false] w fun e w' => e = .returned (.slice none 0 0) ∧ Rs W0 w' p nx (L ++ [g]) ∧ Wrote (at_ p) w (at_ p) w' :=
  (put_row g hl w h.r).mono fun _ _ ⟨he, ht, hr⟩ => ⟨he, h.turns ht hr, ht⟩
theorem rs_first (g : Int) (h : Rs W0 w p none L) : Calls Try.prog 61 #[.pointer (some ⟨p, 0, none⟩), .int .i64 g, .bool true] w fun e w' => e = .returned (.slice none 0 0) ∧ Rs W0 w' p (some g) L ∧ Wrote (at_ p) w (at_ p) w' :=
  (put_first g w h.r).mono fun _ _ ⟨he, ht, hr⟩ => ⟨he, h.turns ht hr, ht⟩
theorem rs_next {o : Int} (g : Int) (h : Rs W0 w p (some o) L) (hl : L.length < 256) : Calls Try.prog 61 #[.pointer (some ⟨p, 0, none⟩), .int .i64 g, .bool true] w fun e w' => e = .returned (.slice none 0 0) ∧ Rs W0 w' p (some g) (L ++ [o]) ∧ Wrote (at_ p) w (at_ p) w' :=
  (put_next g hl w h.r).mono fun _ _ ⟨he, ht, hr⟩ => ⟨he, h.turns ht hr, ht⟩
theorem rs_full (g : Int) (h : Rs W0 w p nx L) (hl : L.length = 256) : Calls Try.prog 61 #[.pointer (some ⟨p, 0, none⟩), .int .i64 g, .bool false] w fun e w' => ∃ v', e = .returned v' ∧ Rs W0 w' p nx (L.drop 128) ∧ w'.ownsRow w.heap.size 3 1 v' (L.take 128 ++ [g]).length (cells (L.take 128 ++ [g])) ∧ Wrote (at_ p) w (at_ p) w' :=
  (put_full g hl w h.r).mono fun _ _ ⟨v', he, ht, hr, ho⟩ => ⟨v', he, h.turns ht hr, ho, ht⟩
theorem rs_get {g : Int} (h : Rs W0 w p nx L) (hz : allOf nx L = g :: R) : Calls Try.prog 71 #[.pointer (some ⟨p, 0, none⟩)] w fun e w' => e = .returned (.tuple #[.int .i64 g, .bool true]) ∧ Rs W0 w' p none R ∧ Wrote (at_ p) w (at_ p) w' := by
  cases nx with
  | some y =>
    obtain ⟨rfl, rfl⟩ : y = g ∧ L = R := by simpa [allOf] using hz
    exact (get_next w h.r).mono fun _ _ ⟨he, ht, hr⟩ => ⟨he, h.turns ht hr, ht⟩
  | none =>
    obtain rfl : L = g :: R := by simpa [allOf] using hz
    exact (get_row w h.r).mono fun _ _ ⟨he, ht, hr⟩ => ⟨he, h.turns ht hr, ht⟩
theorem rs_no (h : Rs W0 w p nx L) (hz : allOf nx L = []) : Calls Try.prog 71 #[.pointer (some ⟨p, 0, none⟩)] w (Still (.tuple #[.int .i64 0, .bool false]) w) := by
  cases nx with
  | some y => simp [allOf] at hz
  | none =>
    obtain rfl : L = [] := by simpa [allOf] using hz
    exact get_none w h.r
theorem rs_len (h : Rs W0 w p nx L) : Calls Try.prog 70 #[.pointer (some ⟨p, 0, none⟩)] w (Still (.int .i64 (allOf nx L).length) w) := by
  have := len_any w h.r
  rwa [show len1 nx L = (allOf nx L).length by unfold len1 allOf; cases nx <;> simp <;> omega] at this
theorem rs_all (h : Rs W0 w p nx L) : Calls Try.prog 74 #[.pointer (some ⟨p, 0, none⟩)] w fun e w' => ∃ v', e = .returned v' ∧ Rs W0 w' p nx L ∧ Ints w' (fun k => w.heap.size ≤ k) v' (allOf nx L) ∧ Below w.heap.size w w' :=
  (all_any w h.r).mono fun _ _ ⟨v', he, hb, ho⟩ => ⟨v', he, h.below hb, (ints_of_owns ho).wider (fun k hk _ => (ho.lt k hk).1), hb⟩
end
theorem ints_lit (w : World) (zs : List Int) (n : Nat) (hn : zs.length = n) (hs : n ≤ 1000) {A : Array Value} (hA : A.toList = cells zs) : Ints (w.alloc (.cells A 3)) (fun k => w.heap.size ≤ k) (.slice (some ⟨w.heap.size, 0, none⟩) n n) zs := by
  have h := World.ownsRow_lit (base := w.heap.size) (e := 3) (size := 1) w A n (Nat.le_refl _) (by unfold maxLen; omega) (by rw [← Array.length_toList, hA, cells_len, hn, Nat.mul_one])
  rw [hA] at h
  exact (ints_of_owns h).wider (fun k hk _ => (h.lt k hk).1)
/-- n numbers that rise by one, from c on. -/
def seqL (c : Int) : Nat → List Int
  | 0 => []
  | n + 1 => seqL c n ++ [c + (n : Int)]
theorem seq_len (c : Int) : ∀ n, (seqL c n).length = n
  | 0 => rfl
  | n + 1 => by show (seqL c n ++ _).length = _; rw [List.length_append, seq_len c n]; rfl
theorem seq_get (c : Int) : ∀ (n i : Nat), i < n → (seqL c n).getD i 0 = c + i
  | 0, i, h => by omega
  | n + 1, i, h => by
    show (seqL c n ++ _).getD i 0 = _
    rw [List.getD_eq_getElem?_getD]
    by_cases e : i < n
    · rw [List.getElem?_append_left (by rw [seq_len]; exact e), ← List.getD_eq_getElem?_getD, seq_get c n i e]
    · obtain rfl : i = n := by omega
      rw [List.getElem?_append_right (by rw [seq_len]; exact Nat.le_refl _), seq_len, Nat.sub_self]; rfl
/-- A list from its place i on. -/
theorem drop_at (zs : List Int) {i : Nat} (h : i < zs.length) : zs.drop i = zs.getD i 0 :: zs.drop (i + 1) := by
  rw [List.drop_eq_getElem_cons h, List.getD_eq_getElem?_getD, List.getElem?_eq_getElem h]; rfl
/-- A row of a statement's own, above the ring, one number more. -/
theorem row_more {w W : World} {v v' : Value} {n : Nat} {zs : List Int} {x : Int} (ho : w.ownsRow (p + 1) 3 1 v n (cells zs)) (h' : W.ownsRow (p + 1) 3 1 v' (n + 1) (cells zs ++ [.int .i64 x])) (hg : (w.alloc (.cells #[.int .i64 x] 3)).grownBy W v.ownBlock) (hp : p < w.heap.size) :
    W.ownsRow (p + 1) 3 1 v' (n + 1) (cells (zs ++ [x])) ∧ Wrote (fun k => p + 1 ≤ k) w (fun k => p + 1 ≤ k) W := by
  refine ⟨by rw [cells_app]; exact h', ?_⟩
  have h1 : Wrote (fun k => p + 1 ≤ k) w (fun k => p + 1 ≤ k) (w.alloc (.cells #[.int .i64 x] 3)) := Wrote.of_below (below_alloc (Below.refl _ _) _)
  exact h1.trans (Wrote.of_grown hg (fun k hk => (ho.lt k hk).1))
end Ri
end Go.Proofs.Ytpclacaiabbmjaa
