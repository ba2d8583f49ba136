/- A ring beside a row of counts of the statement's own: who was told, who was taken, each once. -/
import Derived.Test.YteigcjgohhgjcaaRingMore
namespace Go.Proofs.Yteigcjgohhgjcaa
open Go.RowKit Go.Lib Fx Ho
set_option linter.unusedVariables false
namespace Ri

def cn : List Int → Int → Int
  | [], _ => 0
  | x :: L, k => (if x = k then 1 else 0) + cn L k
theorem cn_app (A B : List Int) (k : Int) : cn (A ++ B) k = cn A k + cn B k := by
  induction A with
  | nil => simp [cn]
  | cons x A ih =>
    show (if x = k then 1 else 0) + cn (A ++ B) k = ((if x = k then 1 else 0) + cn A k) + cn B k
    rw [ih]; omega
theorem cn_in (L : List Int) (k : Int) : 0 ≤ cn L k ∧ cn L k ≤ L.length := by
  induction L with
  | nil => simp [cn]
  | cons x L ih => simp only [cn, List.length_cons]; split <;> omega
theorem cn_none {L : List Int} {k : Int} (h : k ∉ L) : cn L k = 0 := by
  induction L with
  | nil => rfl
  | cons x L ih =>
    have h1 : k ≠ x ∧ k ∉ L := by simpa using h
    show (if x = k then 1 else 0) + cn L k = 0
    rw [if_neg (fun e => h1.1 e.symm), ih h1.2]; rfl
theorem cn_sorted {L : List Int} (hs : L.Pairwise (· < ·)) (k : Int) : cn L k = if k ∈ L then 1 else 0 := by
  induction hs with
  | nil => rfl
  | @cons x L hx _ ih =>
    show (if x = k then 1 else 0) + cn L k = _
    by_cases e : x = k
    · subst e
      rw [if_pos rfl, cn_none (fun h => by have := hx x h; omega), if_pos List.mem_cons_self]; rfl
    · rw [if_neg e, ih]
      by_cases h2 : k ∈ L
      · rw [if_pos h2, if_pos (List.mem_cons_of_mem _ h2)]; rfl
      · rw [if_neg h2, if_neg (by intro h; rcases List.mem_cons.1 h with h | h; exact e h.symm; exact h2 h)]; rfl
/-- S, one more at each of the first j of zs. -/
def incTo (S zs : List Int) : Nat → List Int
  | 0 => S
  | j + 1 => (incTo S zs j).set (zs.getD j 0).toNat ((incTo S zs j).getD (zs.getD j 0).toNat 0 + 1)
theorem inc_len (S zs : List Int) : ∀ j, (incTo S zs j).length = S.length
  | 0 => rfl
  | j + 1 => by show ((incTo S zs j).set _ _).length = _; rw [List.length_set, inc_len S zs j]
theorem inc_get {S zs : List Int} {k : Nat} (hS : S.length = k) (hz : ∀ j, j < zs.length → 0 ≤ zs.getD j 0 ∧ zs.getD j 0 < k) : ∀ j, j ≤ zs.length → ∀ x : Nat, x < k → (incTo S zs j).getD x 0 = S.getD x 0 + cn (zs.take j) x
  | 0, _, x, hx => by show S.getD x 0 = _; simp [cn]
  | j + 1, hj, x, hx => by
    have ih := inc_get hS hz j (by omega)
    have hzj := hz j (by omega)
    have hl := inc_len S zs j
    have e1 : zs.take (j + 1) = zs.take j ++ [zs.getD j 0] := by
      rw [List.take_succ_eq_append_getElem (by omega), List.getD_eq_getElem?_getD, List.getElem?_eq_getElem (by omega)]; rfl
    obtain ⟨t, ht⟩ : ∃ t : Nat, zs.getD j 0 = (t : Int) := ⟨(zs.getD j 0).toNat, by omega⟩
    show ((incTo S zs j).set (zs.getD j 0).toNat ((incTo S zs j).getD (zs.getD j 0).toNat 0 + 1)).getD x 0 = _
    rw [e1, cn_app, ht, Int.toNat_natCast]
    by_cases e : x = t
    · subst e
      rw [List.getD_eq_getElem?_getD, List.getElem?_set_self (by rw [hl, hS]; exact hx)]
      show (incTo S zs j).getD x 0 + 1 = _
      rw [ih x hx]; simp [cn]; omega
    · rw [List.getD_eq_getElem?_getD, List.getElem?_set_ne (fun e2 => e e2.symm), ← List.getD_eq_getElem?_getD, ih x hx]
      simp [cn]; omega

/-- What holds behind i puts: the row rises, all of it is above the last one taken; each below i is in the row, or was seen once. -/
structure Inv (k i : Nat) (la : Int) (L S : List Int) : Prop where
  sorted : L.Pairwise (· < ·)
  low : ∀ x ∈ L, la < x ∧ 0 ≤ x ∧ x < (i : Int)
  lst : la < (i : Int)
  len : S.length = k
  seen : ∀ x : Nat, x < k → S.getD x 0 = if (x : Int) ∈ L then 0 else if x < i then 1 else 0
theorem Inv.push {k i : Nat} {la : Int} {L S : List Int} (h : Inv k i la L S) : Inv k (i + 1) la (L ++ [(i : Int)]) S := by
  refine ⟨?_, fun x hx => ?_, by have := h.lst; omega, h.len, fun x hx => ?_⟩
  · rw [List.pairwise_append]
    refine ⟨h.sorted, List.pairwise_singleton _ _, fun a ha b hb => ?_⟩
    rw [List.mem_singleton.1 hb]; exact (h.low a ha).2.2
  · rcases List.mem_append.1 hx with hx | hx
    · have := h.low x hx; omega
    · obtain rfl := List.mem_singleton.1 hx
      have := h.lst; omega
  · rw [h.seen x hx]
    by_cases e : x = i
    · subst e
      have hno : (x : Int) ∉ L := fun hm => by have := (h.low _ hm).2.2; omega
      rw [if_neg hno, if_neg (by omega), if_pos (List.mem_append_right _ List.mem_cons_self)]
    · by_cases hm : (x : Int) ∈ L
      · rw [if_pos hm, if_pos (List.mem_append_left _ hm)]
      · rw [if_neg hm, if_neg (show (x : Int) ∉ L ++ [(i : Int)] from fun h' => by
          rcases List.mem_append.1 h' with h' | h'
          · exact hm h'
          · have := List.mem_singleton.1 h'; omega)]
        by_cases hlt : x < i
        · rw [if_pos hlt, if_pos (by omega)]
        · rw [if_neg hlt, if_neg (by omega)]
theorem Inv.bounds {k i : Nat} {la : Int} {L S : List Int} (h : Inv k i la L S) (hi : i < k) {n : Nat} : ∀ j, j < (L.take n ++ [(i : Int)]).length → 0 ≤ (L.take n ++ [(i : Int)]).getD j 0 ∧ (L.take n ++ [(i : Int)]).getD j 0 < k := fun j hj => by
  rw [List.getD_eq_getElem?_getD, List.getElem?_eq_getElem hj]
  have hm := List.getElem_mem hj
  show 0 ≤ (L.take n ++ [(i : Int)])[j] ∧ (L.take n ++ [(i : Int)])[j] < k
  rcases List.mem_append.1 hm with hm | hm
  · have := h.low _ (List.mem_of_mem_take hm); omega
  · rw [List.mem_singleton.1 hm]; omega
theorem Inv.full {k i : Nat} {la : Int} {L S : List Int} (h : Inv k i la L S) (hi : i < k) (n : Nat) : Inv k (i + 1) la (L.drop n) (incTo S (L.take n ++ [(i : Int)]) (L.take n ++ [(i : Int)]).length) := by
  have hp := h.push
  have hsplit : L.take n ++ L.drop n = L := List.take_append_drop n L
  have hs2 : (L.take n ++ L.drop n).Pairwise (· < ·) := by rw [hsplit]; exact h.sorted
  rw [List.pairwise_append] at hs2
  have hz : (L.take n ++ [(i : Int)]).Pairwise (· < ·) := by
    rw [List.pairwise_append]
    exact ⟨hs2.1, List.pairwise_singleton _ _, fun a ha b hb => by rw [List.mem_singleton.1 hb]; exact (h.low a (List.mem_of_mem_take ha)).2.2⟩
  refine ⟨hs2.2.1, fun x hx => by have := h.low x (List.mem_of_mem_drop hx); omega, by have := h.lst; omega, by rw [inc_len]; exact h.len, fun x hx => ?_⟩
  rw [inc_get h.len (h.bounds hi) _ (Nat.le_refl _) x hx, List.take_length, cn_sorted hz, h.seen x hx]
  have hmem : (x : Int) ∈ L ↔ (x : Int) ∈ L.take n ∨ (x : Int) ∈ L.drop n := by rw [← List.mem_append, hsplit]
  by_cases h1 : (x : Int) ∈ L.take n
  · have h2 : (x : Int) ∉ L.drop n := fun h2 => by have := hs2.2.2 _ h1 _ h2; omega
    have h3 := (h.low _ (List.mem_of_mem_take h1)).2.2
    rw [if_pos (hmem.2 (Or.inl h1)), if_pos (List.mem_append_left _ h1), if_neg h2, if_pos (by omega)]; rfl
  · by_cases h2 : (x : Int) ∈ L.drop n
    · have h3 := (h.low _ (List.mem_of_mem_drop h2)).2.2
      rw [if_pos (hmem.2 (Or.inr h2)), if_neg (show (x : Int) ∉ L.take n ++ [(i : Int)] from fun h' => by
          rcases List.mem_append.1 h' with h' | h'
          · exact h1 h'
          · have := List.mem_singleton.1 h'; omega), if_pos h2]; rfl
    · rw [if_neg (fun h' => (hmem.1 h').elim h1 h2), if_neg h2]
      by_cases e : x = i
      · subst e
        rw [if_neg (by omega), if_pos (List.mem_append_right _ List.mem_cons_self), if_pos (by omega)]; rfl
      · rw [if_neg (show (x : Int) ∉ L.take n ++ [(i : Int)] from fun h' => by
          rcases List.mem_append.1 h' with h' | h'
          · exact h1 h'
          · have := List.mem_singleton.1 h'; omega)]
        by_cases hlt : x < i
        · rw [if_pos hlt, if_pos (by omega)]; rfl
        · rw [if_neg hlt, if_neg (by omega)]; rfl
theorem Inv.take1 {k i : Nat} {la g : Int} {R S : List Int} (h : Inv k i la (g :: R) S) (hi : i ≤ k) : la < g ∧ 0 ≤ g ∧ g < k ∧ S.getD g.toNat 0 = 0 ∧ Inv k i g R (S.set g.toNat (S.getD g.toNat 0 + 1)) := by
  have hg := h.low g List.mem_cons_self
  obtain ⟨t, rfl⟩ : ∃ t : Nat, g = (t : Int) := ⟨g.toNat, by omega⟩
  have hs := List.pairwise_cons.1 h.sorted
  have h0 : S.getD t 0 = 0 := by rw [h.seen t (by omega), if_pos List.mem_cons_self]
  rw [Int.toNat_natCast]
  refine ⟨hg.1, hg.2.1, by omega, h0, ⟨hs.2, fun x hx => ⟨hs.1 x hx, (h.low x (List.mem_cons_of_mem _ hx)).2⟩, hg.2.2, by rw [List.length_set]; exact h.len, fun x hx => ?_⟩⟩
  by_cases e : x = t
  · subst e
    rw [List.getD_eq_getElem?_getD, List.getElem?_set_self (by rw [h.len]; exact hx), h0, if_neg (fun hm => by have := hs.1 _ hm; omega), if_pos (by omega)]; rfl
  · rw [List.getD_eq_getElem?_getD, List.getElem?_set_ne (fun e2 => e e2.symm), ← List.getD_eq_getElem?_getD, h.seen x hx]
    by_cases hm : (x : Int) ∈ R
    · rw [if_pos hm, if_pos (List.mem_cons_of_mem _ hm)]
    · rw [if_neg hm, if_neg (show (x : Int) ∉ (t : Int) :: R from fun h' => by rcases List.mem_cons.1 h' with h' | h'; omega; exact hm h')]

variable {W0 w w' W : World} {p sb k n : Nat} {L S zs : List Int} {v : Value}
/-- A ring, the counts S in the row sb, and another row that holds zs. -/
structure Rx (W0 w : World) (p : Nat) (L : List Int) (sb k : Nat) (S : List Int) (v : Value) (n : Nat) (zs : List Int) : Prop where
  rs : Rs W0 w p none L
  row : w.ownsRow (p + 1) 3 1 (.slice (some ⟨sb, 0, none⟩) k k) k (cells S)
  ex : w.ownsRow (sb + 1) 3 1 v n (cells zs)
namespace Rx
theorem sbp (h : Rx W0 w p L sb k S v n zs) : p + 1 ≤ sb ∧ sb < w.heap.size := h.row.lt sb rfl
theorem put {i : Nat} {x : Int} (h : Rx W0 w p L sb k S v n zs) (hh : W.heap = (w.setCell ⟨sb, i, none⟩ (.int .i64 x)).heap) (ho : W.os = w.os) (ht : W.tape = w.tape) (hu : W.output = w.output) : Rx W0 W p L sb k (S.set i x) v n zs := by
  have hw : Wrote (fun k => k = sb) w (fun k => k = sb) W := wrote_setCell (a := ⟨sb, i, none⟩) (u := .int .i64 x) hh ho ht hu rfl
  have hg : w.grownBy W (some sb) := ⟨ho, ht, hu, hw.size, fun k hk hne => hw.block k hk (fun e => hne (by rw [show k = sb from e]))⟩
  have hst := (h.row.stored i (.int .i64 x)).1
  rw [cells_set] at hst
  refine ⟨⟨h.rs.r.wrote hw (by have := h.sbp; omega), h.rs.lo, hw.below (fun k hk => by have := h.sbp; have := h.rs.lo; have : k = sb := hk; omega) h.rs.bel⟩, ⟨hst.1, ?_⟩, h.ex.kept hg (Or.inr fun e => by have := (h.ex.lt sb e).1; omega)⟩
  rcases hst.2 with hn | ⟨b', cap', cur, e, hb', hgg, rest⟩
  · exact .inl hn
  · exact .inr ⟨b', cap', cur, e, hb', by rw [hh]; exact hgg, rest⟩
theorem seen (h : Rx W0 w p L sb k S v n zs) {i : Nat} (hi : i < k) : w.cell? ⟨sb, i, none⟩ = some (.int .i64 (S.getD i 0)) ∧ w.frozen? ⟨sb, i, none⟩ = false := by
  obtain ⟨b, cap, hv, _, _, h3, h4⟩ := own_at h.row hi
  obtain ⟨rfl, _⟩ : sb = b ∧ k = cap := by simpa using hv
  exact ⟨h3, h4⟩
theorem turns {L' : List Int} (h : Rx W0 w p L sb k S v n zs) (ht : Wrote (at_ p) w (at_ p) w') (hr : Rs W0 w' p none L') : Rx W0 w' p L' sb k S v n zs := by
  have hg : w.grownBy w' (some p) := ⟨ht.os, ht.tape, ht.output, ht.size, fun k hk hne => ht.block k hk (fun e => hne (by rw [show k = p from e]))⟩
  exact ⟨hr, row_stays h.row ht, h.ex.kept hg (Or.inr fun e => by have := (h.ex.lt p e).1; have := h.sbp; omega)⟩
theorem below (h : Rx W0 w p L sb k S v n zs) (hb : Below w.heap.size w w') : Rx W0 w' p L sb k S v n zs :=
  ⟨h.rs.below hb, row_below h.row hb, row_below h.ex hb⟩
/-- The other row gone, another one there. -/
theorem other {v' : Value} {n' : Nat} {zs' : List Int} (h : Rx W0 w p L sb k S v n zs) (ho : w.ownsRow (sb + 1) 3 1 v' n' (cells zs')) : Rx W0 w p L sb k S v' n' zs' := ⟨h.rs, h.row, ho⟩
end Rx
theorem owns_mono {b b' : Nat} (h : w.ownsRow b 3 1 v n (cells zs)) (hb : b' ≤ b) : w.ownsRow b' 3 1 v n (cells zs) :=
  ⟨h.1, h.2.imp id fun ⟨g, cap, cur, h1, h2, h3⟩ => ⟨g, cap, cur, h1, Nat.le_trans hb h2, h3⟩⟩
theorem rx_put {i : Nat} {la : Int} (h : Rx W0 w p L sb k S v n zs) (hI : Inv k i la L S) (hi : i < k) : Calls Try.prog 17 #[.pointer (some ⟨p, 0, none⟩), .int .i64 i, .bool false] w fun e w' =>
    ∃ v' m zs' L', e = .returned v' ∧ Hid (Rx W0 w' p L' sb k S v' m zs') ∧ m ≤ 129 ∧ Hid (zs'.length = m) ∧ Hid (∀ j, j < m → 0 ≤ zs'.getD j 0 ∧ zs'.getD j 0 < (k : Int)) ∧ Hid (Inv k (i + 1) la L' (incTo S zs' m)) ∧ 0 < L'.length ∧ L'.length ≤ 256 := by
  have hs := h.rs.r.small
  by_cases hl : L.length < 256
  · refine (rs_put (i : Int) h.rs hl).mono ?_
    rintro e w' ⟨he, hr, ht⟩
    exact ⟨_, 0, [], _, he, (h.turns ht hr).other (World.ownsRow_nil _ _ _ _), by omega, rfl, fun j hj => by omega, hI.push, by rw [List.length_append]; simp, by rw [List.length_append, List.length_singleton]; omega⟩
  · have hl2 : L.length = 256 := by omega
    refine (rs_full (i : Int) h.rs hl2).mono ?_
    rintro e w' ⟨v', he, hr, ho, ht⟩
    have hlen : (L.take 128 ++ [(i : Int)]).length = 129 := by rw [List.length_append, List.length_take, hl2]; rfl
    rw [hlen] at ho
    have hF := hI.full hi 128
    have hB := hI.bounds hi (n := 128)
    rw [hlen] at hF hB
    exact ⟨v', 129, _, _, he, (h.turns ht hr).other (owns_mono ho (by have := h.sbp; omega)), by omega, hlen, hB, hF, by rw [List.length_drop]; omega, by rw [List.length_drop]; omega⟩
end Ri
end Go.Proofs.Yteigcjgohhgjcaa
