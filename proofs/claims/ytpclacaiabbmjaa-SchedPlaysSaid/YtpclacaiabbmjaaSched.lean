/- Goroutines that may run: rings by P and a common queue, as they lie; what a ring's Put answers in general. -/
import Derived.Test.YtpclacaiabbmjaaGRow
import Derived.Test.YtpclacaiabbmjaaQueueDel
import Derived.Test.YtpclacaiabbmjaaQueueTold
import Derived.Test.YtpclacaiabbmjaaRingTwo
import Derived.Test.YtpclacaiabbmjaaMinMax
import Derived.StillTailTactics
import Derived.Deep.RegionHeld3
import Derived.Deep.RegionWith
namespace Go.Proofs.Ytpclacaiabbmjaa
open Go.RowKit Go.Lib Fx Ho Gr
set_option linter.unusedVariables false
namespace Sd
/-- A ring: who is next, and the row. -/
abbrev Rg := Option Int × List Int
def rAll (r : Rg) : List Int := Ri.allOf r.1 r.2
/-- One more behind the row: what it is then, and what goes elsewhere. -/
def rRow (nx : Option Int) (L : List Int) (g : Int) : Rg × List Int := if L.length < 256 then ((nx, L ++ [g]), []) else ((nx, L.drop 128), L.take 128 ++ [g])
def rPut (r : Rg) (g : Int) (next : Bool) : Rg × List Int :=
  match next, r.1 with
  | false, _ => rRow r.1 r.2 g
  | true, none => ((some g, r.2), [])
  | true, some o => rRow (some g) r.2 o
/-- Who goes out first, if somebody does, and what is left. -/
def rGet (r : Rg) : Option Int × Rg :=
  match rAll r with
  | [] => (none, r)
  | g :: T => (some g, (none, T))
/-- What a thief and a victim have then. -/
def rSteal (r o : Rg) : Rg × Rg :=
  match o.2, o.1 with
  | [], some y => if r.2.length < 256 then ((r.1, r.2 ++ [y]), (none, [])) else (r, o)
  | M, ny => ((r.1, r.2 ++ M.take (min (M.length - M.length / 2) (256 - r.2.length))), (ny, M.drop (min (M.length - M.length / 2) (256 - r.2.length))))
/-- How many go out of the common queue. -/
def qN (C : List Int) (ps most : Nat) : Nat := min (min (min (C.length / ps + 1) most) 128) C.length
def rg0 : Rg := (none, [])
variable {w w' : World} {p : Nat} {H H' : Home}
set_option maxRecDepth 100000 in
set_option maxHeartbeats 1000000 in
theorem put_over {o : Int} {L : List Int} (g : Int) (hl : L.length = 256) (w : World) (h : Ri.IsRing w p (some o) L) : Calls Try.prog 61 #[.pointer (some ⟨p, 0, none⟩), .int .i64 g, .bool true] w (Ri.Gives (L.take 128 ++ [o]) w p (some g) (L.drop 128)) := by
  obtain ⟨A, F, a, y, b, h, hb⟩ := h
  cases b with
  | false => cases hb
  | true =>
    obtain rfl : o = y := Option.some.inj hb
    obtain ⟨i0, hi, hz0, hz1, hz2⟩ := info_parts infoI
    have c3 := h.c3
    have c4 := h.c4
    have f3 := h.fz 258
    have f4 := h.fz 259
    have h1 := h.nexted g
    have hw1 := Ri.wrote_two (p := p) (w := w) (i := 258) (j := 259) (u := .int .i64 g) (v := .bool true) rfl rfl rfl rfl
    have cr : Calls Try.prog 101 #[.pointer (some ⟨p, 0, none⟩)] ((w.setCell ⟨p, 258, none⟩ (.int .i64 g)).setCell ⟨p, 259, none⟩ (.bool true)) _ := Ri.room_any _ h1
    have hp := block_lt h.head
    have cs : Calls Try.prog 103 #[.pointer (some ⟨p, 0, none⟩), .int .i64 (128 : Nat)] ((w.setCell ⟨p, 258, none⟩ (.int .i64 g)).setCell ⟨p, 259, none⟩ (.bool true)) fun e w' => ∃ v', e = .returned v' ∧ Wrote (Ri.at_ p) w (Ri.at_ p) w' ∧ Ri.IsRing w' p (some g) (L.drop 128) ∧ w'.ownsRow w.heap.size 3 1 v' 128 (cells (L.take 128)) := (Ri.shift_any 128 (by omega) _ h1).mono fun _ _ ⟨v', he, hw, hr, ho⟩ => ⟨v', he, hw1.trans hw, hr, by simpa [World.setCell] using ho⟩
    have hend : Hid (∀ w1 W v1 v', Wrote (Ri.at_ p) w (Ri.at_ p) w1 → Ri.IsRing w1 p (some g) (L.drop 128) → w1.ownsRow w.heap.size 3 1 v1 128 (cells (L.take 128)) → W.ownsRow w.heap.size 3 1 v' (128 + 1) (cells (L.take 128) ++ [.int .i64 o]) → (w1.alloc (.cells #[.int .i64 o] 3)).grownBy W v1.ownBlock →
        Wrote (Ri.at_ p) w (Ri.at_ p) W ∧ Ri.IsRing W p (some g) (L.drop 128) ∧ W.ownsRow w.heap.size 3 1 v' (L.take 128 ++ [o]).length (cells (L.take 128 ++ [o]))) := fun w1 W v1 v' h1 h2 h3 h4 h5 => Ri.full_end hl h1 h2 h3 hp h4 h5
    have e0 : (256 : Int) - (L.length : Int) = 0 := by omega
    rw [e0] at cr
    clear h e0 h1 hw1 hb
    unfold Ri.Gives
    generalize hQ : (L.take 128 ++ [o]) = ZS at *
    generalize cells (L.take 128) = CA at *
    go_enter Try.func61, Try.ntmps61
    go_wp2_with fail
    with_reducible refine Calls.mono cr ?_
    rintro e w1 ⟨rfl, rfl⟩
    go_wp2_with fail
    with_reducible refine Calls.mono cs ?_
    rintro e w2 ⟨v1, rfl, h1, h2, h3⟩
    have hsz := h1.size
    have hend2 : Hid (∀ (W : World) (v' : Value), W.ownsRow w.heap.size 3 1 v' (128 + 1) (CA ++ [.int .i64 o]) → (w2.alloc (.cells #[.int .i64 o] 3)).grownBy W v1.ownBlock → Wrote (Ri.at_ p) w (Ri.at_ p) W ∧ Ri.IsRing W p (some g) (L.drop 128) ∧ W.ownsRow w.heap.size 3 1 v' ZS.length (cells ZS)) := fun W v' h4 h5 => hend.out w2 W v1 v' h1 h2 h3 h4 h5
    obtain ⟨sp1, cap1, rfl⟩ := own_slice h3
    replace h3 := Lib.hid h3
    clear h1 h2 hend cs cr
    go_wp2_with (at_builtin; refine wpList_append_own _ rfl _ _ 41 rfl w.heap.size 3 i0 (.int .i64 0) 1 8 Try.underlying41 hi hz0 hz1 hz2 rfl (by decide) _ 128 CA rfl (h3.out.alloc _) ⟨w2.heap.size, 0, none⟩ 1 1 [.int .i64 o] rfl rfl (news_one w2 (.int .i64 o) 3) (fun x hx => by simp at hx; subst hx; rfl) (by unfold maxLen; omega) (by omega) (by show _ ≤ (w2.heap.push _).size; rw [Array.size_push]; omega) ?_; intro v' w3 hown3 hgrow hnil; clear hnil; have hfin := Lib.hid (hend2.out w3 v' hown3 hgrow); clear hgrow hown3 hend2)
    go_ret
    exact ⟨_, rfl, hfin.out⟩
/-- What Put answers, whatever the ring. -/
def PutP (r : Rg) (g : Int) (next : Bool) (w : World) (p : Nat) (e : Ending) (w' : World) : Prop := ∃ v', e = .returned v' ∧ Wrote (Ri.at_ p) w (Ri.at_ p) w' ∧ Ri.IsRing w' p (rPut r g next).1.1 (rPut r g next).1.2 ∧ Ints w' (fun k => w.heap.size ≤ k) v' (rPut r g next).2
theorem rput_any (r : Rg) (g : Int) (next : Bool) (w : World) (h : Ri.IsRing w p r.1 r.2) : Calls Try.prog 61 #[.pointer (some ⟨p, 0, none⟩), .int .i64 g, .bool next] w (PutP r g next w p) := by
  obtain ⟨nx, L⟩ := r
  have hs := h.small
  have hrow : ∀ (nx : Option Int) (x : Int), (rRow nx L x = ((nx, L ++ [x]), []) ∧ L.length < 256) ∨ (rRow nx L x = ((nx, L.drop 128), L.take 128 ++ [x]) ∧ L.length = 256) := fun nx x => by
    unfold rRow
    by_cases hl : L.length < 256
    · rw [if_pos hl]; exact .inl ⟨rfl, hl⟩
    · rw [if_neg hl]; exact .inr ⟨rfl, by have : L.length ≤ 256 := hs; omega⟩
  have hgive : ∀ {zs : List Int} {nx' : Option Int} {L' : List Int} {e : Ending} {w' : World}, Ri.Gives zs w p nx' L' e w' → ∃ v', e = .returned v' ∧ Wrote (Ri.at_ p) w (Ri.at_ p) w' ∧ Ri.IsRing w' p nx' L' ∧ Ints w' (fun k => w.heap.size ≤ k) v' zs := fun ⟨v', a, b, c, d⟩ => ⟨v', a, b, c, (ints_of_owns d).wider (fun k hk _ => (d.lt k hk).1)⟩
  have hturn : ∀ {nx' : Option Int} {L' : List Int} {e : Ending} {w' : World}, Ri.Turns (.slice none 0 0) w p nx' L' e w' → ∃ v', e = .returned v' ∧ Wrote (Ri.at_ p) w (Ri.at_ p) w' ∧ Ri.IsRing w' p nx' L' ∧ Ints w' (fun k => w.heap.size ≤ k) v' [] := fun ⟨a, b, c⟩ => ⟨_, a, b, c, ints_nil _ _⟩
  unfold PutP
  cases next with
  | false =>
    rcases hrow nx g with ⟨e, hl⟩ | ⟨e, hl⟩
    · simp only [rPut, e]
      exact (Ri.put_row g hl w h).mono fun _ _ => hturn
    · simp only [rPut, e]
      exact (Ri.put_full g hl w h).mono fun _ _ => hgive
  | true =>
    cases nx with
    | none => exact (Ri.put_first g w h).mono fun _ _ => hturn
    | some o =>
      rcases hrow (some g) o with ⟨e, hl⟩ | ⟨e, hl⟩
      · simp only [rPut, e]
        exact (Ri.put_next g hl w h).mono fun _ _ => hturn
      · simp only [rPut, e]
        exact (put_over g hl w h).mono fun _ _ => hgive
/-- What Get answers. -/
def getV : Option Int → Value
  | none => .tuple #[.int .i64 0, .bool false]
  | some g => .tuple #[.int .i64 g, .bool true]
theorem rget_any (r : Rg) (w : World) (h : Ri.IsRing w p r.1 r.2) : Calls Try.prog 71 #[.pointer (some ⟨p, 0, none⟩)] w (Ri.Turns (getV (rGet r).1) w p (rGet r).2.1 (rGet r).2.2) := by
  obtain ⟨nx, L⟩ := r
  cases nx with
  | some y => exact Ri.get_next w h
  | none =>
    cases L with
    | nil => exact (Ri.get_none w h).mono fun _ _ ⟨a, b⟩ => ⟨a, b ▸ Wrote.refl _ _, b ▸ h⟩
    | cons g T => exact Ri.get_row w h
theorem rsteal_any (r o : Rg) {q : Nat} (hpq : p ≠ q) (w : World) (h : Ri.IsRing w p r.1 r.2) (h2 : Ri.IsRing w q o.1 o.2) : Calls Try.prog 105 #[.pointer (some ⟨p, 0, none⟩), .pointer (some ⟨q, 0, none⟩)] w fun e w' => ∃ n : Int, e = .returned (.int .i64 n) ∧ Wrote (Ri.both p q) w (Ri.both p q) w' ∧ Ri.IsRing w' p (rSteal r o).1.1 (rSteal r o).1.2 ∧ Ri.IsRing w' q (rSteal r o).2.1 (rSteal r o).2.2 := by
  obtain ⟨nx, L⟩ := r
  obtain ⟨ny, M⟩ := o
  have hs : L.length ≤ 256 := h.small
  cases M with
  | cons z M => exact (Ri.steal_row _ hpq rfl (fun h0 => by simp at h0) w h h2).mono fun _ _ ⟨a, b, c, d⟩ => ⟨_, a, b, c, d⟩
  | nil =>
    cases ny with
    | none => exact (Ri.steal_row _ hpq rfl (fun h0 => Or.inl rfl) w h h2).mono fun _ _ ⟨a, b, c, d⟩ => ⟨_, a, b, c, d⟩
    | some y =>
      by_cases hl : L.length < 256
      · have e : rSteal (nx, L) (some y, []) = ((nx, L ++ [y]), (none, [])) := by unfold rSteal; exact if_pos hl
        rw [e]
        exact (Ri.steal_next hpq hl w h h2).mono fun _ _ ⟨a, b, c, d⟩ => ⟨_, a, b, c, d⟩
      · have e : rSteal (nx, L) (some y, []) = ((nx, L), (some y, [])) := by unfold rSteal; exact if_neg hl
        rw [e]
        refine (Ri.steal_row 0 hpq (by simp) (fun h0 => Or.inr (show L.length = 256 by omega)) w h h2).mono fun _ _ ⟨a, b, c, d⟩ => ⟨_, a, b, ?_, ?_⟩
        · simpa using c
        · simpa using d
/-- Pointers as the cells of a slice. -/
def ptrs (A : List Nat) : List Value := A.map fun a => .pointer (some ⟨a, 0, none⟩)
theorem ptrs_len (A : List Nat) : (ptrs A).length = A.length := List.length_map ..
theorem ptrs_at {A : List Nat} {i : Nat} (h : i < A.length) : (ptrs A)[i]? = some (.pointer (some ⟨A.getD i 0, 0, none⟩)) := by
  unfold ptrs
  rw [List.getElem?_map, List.getD_eq_getElem?_getD, List.getElem?_eq_getElem h]; rfl
/-- Goroutines that may run, at p: the rings' addresses A, the rings R, the common queue C. -/
structure IsS (w : World) (p q : Nat) (rv qv : Value) (A : List Nat) (R : List Rg) (C : List Int) : Prop where
  head : w.heap[p]? = some (.cells #[rv, .pointer (some ⟨q, 0, none⟩)] 78 (0, 0))
  row : GRow 1 w rv R.length (ptrs A)
  len : A.length = R.length
  rg : ∀ i, i < R.length → Ri.IsRing w (A.getD i 0) (R.getD i rg0).1 (R.getD i rg0).2
  com : Qu.IsQ w q qv C
  one : ∀ i j, i < R.length → j < R.length → A.getD i 0 = A.getD j 0 → i = j
  o1 : rv.ownBlock ≠ some p
  o2 : ∀ i, i < R.length → A.getD i 0 ≠ p ∧ rv.ownBlock ≠ some (A.getD i 0)
  o3 : ∀ k, Qu.home q qv k → k ≠ p ∧ rv.ownBlock ≠ some k ∧ ∀ i, i < R.length → A.getD i 0 ≠ k
/-- Where it lies. -/
def home (p q : Nat) (rv qv : Value) (A : List Nat) : Home := fun k => k = p ∨ rv.ownBlock = some k ∨ (∃ i, i < A.length ∧ A.getD i 0 = k) ∨ Qu.home q qv k
variable {q : Nat} {rv qv qv' : Value} {A : List Nat} {R : List Rg} {C C' : List Int}
namespace IsS
theorem lt (h : IsS w p q rv qv A R C) {k : Nat} (hk : home p q rv qv A k) : k < w.heap.size := by
  rcases hk with rfl | hk | ⟨i, hi, rfl⟩ | hk
  · exact block_lt h.head
  · exact h.row.lt hk
  · exact (h.rg i (by rw [← h.len]; exact hi)).lt
  · exact h.com.home_lt hk
theorem wrote (h : IsS w p q rv qv A R C) (ht : Wrote H w H' w') (ho : Off (home p q rv qv A) H) : IsS w' p q rv qv A R C :=
  ⟨by rw [ht.block p (block_lt h.head) (fun h' => ho p (Or.inl rfl) h')]; exact h.head, h.row.wrote ht (fun k hk h' => ho k (Or.inr (Or.inl hk)) h'), h.len, fun i hi => (h.rg i hi).wrote ht (fun h' => ho _ (Or.inr (Or.inr (Or.inl ⟨i, by rw [h.len]; exact hi, rfl⟩))) h'), h.com.wrote ht (fun k hk h' => ho k (Or.inr (Or.inr (Or.inr hk))) h'), h.one, h.o1, h.o2, h.o3⟩
theorem below (h : IsS w p q rv qv A R C) (hb : Below w.heap.size w w') : IsS w' p q rv qv A R C := h.wrote (H := fun _ => False) (Wrote.of_below hb) (fun _ _ h => h)
/-- A ring turns. -/
theorem ring (h : IsS w p q rv qv A R C) {i : Nat} (hi : i < R.length) (r : Rg) (ht : Wrote (Ri.at_ (A.getD i 0)) w (Ri.at_ (A.getD i 0)) w') (hr : Ri.IsRing w' (A.getD i 0) r.1 r.2) : IsS w' p q rv qv A (R.set i r) C ∧ Wrote (home p q rv qv A) w (home p q rv qv A) w' := by
  have o2 := h.o2 i hi
  refine ⟨⟨by rw [ht.block p (block_lt h.head) (fun h' => o2.1 h'.symm)]; exact h.head, ?_, by rw [List.length_set]; exact h.len, fun j hj => ?_, h.com.wrote ht (fun k hk h' => (h.o3 k hk).2.2 i hi (by rw [show k = _ from h'])), ?_, h.o1, ?_, ?_⟩, ⟨ht.os, ht.tape, ht.output, ht.size, fun k hk hn => ht.block k hk (fun e => hn (Or.inr (Or.inr (Or.inl ⟨i, by rw [h.len]; exact hi, e.symm⟩)))), fun k hk => Or.inl hk⟩⟩
  · rw [List.length_set]
    exact h.row.wrote ht (fun k hk h' => o2.2 (by rw [← show k = _ from h']; exact hk))
  · rw [List.length_set] at hj
    by_cases e : i = j
    · subst e
      rw [List.getD_eq_getElem?_getD (l := R.set i r), List.getElem?_set_self hi]; exact hr
    · rw [List.getD_eq_getElem?_getD (l := R.set i r), List.getElem?_set_ne e, ← List.getD_eq_getElem?_getD]
      exact (h.rg j hj).wrote ht (fun h' => e (h.one i j hi hj h'.symm))
  · simp only [List.length_set]; exact h.one
  · simp only [List.length_set]; exact h.o2
  · simp only [List.length_set]; exact h.o3
/-- The common queue turns. -/
theorem queue (h : IsS w p q rv qv A R C) (ht : Wrote (Qu.home q qv) w (Qu.home q qv') w') (hq : Qu.IsQ w' q qv' C') : IsS w' p q rv qv' A R C' ∧ Wrote (home p q rv qv A) w (home p q rv qv' A) w' := by
  have hlt : ∀ k, Qu.home q qv' k → Qu.home q qv k ∨ w.heap.size ≤ k := ht.home
  refine ⟨⟨by rw [ht.block p (block_lt h.head) (fun h' => (h.o3 p h').1 rfl)]; exact h.head, h.row.wrote ht (fun k hk h' => (h.o3 k h').2.1 hk), h.len, fun j hj => (h.rg j hj).wrote ht (fun h' => (h.o3 _ h').2.2 j hj rfl), hq, h.one, h.o1, h.o2, fun k hk => ?_⟩, ⟨ht.os, ht.tape, ht.output, ht.size, fun k hk hn => ht.block k hk (fun e => hn (Or.inr (Or.inr (Or.inr e)))), fun k hk => ?_⟩⟩
  · rcases hlt k hk with h2 | h2
    · exact h.o3 k h2
    · refine ⟨fun e => ?_, fun e => ?_, fun i hi e => ?_⟩
      · have := block_lt h.head; omega
      · have := h.row.lt e; omega
      · have := (h.rg i hi).lt; omega
  · rcases hk with hk | hk | hk | hk
    · exact Or.inl (Or.inl hk)
    · exact Or.inl (Or.inr (Or.inl hk))
    · exact Or.inl (Or.inr (Or.inr (Or.inl hk)))
    · exact (hlt k hk).imp (fun h2 => Or.inr (Or.inr (Or.inr h2))) id
theorem cs (h : IsS w p q rv qv A R C) : w.cell? ⟨p, 0, none⟩ = some rv ∧ w.cell? ⟨p, 1, none⟩ = some (.pointer (some ⟨q, 0, none⟩)) := by
  unfold World.cell?; rw [h.head]; exact ⟨rfl, rfl⟩
end IsS
end Sd
end Go.Proofs.Ytpclacaiabbmjaa
