/- Spans in common as a law has them: the rows alone, and which blocks may be theirs. -/
import Derived.Test.YtejijddhmckgiaaCenBeg
namespace Go.Proofs.Ytejijddhmckgiaa
open Go.RowKit Go.Lib Fx Ho Rw Mp
set_option linter.unusedVariables false
namespace Ce
variable {w w' W W' W0 : World} {p R z n n' r N o k : Nat} {Q Q' : Rows} {sp sp' : Int → Nat} {H H' K : Home} {x y i : Int} {P S : List Int}
/-- No id stands in two places. -/
structure Apart (Q : Rows) : Prop where
  nd : ∀ r, (Q r).Nodup
  one : ∀ r s x, x ∈ Q r → x ∈ Q s → r = s
  out : ∀ r, 64 ≤ r → Q r = []
theorem IsC.apart (h : IsC w p R z n Q sp) : Apart Q := by
  refine ⟨fun r => ?_, fun r s x h1 h2 => ?_, h.out⟩
  · by_cases hr : r < 64
    · exact h.rows.nd r hr
    · rw [h.out r (by omega)]; exact List.nodup_nil
  · by_cases hr : r < 64
    · by_cases hs : s < 64
      · exact h.rows.one r s x hr hs h1 h2
      · rw [h.out s (by omega)] at h2; cases h2
    · rw [h.out r (by omega)] at h1; cases h1
def gr (K : Home) (W : World) : Home := fun k => K k ∨ W.heap.size ≤ k
/-- A Central at p that a law made: its rows; its blocks are of K. -/
def Cc (K : Home) (W0 W : World) (p n : Nat) (Q : Rows) : Prop := ∃ R z sp, IsC W p R z n Q sp ∧ (∀ k, CH p R z Q sp k → K k) ∧ Low W0.heap.size K ∧ Below W0.heap.size W0 W
def CStep (K : Home) (v : Value) (W0 W : World) (p n' : Nat) (Q' : Rows) (e : Ending) (W' : World) : Prop := e = .returned v ∧ Wrote K W (gr K W) W' ∧ Cc (gr K W) W0 W' p n' Q'
namespace Cc
theorem bel (h : Cc K W0 W p n Q) : Below W0.heap.size W0 W := by obtain ⟨_, _, _, _, _, _, h⟩ := h; exact h
theorem low (h : Cc K W0 W p n Q) : Low W0.heap.size K := by obtain ⟨_, _, _, _, _, h, _⟩ := h; exact h
theorem apart (h : Cc K W0 W p n Q) : Apart Q := by obtain ⟨_, _, _, h, _⟩ := h; exact h.apart
theorem small (h : Cc K W0 W p n Q) (r : Nat) : (Q r).length ≤ n := by obtain ⟨_, _, _, h, _⟩ := h; exact h.small r
theorem wrote (h : Cc K W0 W p n Q) (ht : Wrote H W H' W') (ho : Ho.Off K H) (hl : Low W0.heap.size H) : Cc K W0 W' p n Q := by
  obtain ⟨R, z, sp, h1, h2, h3, h4⟩ := h
  exact ⟨R, z, sp, h1.wrote ht (fun k hk => ho k (h2 k hk)), h2, h3, ht.below hl h4⟩
theorem below (h : Cc K W0 W p n Q) (hb : Below W.heap.size W W') : Cc K W0 W' p n Q := h.wrote (H := fun _ => False) (Wrote.of_below hb) (fun _ _ h => h) (fun _ h => h.elim)
theorem wider {K2 : Home} (h : Cc K W0 W p n Q) (hk : ∀ k, K k → K2 k) (hl : Low W0.heap.size K2) : Cc K2 W0 W p n Q := by
  obtain ⟨R, z, sp, h1, h2, h3, h4⟩ := h
  exact ⟨R, z, sp, h1, fun k h => hk k (h2 k h), hl, h4⟩
end Cc
theorem low_gr (h : Cc K W0 W p n Q) : Low W0.heap.size (gr K W) := fun k hk => hk.elim (h.low k) (fun h2 => Nat.le_trans h.bel.size h2)
theorem step_of {v : Value} {e : Ending} (h : IsC W p R z n Q sp) (hk : ∀ k, CH p R z Q sp k → K k) (hl : Low W0.heap.size K) (hb : Below W0.heap.size W0 W) (hw : Wrote (CH p R z Q sp) W (CH p R z Q' sp') W') (hc : IsC W' p R z n' Q' sp') (he : e = .returned v) : CStep K v W0 W p n' Q' e W' := by
  have hw2 : Wrote K W (gr K W) W' := ⟨hw.os, hw.tape, hw.output, hw.size, fun k h1 h2 => hw.block k h1 (fun h => h2 (hk k h)), fun k h => h⟩
  refine ⟨he, hw2, R, z, sp', hc, fun k h1 => (hw.home k h1).imp (hk k) id, fun k h1 => h1.elim (hl k) (fun h2 => Nat.le_trans hb.size h2), hw2.below hl hb⟩
theorem step_still {v : Value} {e : Ending} (h : Cc K W0 W p n Q) (hs : Still v W e W') : CStep K v W0 W p n Q e W' := by
  obtain ⟨he, hw⟩ := hs
  subst hw
  have hl := low_gr h
  exact ⟨he, ⟨rfl, rfl, rfl, Nat.le_refl _, fun _ _ _ => rfl, fun _ h => h⟩, h.wider (fun k hk => .inl hk) hl⟩
theorem c_new (W : World) : Calls Try.prog 19 #[] W fun e W' => ∃ p, e = .returned (.pointer (some ⟨p, 0, none⟩)) ∧ Below W.heap.size W W' ∧ Cc (fun k => W.heap.size ≤ k) W W' p 0 (fun _ => []) :=
  (new_any W).mono fun e W' ⟨p, R, z, he, hb, ⟨h1, h2, h3⟩, hc⟩ => by
    refine ⟨p, he, hb, R, z, _, hc, fun k hk => ?_, fun k h => h, hb⟩
    rcases hk with rfl | rfl | rfl | ⟨r, x, _, hx, _⟩
    · exact h1
    · exact h3
    · exact h2
    · cases hx
theorem c_put (h : Cc K W0 W p n Q) (hn : n ≤ 1000000) (hk : k < 16) (hx : (Lit.int .i64 x).wf = true) (b : Bool) : Calls Try.prog 20 #[.pointer (some ⟨p, 0, none⟩), .int .i64 k, .int .i64 x, .bool b] W (CStep K (.tuple #[]) W0 W p (n + 1) (putQ Q (k * 4 + cond b 1 0) x)) := by
  obtain ⟨R, z, sp, h1, h2, h3, h4⟩ := h
  exact (put_any h1 hn hk hx b).mono fun e w' ⟨sp', he, hw, hc⟩ => step_of h1 h2 h3 h4 hw hc he
theorem c_put_no (h : Cc K W0 W p n Q) (hi : i < 0 ∨ 16 ≤ i) (b : Bool) : Calls Try.prog 20 #[.pointer (some ⟨p, 0, none⟩), .int .i64 i, .int .i64 x, .bool b] W (CStep K (.tuple #[]) W0 W p n Q) := by
  have h0 := h
  obtain ⟨R, z, sp, h1, h2, h3, h4⟩ := h
  exact (put_no h1 hi b).mono fun e w' hs => step_still h0 hs
theorem c_del (h : Cc K W0 W p n Q) (hn : n ≤ 1000000) (hx : (Lit.int .i64 x).wf = true) : Calls Try.prog 22 #[.pointer (some ⟨p, 0, none⟩), .int .i64 x] W (CStep K (.bool (inQ Q x)) W0 W p n (delQ Q x)) := by
  obtain ⟨R, z, sp, h1, h2, h3, h4⟩ := h
  exact (del_any h1 hn hx).mono fun e w' ⟨sp', he, hw, hc⟩ => step_of h1 h2 h3 h4 hw hc he
theorem c_begin (h : Cc K W0 W p n Q) (hn : n + msum Q 32 ≤ 1000000) : Calls Try.prog 21 #[.pointer (some ⟨p, 0, none⟩)] W (CStep K (.tuple #[]) W0 W p (n + msum Q 32) (begQ Q)) := by
  obtain ⟨R, z, sp, h1, h2, h3, h4⟩ := h
  exact (begin_any h1 hn).mono fun e w' ⟨sp', he, hw, hc⟩ => step_of h1 h2 h3 h4 hw hc he
theorem c_uns (h : Cc K W0 W p n Q) (hn : n ≤ 1000000) : Calls Try.prog 23 #[.pointer (some ⟨p, 0, none⟩)] W (Still (.int .i64 (uns Q 32)) W) := by
  obtain ⟨R, z, sp, h1, _⟩ := h
  exact unswept_any h1 hn
/-- What Take answers: the first of two rows that is not empty, its last one. -/
def takeA (Q : Rows) (k : Nat) : Int × Bool × Bool := match (Q (k * 4)).getLast? with
  | some x => (x, false, true)
  | none => match (Q (k * 4 + 2)).getLast? with
    | some x => (x, true, true)
    | none => (0, false, false)
def takeQ (Q : Rows) (k : Nat) : Rows := match (Q (k * 4)).getLast? with
  | some x => upd Q (k * 4) ((Q (k * 4)).dropLast)
  | none => match (Q (k * 4 + 2)).getLast? with
    | some x => upd Q (k * 4 + 2) ((Q (k * 4 + 2)).dropLast)
    | none => Q
theorem c_take (h : Cc K W0 W p n Q) (hn : n ≤ 1000000) (hk : k < 16) : Calls Try.prog 24 #[.pointer (some ⟨p, 0, none⟩), .int .i64 k] W (CStep K (.tuple #[.int .i64 (takeA Q k).1, .bool (takeA Q k).2.1, .bool (takeA Q k).2.2]) W0 W p n (takeQ Q k)) := by
  have h0 := h
  obtain ⟨R, z, sp, h1, h2, h3, h4⟩ := h
  refine (take_any h1 hn hk).mono fun e w' ht => ?_
  rcases ht with ⟨s, P, x, hs, h5, h6, he, hw, hc⟩ | ⟨h5, h6, hs⟩
  · obtain rfl | rfl : s = 0 ∨ s = 1 := by omega
    · have e1 : Q (k * 4) = P ++ [x] := h6
      have e2 : (Q (k * 4)).getLast? = some x := by rw [e1]; simp
      unfold takeA takeQ
      simp only [e2]
      rw [e1, List.dropLast_concat]
      exact step_of h1 h2 h3 h4 hw hc he
    · have e1 : Q (k * 4 + 2) = P ++ [x] := h6
      have e2 : (Q (k * 4 + 2)).getLast? = some x := by rw [e1]; simp
      have e3 : (Q (k * 4)).getLast? = none := by rw [h5 rfl]; rfl
      unfold takeA takeQ
      simp only [e2, e3]
      rw [e1, List.dropLast_concat]
      exact step_of h1 h2 h3 h4 hw hc he
  · have e2 : (Q (k * 4 + 2)).getLast? = none := by rw [h6]; rfl
    have e3 : (Q (k * 4)).getLast? = none := by rw [h5]; rfl
    unfold takeA takeQ
    simp only [e2, e3]
    exact step_still h0 hs
theorem c_take_no (h : Cc K W0 W p n Q) (hi : i < 0 ∨ 16 ≤ i) : Calls Try.prog 24 #[.pointer (some ⟨p, 0, none⟩), .int .i64 i] W (CStep K (.tuple #[.int .i64 0, .bool false, .bool false]) W0 W p n Q) := by
  have h0 := h
  obtain ⟨R, z, sp, h1, h2, h3, h4⟩ := h
  exact (take_no h1 hi).mono fun e w' hs => step_still h0 hs
def takeFA (Q : Rows) (k : Nat) : Int × Bool := match (Q (k * 4 + 3)).getLast? with
  | some x => (x, true)
  | none => (0, false)
def takeFQ (Q : Rows) (k : Nat) : Rows := upd Q (k * 4 + 3) ((Q (k * 4 + 3)).dropLast)
theorem c_takef (h : Cc K W0 W p n Q) (hn : n ≤ 1000000) (hk : k < 16) : Calls Try.prog 27 #[.pointer (some ⟨p, 0, none⟩), .int .i64 k] W (CStep K (.tuple #[.int .i64 (takeFA Q k).1, .bool (takeFA Q k).2]) W0 W p n (takeFQ Q k)) := by
  have h0 := h
  obtain ⟨R, z, sp, h1, h2, h3, h4⟩ := h
  refine (takef_any h1 hn hk).mono fun e w' ht => ?_
  rcases ht with ⟨P, x, e1, he, hw, hc⟩ | ⟨h5, hs⟩
  · have e2 : (Q (k * 4 + 3)).getLast? = some x := by rw [e1]; simp
    unfold takeFA takeFQ
    simp only [e2]
    rw [e1, List.dropLast_concat]
    exact step_of h1 h2 h3 h4 hw hc he
  · have e2 : (Q (k * 4 + 3)).getLast? = none := by rw [h5]; rfl
    have e4 : takeFQ Q k = Q := by
      unfold takeFQ
      rw [h5]
      funext s
      by_cases hs : s = k * 4 + 3
      · subst hs; rw [upd_same, h5]; rfl
      · rw [upd_ne _ _ hs]
    rw [e4]
    unfold takeFA
    simp only [e2]
    exact step_still h0 hs
theorem c_takef_no (h : Cc K W0 W p n Q) (hi : i < 0 ∨ 16 ≤ i) : Calls Try.prog 27 #[.pointer (some ⟨p, 0, none⟩), .int .i64 i] W (CStep K (.tuple #[.int .i64 0, .bool false]) W0 W p n Q) := by
  have h0 := h
  obtain ⟨R, z, sp, h1, h2, h3, h4⟩ := h
  exact (takef_no h1 hi).mono fun e w' hs => step_still h0 hs
/-- Of the first t unswept rows the first that is not empty, and its first one. -/
def anyF (Q : Rows) : Nat → Option (Nat × Int)
  | 0 => none
  | t + 1 => match anyF Q t with
    | some x => some x
    | none => (Q (urow t)).head?.map fun x => (t, x)
def anyA (Q : Rows) : Int × Int × Bool := match anyF Q 32 with
  | some (t, x) => (((t / 2 : Nat) : Int), x, true)
  | none => (0, 0, false)
def anyQ (Q : Rows) : Rows := match anyF Q 32 with
  | some (t, x) => upd Q (urow t) (Q (urow t)).tail
  | none => Q
theorem anyF_none : ∀ t, (∀ u, u < t → Q (urow u) = []) → anyF Q t = none
  | 0, h => rfl
  | t + 1, h => by
    unfold anyF
    rw [anyF_none t (fun u hu => h u (by omega)), h t (by omega)]; rfl
theorem anyF_some {t : Nat} {x : Int} {S : List Int} (h : ∀ u, u < t → Q (urow u) = []) (e : Q (urow t) = x :: S) : ∀ d, anyF Q (t + 1 + d) = some (t, x)
  | 0 => by
    show anyF Q (t + 1) = _
    unfold anyF
    rw [anyF_none t h, e]; rfl
  | d + 1 => by
    show anyF Q (t + 1 + d + 1) = _
    unfold anyF
    rw [anyF_some h e d]
theorem c_any (h : Cc K W0 W p n Q) (hn : n ≤ 1000000) : Calls Try.prog 26 #[.pointer (some ⟨p, 0, none⟩)] W (CStep K (.tuple #[.int .i64 (anyA Q).1, .int .i64 (anyA Q).2.1, .bool (anyA Q).2.2]) W0 W p n (anyQ Q)) := by
  have h0 := h
  obtain ⟨R, z, sp, h1, h2, h3, h4⟩ := h
  refine (any_any h1 hn).mono fun e w' ht => ?_
  rcases ht with ⟨t, S, x, ht, hE, e1, he, hw, hc⟩ | ⟨hE, hs⟩
  · have e2 : anyF Q 32 = some (t, x) := by have := anyF_some hE e1 (32 - (t + 1)); rwa [show t + 1 + (32 - (t + 1)) = 32 by omega] at this
    unfold anyA anyQ
    simp only [e2]
    rw [e1, List.tail_cons]
    exact step_of h1 h2 h3 h4 hw hc he
  · have e2 : anyF Q 32 = none := anyF_none 32 hE
    unfold anyA anyQ
    simp only [e2]
    exact step_still h0 hs
end Ce
end Go.Proofs.Ytejijddhmckgiaa
