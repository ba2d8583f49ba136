/- Ids from 0 to 9 in rows, and a row of bools that tells which ones stand there. -/
import Derived.Test.YtejijddhmckgiaaCenTot
import Derived.Test.YtejijddhmckgiaaOp8
import Derived.Deep.OwnRows
namespace Go.Proofs.Ytejijddhmckgiaa
open Go.RowKit Go.Lib Fx Ho Rw Mp
set_option linter.unusedVariables false
namespace Ce
variable {w w' W W' W0 : World} {p n n' k g : Nat} {Q Q' : Ce.Rows} {K : Home} {x y i : Int} {F : Nat → Bool}
def updB (F : Nat → Bool) (k : Nat) (b : Bool) : Nat → Bool := fun j => if j = k then b else F j
theorem updB_same (F : Nat → Bool) (k : Nat) (b : Bool) : updB F k b k = b := if_pos rfl
theorem updB_ne (F : Nat → Bool) {k j : Nat} (b : Bool) (h : j ≠ k) : updB F k b j = F j := if_neg h
def bA (F : Nat → Bool) : Array Value := (Array.range 10).map fun i => .bool (F i)
theorem bA_at {F : Nat → Bool} {i : Nat} (hi : i < 10) : (bA F)[i]? = some (.bool (F i)) := by
  unfold bA; rw [Array.getElem?_map, Array.getElem?_range, if_pos hi]; rfl
theorem bA_set (F : Nat → Bool) {k : Nat} (hk : k < 10) (b : Bool) : (bA F).setIfInBounds k (.bool b) = bA (updB F k b) := by
  apply Array.ext
  · simp [bA]
  · intro i h1 h2
    have hi : i < 10 := by simpa [bA] using h2
    have e : ((bA F).setIfInBounds k (.bool b))[i]? = (bA (updB F k b))[i]? := by
      rw [bA_at hi]
      by_cases h : k = i
      · subst h; rw [Array.getElem?_setIfInBounds_self_of_lt (by simp [bA]; exact hk), updB_same]
      · rw [Array.getElem?_setIfInBounds_ne h, bA_at hi, updB_ne _ _ (fun e => h e.symm)]
    rw [Array.getElem?_eq_getElem h1, Array.getElem?_eq_getElem h2] at e
    exact Option.some.inj e
theorem made10 : madeCells #[.bool false] 10 = bA (fun _ => false) := by
  unfold madeCells bA
  congr 1
  funext i
  show (#[Value.bool false])[i % 1]! = _
  rw [Nat.mod_one]; rfl
theorem infoB : (Try.prog.info? 4).map (fun i => (i.zero, i.size, i.bytes)) = some (some (.bool false), 1, 1) := by kernel_rfl
theorem make10 (w : World) : (Instr.makeSlice 23 (.int .i64 10) (.int .i64 10)).run Try.prog w = .ok (.slice (some ⟨w.heap.size, 0, none⟩) 10 10) (w.alloc (.cells (bA (fun _ => false)) 4)) := by
  rw [← made10]
  exact run_make_row' (P := Try.prog) 23 4 (.bool false) 1 Try.underlying23 infoB rfl .i64 .i64 10 (by omega) (by omega) w
def cnt (F : Nat → Bool) : Nat → Nat
  | 0 => 0
  | m + 1 => cnt F m + cond (F m) 1 0
theorem cnt_le (F : Nat → Bool) : ∀ m, cnt F m ≤ m
  | 0 => Nat.le_refl _
  | m + 1 => by
    have := cnt_le F m
    show cnt F m + cond (F m) 1 0 ≤ _
    cases F m <;> simp <;> omega
theorem cnt_upd (F : Nat → Bool) (k : Nat) (b : Bool) : ∀ m, cnt (updB F k b) m + (if k < m then cond (F k) 1 0 else 0) = cnt F m + (if k < m then cond b 1 0 else 0)
  | 0 => rfl
  | m + 1 => by
    have ih := cnt_upd F k b m
    show cnt (updB F k b) m + cond (updB F k b m) 1 0 + _ = cnt F m + cond (F m) 1 0 + _
    by_cases e : m = k
    · subst e
      rw [if_neg (by omega), if_neg (by omega)] at ih
      rw [if_pos (by omega), if_pos (by omega), updB_same]
      omega
    · rw [updB_ne _ _ e]
      by_cases c : k < m
      · rw [if_pos c, if_pos c] at ih; rw [if_pos (by omega), if_pos (by omega)]; omega
      · rw [if_neg c, if_neg c] at ih; rw [if_neg (by omega), if_neg (by omega)]; omega
theorem cnt_zero {F : Nat → Bool} : ∀ m, cnt F m = 0 → ∀ i, i < m → F i = false
  | m + 1, h, i, hi => by
    have h2 : cnt F m + cond (F m) 1 0 = 0 := h
    have hm : F m = false := by
      cases hF : F m with
      | true => rw [hF] at h2; simp at h2
      | false => rfl
    by_cases e : i = m
    · rw [e]; exact hm
    · exact cnt_zero m (by omega) i (by omega)
/-- The ids that stand there are those that F tells. -/
def In (F : Nat → Bool) (Q : Ce.Rows) : Prop := Apart Q ∧ (∀ y, inQ Q y = true ↔ ∃ j : Nat, y = (j : Int) ∧ j < 10 ∧ F j = true) ∧ uns Q 32 + msum Q 32 = cnt F 10
theorem in_nil : In (fun _ => false) (fun _ => []) := ⟨apart_nil, fun y => ⟨fun h => by obtain ⟨r, _, hm⟩ := inQ_at h; simp at hm, fun ⟨j, _, _, h⟩ => by simp at h⟩, by rw [uns_nil, msum_nil]; rfl⟩
theorem In.at_ (h : In F Q) {j : Nat} (hj : j < 10) : inQ Q (j : Int) = F j := by
  cases hF : F j with
  | true => exact (h.2.1 _).2 ⟨j, rfl, hj, hF⟩
  | false =>
    rw [Bool.eq_false_iff]; intro e
    obtain ⟨i, hi, _, h2⟩ := (h.2.1 _).1 e
    have : j = i := by exact_mod_cast hi
    rw [this, h2] at hF; cases hF
theorem In.put (h : In F Q) {r j : Nat} (hj : j < 10) (hr : r % 4 < 2) (hr2 : r < 64) : In (updB F j true) (putQ Q r (j : Int)) := by
  refine ⟨apart_put h.1 hr2 _, fun y => ?_, ?_⟩
  · rw [in_put h.1 hr2, h.2.1]
    constructor
    · rintro (rfl | ⟨i, rfl, hi, hF⟩)
      · exact ⟨j, rfl, hj, updB_same _ _ _⟩
      · refine ⟨i, rfl, hi, ?_⟩
        by_cases e : i = j
        · subst e; exact updB_same _ _ _
        · rw [updB_ne _ _ e]; exact hF
    · rintro ⟨i, rfl, hi, hF⟩
      by_cases e : i = j
      · subst e; exact .inl rfl
      · rw [updB_ne _ _ e] at hF; exact .inr ⟨i, rfl, hi, hF⟩
  · rw [uns_put hr, msum_put hr hr2]
    have hc := cnt_upd F j true 10
    rw [if_pos hj, if_pos hj] at hc
    have h3 := h.2.2
    cases hF : F j with
    | true =>
      have := tot_del h.1 (by rw [h.at_ hj]; exact hF)
      rw [hF] at hc
      simp at hc
      omega
    | false =>
      rw [del_not h.1 (by rw [h.at_ hj]; exact hF)]
      rw [hF] at hc
      simp at hc
      omega
theorem In.del (h : In F Q) {j : Nat} (hj : j < 10) (hF : F j = true) : In (updB F j false) (delQ Q (j : Int)) := by
  refine ⟨apart_del h.1 _, fun y => ?_, ?_⟩
  · rw [in_del h.1, h.2.1]
    constructor
    · rintro ⟨hy, i, rfl, hi, hFi⟩
      exact ⟨i, rfl, hi, by rw [updB_ne _ _ (fun e => hy (by rw [e]))]; exact hFi⟩
    · rintro ⟨i, rfl, hi, hFi⟩
      by_cases e : i = j
      · subst e; rw [updB_same] at hFi; cases hFi
      · rw [updB_ne _ _ e] at hFi
        exact ⟨fun e2 => e (by exact_mod_cast e2), i, rfl, hi, hFi⟩
  · have := tot_del h.1 (by rw [h.at_ hj]; exact hF)
    have hc := cnt_upd F j false 10
    rw [if_pos hj, if_pos hj, hF] at hc
    simp at hc
    have h3 := h.2.2
    omega
theorem In.beg (h : In F Q) (hA : Apart (begQ Q)) : In F (begQ Q) := ⟨hA, fun y => by rw [in_beg h.1, h.2.1], by rw [uns_beg 32 (by omega), msum_beg 32 (by omega), Nat.add_zero]; exact h.2.2⟩
theorem del_of_upd {r : Nat} {P S : List Int} (h : Apart Q) (e : Q r = P ++ x :: S) : upd Q r (P ++ S) = delQ Q x := by
  funext s
  unfold delQ
  by_cases hs : s = r
  · subst hs
    rw [upd_same, e]
    have := h.nd s
    rw [e] at this
    exact (erase_mid this).symm
  · rw [upd_ne _ _ hs]
    exact (List.erase_of_not_mem (fun hm => hs (h.one s r x hm (by rw [e]; simp)))).symm
theorem last_split {L : List Int} {x : Int} (h : L.getLast? = some x) : L = L.dropLast ++ [x] := by
  rcases List.eq_nil_or_concat L with rfl | ⟨P, y, rfl⟩
  · cases h
  · rw [List.concat_eq_append] at *
    have : y = x := by simpa using h
    subst this; rw [List.dropLast_concat]
/-- What Take does: one that stands there comes, or none. -/
theorem take_cases (h : Apart Q) (k : Nat) : (∃ x b, takeA Q k = (x, b, true) ∧ inQ Q x = true ∧ takeQ Q k = delQ Q x) ∨ (takeA Q k = (0, false, false) ∧ takeQ Q k = Q) := by
  unfold takeA takeQ
  cases h0 : (Q (k * 4)).getLast? with
  | some x =>
    have e := last_split h0
    refine .inl ⟨x, false, rfl, (in_iff h).2 ⟨_, by rw [e]; simp⟩, ?_⟩
    have := del_of_upd (P := (Q (k * 4)).dropLast) (S := []) h e
    rw [List.append_nil] at this; exact this
  | none =>
    cases h1 : (Q (k * 4 + 2)).getLast? with
    | some x =>
      have e := last_split h1
      refine .inl ⟨x, true, rfl, (in_iff h).2 ⟨_, by rw [e]; simp⟩, ?_⟩
      have := del_of_upd (P := (Q (k * 4 + 2)).dropLast) (S := []) h e
      rw [List.append_nil] at this; exact this
    | none => exact .inr ⟨rfl, rfl⟩
theorem anyF_at : ∀ {t u : Nat} {x : Int}, anyF Q t = some (u, x) → u < t ∧ (Q (urow u)).head? = some x
  | t + 1, u, x, h => by
    unfold anyF at h
    cases hf : anyF Q t with
    | some z =>
      rw [hf] at h
      obtain rfl : z = (u, x) := Option.some.inj h
      have := anyF_at hf
      exact ⟨by omega, this.2⟩
    | none =>
      rw [hf] at h
      cases hh : (Q (urow t)).head? with
      | none => rw [hh] at h; cases h
      | some z =>
        rw [hh] at h
        have h2 : (t, z) = (u, x) := Option.some.inj h
        injection h2 with e1 e2
        subst e1 e2
        exact ⟨by omega, hh⟩
theorem anyF_empty : ∀ {t : Nat}, anyF Q t = none → uns Q t = 0
  | 0, _ => rfl
  | t + 1, h => by
    unfold anyF at h
    cases hf : anyF Q t with
    | some z => rw [hf] at h; cases h
    | none =>
      rw [hf] at h
      have e : Q (urow t) = [] := by
        cases hq : Q (urow t) with
        | nil => rfl
        | cons a b => rw [hq] at h; cases h
      show uns Q t + (Q (urow t)).length = 0
      rw [anyF_empty hf, e]; rfl
theorem any_cases (h : Apart Q) : (∃ c x, anyA Q = (c, x, true) ∧ inQ Q x = true ∧ anyQ Q = delQ Q x) ∨ (anyA Q = (0, 0, false) ∧ anyQ Q = Q ∧ uns Q 32 = 0) := by
  unfold anyA anyQ
  cases hf : anyF Q 32 with
  | none => exact .inr ⟨rfl, rfl, anyF_empty hf⟩
  | some z =>
    obtain ⟨t, x⟩ := z
    obtain ⟨_, hh⟩ := anyF_at hf
    have e : Q (urow t) = [] ++ x :: (Q (urow t)).tail := by
      cases hq : Q (urow t) with
      | nil => rw [hq] at hh; cases hh
      | cons a b => rw [hq] at hh; obtain rfl : a = x := Option.some.inj hh; rfl
    exact .inl ⟨_, x, rfl, (in_iff h).2 ⟨_, by rw [e]; simp⟩, del_of_upd (P := []) h e⟩
theorem uns_none (h : ∀ y, inQ Q y = false) (hA : Apart Q) : uns Q 32 = 0 := by
  have hall : ∀ r, Q r = [] := fun r => by
    cases hq : Q r with
    | nil => rfl
    | cons a b => exact absurd ((in_iff (y := a) hA).2 ⟨r, by rw [hq]; simp⟩) (by rw [h a]; simp)
  have : Q = fun _ => [] := funext hall
  rw [this]; exact uns_nil 32
/-- A Central that a law made, and a row of ten bools at g beside it. -/
structure On (W0 W : World) (p n : Nat) (Q : Ce.Rows) (g : Nat) (F : Nat → Bool) : Prop where
  c : ∃ K, Cc K W0 W p n Q ∧ ¬ K g
  b : W.heap[g]? = some (.cells (bA F) 4 (0, 0))
  lo : W0.heap.size ≤ g
namespace On
theorem bel (h : On W0 W p n Q g F) : Below W0.heap.size W0 W := by obtain ⟨K, h, _⟩ := h.c; exact h.bel
theorem apart (h : On W0 W p n Q g F) : Apart Q := by obtain ⟨K, h, _⟩ := h.c; exact h.apart
theorem cell (h : On W0 W p n Q g F) {i : Nat} (hi : i < 10) : W.cell? ⟨g, i, none⟩ = some (.bool (F i)) := cell_of h.b (bA_at hi)
theorem fz (h : On W0 W p n Q g F) (i : Nat) : W.frozen? ⟨g, i, none⟩ = false := frozen_of_row W g i _ _ h.b
theorem below (h : On W0 W p n Q g F) (hb : Below W.heap.size W W') : On W0 W' p n Q g F := by
  obtain ⟨K, h1, h2⟩ := h.c
  exact ⟨⟨K, h1.below hb, h2⟩, (hb.block g (block_lt h.b)).trans h.b, h.lo⟩
theorem set (h : On W0 W p n Q g F) {i : Nat} (hi : i < 10) (b : Bool) : On W0 (W.setCell ⟨g, i, none⟩ (.bool b)) p n Q g (updB F i b) := by
  obtain ⟨K, h1, h2⟩ := h.c
  have hw : Wrote (fun k => k = g) W (fun k => k = g) (W.setCell ⟨g, i, none⟩ (.bool b)) := wrote_setCell (H := fun k => k = g) (a := ⟨g, i, none⟩) (u := .bool b) rfl rfl rfl rfl rfl
  refine ⟨⟨K, h1.wrote hw (fun k hk e => h2 (e ▸ hk)) (fun k hk => by rw [show k = g from hk]; exact h.lo), h2⟩, ?_, h.lo⟩
  rw [heap_setCell_same _ g i _ _ _ h.b, bA_set F hi]
theorem step (h : On W0 W p n Q g F) {K : Home} (hk : ¬ K g) {v : Value} {e : Ending} (hs : CStep K v W0 W p n' Q' e W') : e = .returned v ∧ On W0 W' p n' Q' g F := by
  obtain ⟨he, hw, hc⟩ := hs
  have hlt := block_lt h.b
  exact ⟨he, ⟨_, hc, fun hg => hg.elim hk (fun h2 => by omega)⟩, (hw.block g hlt hk).trans h.b, h.lo⟩
end On
def Os (v : Value) (W0 : World) (p n' : Nat) (Q' : Ce.Rows) (g : Nat) (F : Nat → Bool) (e : Ending) (W' : World) : Prop := e = .returned v ∧ On W0 W' p n' Q' g F
theorem o_put (h : On W0 W p n Q g F) (hn : n ≤ 1000000) (hk : k < 16) (hx : (Lit.int .i64 x).wf = true) (b : Bool) : Calls Try.prog 20 #[.pointer (some ⟨p, 0, none⟩), .int .i64 k, .int .i64 x, .bool b] W (Os (.tuple #[]) W0 p (n + 1) (putQ Q (k * 4 + cond b 1 0) x) g F) := by
  obtain ⟨K, h1, h2⟩ := h.c
  exact (c_put h1 hn hk hx b).mono fun _ _ hs => h.step h2 hs
theorem o_del (h : On W0 W p n Q g F) (hn : n ≤ 1000000) (hx : (Lit.int .i64 x).wf = true) : Calls Try.prog 22 #[.pointer (some ⟨p, 0, none⟩), .int .i64 x] W (Os (.bool (inQ Q x)) W0 p n (delQ Q x) g F) := by
  obtain ⟨K, h1, h2⟩ := h.c
  exact (c_del h1 hn hx).mono fun _ _ hs => h.step h2 hs
theorem o_begin (h : On W0 W p n Q g F) (hn : n + msum Q 32 ≤ 1000000) : Calls Try.prog 21 #[.pointer (some ⟨p, 0, none⟩)] W (Os (.tuple #[]) W0 p (n + msum Q 32) (begQ Q) g F) := by
  obtain ⟨K, h1, h2⟩ := h.c
  exact (c_begin h1 hn).mono fun _ _ hs => h.step h2 hs
theorem o_uns (h : On W0 W p n Q g F) (hn : n ≤ 1000000) : Calls Try.prog 23 #[.pointer (some ⟨p, 0, none⟩)] W (Still (.int .i64 (uns Q 32)) W) := by
  obtain ⟨K, h1, h2⟩ := h.c
  exact c_uns h1 hn
theorem o_take (h : On W0 W p n Q g F) (hn : n ≤ 1000000) (hk : k < 16) : Calls Try.prog 24 #[.pointer (some ⟨p, 0, none⟩), .int .i64 k] W (Os (.tuple #[.int .i64 (takeA Q k).1, .bool (takeA Q k).2.1, .bool (takeA Q k).2.2]) W0 p n (takeQ Q k) g F) := by
  obtain ⟨K, h1, h2⟩ := h.c
  exact (c_take h1 hn hk).mono fun _ _ hs => h.step h2 hs
theorem o_any (h : On W0 W p n Q g F) (hn : n ≤ 1000000) : Calls Try.prog 26 #[.pointer (some ⟨p, 0, none⟩)] W (Os (.tuple #[.int .i64 (anyA Q).1, .int .i64 (anyA Q).2.1, .bool (anyA Q).2.2]) W0 p n (anyQ Q) g F) := by
  obtain ⟨K, h1, h2⟩ := h.c
  exact (c_any h1 hn).mono fun _ _ hs => h.step h2 hs
/-- Behind New, the bools are made. -/
theorem on_new {w w1 : World} (h : Cc K w w1 p n Q) : On w (w1.alloc (.cells (bA (fun _ => false)) 4)) p n Q w1.heap.size (fun _ => false) := by
  have hb := below_alloc (Below.refl w1.heap.size w1) (.cells (bA (fun _ => false)) 4)
  have hbel := h.bel
  obtain ⟨R, z, sp, h1, h2, h3, h4⟩ := h
  have hc : Cc (fun k => K k ∧ k < w1.heap.size) w w1 p n Q := ⟨R, z, sp, h1, fun k hk => ⟨h2 k hk, h1.lt hk⟩, fun k hk => h3 k hk.1, h4⟩
  exact ⟨⟨_, hc.below hb, fun hg => by have := hg.2; omega⟩, heap_alloc_new _ _, hbel.size⟩
end Ce
end Go.Proofs.Ytejijddhmckgiaa
