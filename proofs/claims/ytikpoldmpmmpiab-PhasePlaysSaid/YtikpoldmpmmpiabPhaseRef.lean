/- What all calls of package phase make of phases, each told by one answer; the document's own phases, which are told by the same answers. -/
import Derived.Test.YtikpoldmpmmpiabPhaseTold
namespace Go.Proofs.Ytikpoldmpmmpiab
open Go.RowKit Go.Lib Fx Ho
set_option linter.unusedVariables false
namespace Ph
variable {W0 w w' : World} {p g xp xg : Nat} {ph cy re : Int} {M : List Bool} {H H' S : Home}
/-- May the phases go on to that one? -/
def gOk (to ph : Int) (M : List Bool) : Bool := (ph == (to + 3) % 4) && (!(to == 2) || quB ph M)
def gR (b : Bool) : Int := if b then 0 else 5
def gP (b : Bool) (to ph : Int) : Int := if b then to else ph
def gC (b : Bool) (to cy : Int) : Int := if b && (to == 1) then cy + 1 else cy
def gE (b : Bool) (to re : Int) : Int := if b && (to == 1) then 0 else re
def gM (b : Bool) (to : Int) (M : List Bool) : List Bool := if b && (to == 1) then List.replicate M.length false else M
theorem quB_no (h : ph ≠ 1) : quB ph M = false := by
  unfold quB; rw [show (ph == 1) = false by simpa using h]; rfl
theorem begin_all (h : IsPh w p g ph cy re M) (hc : 0 ≤ cy ∧ cy ≤ 1000000) : Calls Try.prog 18 #[.pointer (some ⟨p, 0, none⟩)] w (Turns (.int .i64 (gR (gOk 1 ph M))) w p g (gP (gOk 1 ph M) 1 ph) (gC (gOk 1 ph M) 1 cy) (gE (gOk 1 ph M) 1 re) (gM (gOk 1 ph M) 1 M)) := by
  by_cases e : ph = 0
  · subst e; exact begin_off h hc
  · rw [show gOk 1 ph M = false by unfold gOk; rw [show (ph == (1 + 3) % 4) = false by simpa using e]; rfl]
    exact (begin_no h e).mono fun e w' ⟨h1, m, h2⟩ => ⟨h1, by rw [h2]; exact ⟨rfl, rfl, rfl, Nat.le_refl _, fun _ _ _ => rfl, fun _ hk => Or.inl hk⟩, by rw [h2]; exact h.drewN m⟩
theorem term_all (h : IsPh w p g ph cy re M) : Calls Try.prog 20 #[.pointer (some ⟨p, 0, none⟩)] w (Turns (.int .i64 (gR (gOk 2 ph M))) w p g (gP (gOk 2 ph M) 2 ph) (gC (gOk 2 ph M) 2 cy) (gE (gOk 2 ph M) 2 re) (gM (gOk 2 ph M) 2 M)) := by
  cases e : quB ph M with
  | true =>
    have hp : ph = 1 := by
      by_cases h1 : ph = 1
      · exact h1
      · rw [quB_no h1] at e; cases e
    subst hp
    rw [show gOk 2 1 M = true by unfold gOk; rw [e]; rfl]
    exact term_yes h e
  | false =>
    rw [show gOk 2 ph M = false by unfold gOk; rw [e]; simp]
    exact (term_no h e).mono fun e w' ⟨h1, m, h2⟩ => ⟨h1, by rw [h2]; exact ⟨rfl, rfl, rfl, Nat.le_refl _, fun _ _ _ => rfl, fun _ hk => Or.inl hk⟩, by rw [h2]; exact h.drewN m⟩
theorem sweep_all (h : IsPh w p g ph cy re M) : Calls Try.prog 21 #[.pointer (some ⟨p, 0, none⟩)] w (Turns (.int .i64 (gR (gOk 3 ph M))) w p g (gP (gOk 3 ph M) 3 ph) (gC (gOk 3 ph M) 3 cy) (gE (gOk 3 ph M) 3 re) (gM (gOk 3 ph M) 3 M)) := by
  by_cases e : ph = 2
  · subst e; exact sweep_yes h
  · rw [show gOk 3 ph M = false by unfold gOk; rw [show (ph == (3 + 3) % 4) = false by simpa using e]; rfl]
    exact (sweep_no h e).mono fun e w' ⟨h1, m, h2⟩ => ⟨h1, by rw [h2]; exact ⟨rfl, rfl, rfl, Nat.le_refl _, fun _ _ _ => rfl, fun _ hk => Or.inl hk⟩, by rw [h2]; exact h.drewN m⟩
theorem end_all (h : IsPh w p g ph cy re M) : Calls Try.prog 22 #[.pointer (some ⟨p, 0, none⟩)] w (Turns (.int .i64 (gR (gOk 0 ph M))) w p g (gP (gOk 0 ph M) 0 ph) (gC (gOk 0 ph M) 0 cy) (gE (gOk 0 ph M) 0 re) (gM (gOk 0 ph M) 0 M)) := by
  by_cases e : ph = 3
  · subst e; exact end_yes h
  · rw [show gOk 0 ph M = false by unfold gOk; rw [show (ph == (0 + 3) % 4) = false by simpa using e]; rfl]
    exact (end_no h e).mono fun e w' ⟨h1, m, h2⟩ => ⟨h1, by rw [h2]; exact ⟨rfl, rfl, rfl, Nat.le_refl _, fun _ _ _ => rfl, fun _ hk => Or.inl hk⟩, by rw [h2]; exact h.drewN m⟩
/-- What Say answers and makes. -/
def sR (k ph : Int) (n : Nat) : Int := if k < 0 ∨ (n : Int) ≤ k then 1 else if ph ≠ 1 then 5 else 0
def sE (k ph re : Int) (a b : Bool) (M : List Bool) : Int := if sR k ph M.length = 0 ∧ (a && !b) = false ∧ M.contains true = true then re + 1 else re
def sM (k ph : Int) (a b : Bool) (M : List Bool) : List Bool := if sR k ph M.length = 0 then (if (a && !b) = true then M.set k.toNat true else List.replicate M.length false) else M
theorem say_all (h : IsPh w p g ph cy re M) (k : Int) (a b : Bool) (hr : 0 ≤ re ∧ re ≤ 1000000) : Calls Try.prog 23 #[.pointer (some ⟨p, 0, none⟩), .int .i64 k, .bool a, .bool b] w (Turns (.int .i64 (sR k ph M.length)) w p g ph cy (sE k ph re a b M) (sM k ph a b M)) := by
  by_cases h1 : k < 0 ∨ (M.length : Int) ≤ k
  · have e : sR k ph M.length = 1 := by unfold sR; rw [if_pos h1]
    unfold sE sM
    rw [e, if_neg (by omega), if_neg (by omega)]
    exact (say_arg h k a b h1).mono fun e w' ⟨h1, m, h2⟩ => ⟨h1, by rw [h2]; exact ⟨rfl, rfl, rfl, Nat.le_refl _, fun _ _ _ => rfl, fun _ hk => Or.inl hk⟩, by rw [h2]; exact h.drewN m⟩
  · obtain ⟨j, rfl⟩ : ∃ j : Nat, k = (j : Int) := ⟨k.toNat, by omega⟩
    have hj : j < M.length := by omega
    by_cases h2 : ph = 1
    · subst h2
      have e : sR j 1 M.length = 0 := by unfold sR; rw [if_neg h1, if_neg (by omega)]
      unfold sE sM
      rw [e, if_pos rfl]
      cases hab : (a && !b) with
      | true =>
        have : a = true ∧ b = false := by cases a <;> cases b <;> simp at hab ⊢
        obtain ⟨rfl, rfl⟩ := this
        rw [if_neg (by simp), if_pos rfl, Int.toNat_natCast]
        exact say_yes h j hj
      | false =>
        have := say_forget h j a b hj hab hr
        cases hc : M.contains true with
        | true =>
          rw [hc, if_pos rfl] at this
          rw [if_pos (⟨rfl, rfl, rfl⟩ : (0 : Int) = 0 ∧ false = false ∧ true = true), if_neg (by decide : ¬ (false = true))]; exact this
        | false =>
          rw [hc, if_neg (by decide : ¬ (false = true))] at this
          rw [if_neg (by simp : ¬ ((0 : Int) = 0 ∧ false = false ∧ false = true)), if_neg (by decide : ¬ (false = true))]; exact this
    · have e : sR j ph M.length = 5 := by unfold sR; rw [if_neg h1, if_pos h2]
      unfold sE sM
      rw [e, if_neg (by omega), if_neg (by omega)]
      exact (say_state h j a b hj h2).mono fun e w' ⟨h1, m, h2⟩ => ⟨h1, by rw [h2]; exact ⟨rfl, rfl, rfl, Nat.le_refl _, fun _ _ _ => rfl, fun _ hk => Or.inl hk⟩, by rw [h2]; exact h.drewN m⟩

/-- The document's own phases at xp, what was said in the block xg. -/
structure IsRf (w : World) (xp xg : Nat) (ph cy re : Int) (M : List Bool) : Prop where
  head : w.heap[xp]? = some (.cells #[.int .i64 M.length, .int .i64 ph, .int .i64 cy, .int .i64 re, .slice (some ⟨xg, 0, none⟩) M.length M.length] 30 (0, 0))
  row : w.heap[xg]? = some (.cells (bcells M) 4 (0, 0))
  ne : xg ≠ xp
  pos : 0 < M.length
  small : M.length ≤ 64
theorem IsRf.wrote (h : IsRf w xp xg ph cy re M) (ht : Wrote H w H' w') (ho : Off (home xp xg) H) : IsRf w' xp xg ph cy re M :=
  ⟨by rw [ht.block xp (block_lt h.head) (fun h' => ho xp (Or.inl rfl) h')]; exact h.head, by rw [ht.block xg (block_lt h.row) (fun h' => ho xg (Or.inr rfl) h')]; exact h.row, h.ne, h.pos, h.small⟩
theorem IsRf.below (h : IsRf w xp xg ph cy re M) (hb : Below w.heap.size w w') : IsRf w' xp xg ph cy re M := h.wrote (H := fun _ => False) (Wrote.of_below hb) (fun _ _ h => h)
theorem IsRf.drewN (h : IsRf w xp xg ph cy re M) (m : Nat) : IsRf (w.drewN m) xp xg ph cy re M := h.below (below_drewN (Below.refl _ _) m)
theorem IsRf.c (h : IsRf w xp xg ph cy re M) : w.cell? ⟨xp, 0, none⟩ = some (.int .i64 M.length) ∧ w.cell? ⟨xp, 1, none⟩ = some (.int .i64 ph) ∧ w.cell? ⟨xp, 2, none⟩ = some (.int .i64 cy) ∧ w.cell? ⟨xp, 3, none⟩ = some (.int .i64 re) ∧ w.cell? ⟨xp, 4, none⟩ = some (.slice (some ⟨xg, 0, none⟩) M.length M.length) ∧
    w.frozen? ⟨xp, 1, none⟩ = false ∧ w.frozen? ⟨xp, 2, none⟩ = false ∧ w.frozen? ⟨xp, 3, none⟩ = false ∧ w.frozen? ⟨xp, 4, none⟩ = false := by
  unfold World.cell? World.frozen?; rw [h.head]; exact ⟨rfl, rfl, rfl, rfl, rfl, rfl, rfl, rfl, rfl⟩
theorem take_contains (M : List Bool) (b : Bool) (q : Nat) (hq : q < M.length) : (M.take (q + 1)).contains b = ((M.take q).contains b || (b == M.getD q false)) := by
  rw [List.take_succ_eq_append_getElem hq, List.getD_eq_getElem?_getD, List.getElem?_eq_getElem hq]
  show (M.take q ++ [M[q]]).contains b = _
  generalize M.take q = A
  induction A with
  | nil => simp; rfl
  | cons a A ih => rw [List.cons_append, List.contains_cons, ih, List.contains_cons, Bool.or_assoc]
set_option maxRecDepth 100000 in
theorem rquiet_any (h : IsRf w xp xg ph cy re M) : Calls Try.prog 29 #[.pointer (some ⟨xp, 0, none⟩)] w (Ans (.bool (quB ph M)) w) := by
  obtain ⟨c0, c1, c2, c3, c4, f1, f2, f3, f4⟩ := h.c
  have hcell := Lib.hid (fun i (hi : i < M.length) => cell_of (j := i) h.row (bcells_get hi))
  have htk := Lib.hid (fun q (hq : q < M.length) => take_contains M false q hq)
  have hall := Lib.hid (List.take_length (l := M))
  have hs := h.small
  obtain ⟨l, hl⟩ : ∃ l, M.length = l := ⟨_, rfl⟩
  rw [hl] at hcell c0 c4 hs htk hall
  obtain ⟨B, hB⟩ : ∃ B, quB ph M = B := ⟨_, rfl⟩
  rw [hB]
  replace hB := Lib.hid hB
  clear h hl
  go_enter Try.func29, Try.ntmps29
  go_wp2_with fail
  go_loop [3] (fun i => ∃ q : Nat, i = .int .i64 q ∧ q ≤ l ∧ Hid ((M.take q).contains false = false)) (fun i => (l - (RowKit.intOf i).toNat))
  case atStart => exact ⟨0, rfl, by omega, by simp [Hid]⟩
  case round =>
    obtain ⟨q, rfl, q1, hq0⟩ := hrel
    by_cases hq : q < l
    · have i2 : (q : Int) < (l : Int) := by omega
      have i0 : (0 : Int) ≤ (q : Int) := by omega
      have hc := hcell.out q hq
      have ht := htk.out q hq
      rw [hq0.out, Bool.false_or] at ht
      cases hx : M.getD q false with
      | true =>
        rw [hx] at hc ht
        replace ht := Lib.hid ht
        clear hx
        go_wp2_with fail
        go_round
        case rel => exact ⟨q + 1, by go_num, by omega, ht⟩
        case measure => simp [RowKit.intOf]; omega
      | false =>
        rw [hx] at hc ht
        have hBf : Hid (false = B) := by
          show _ = _
          rw [← hB.out]
          unfold quB
          have : M.contains false = true := by
            have : false ∈ M.take (q + 1) := by rw [← List.contains_iff_mem, ht]; rfl
            rw [List.contains_iff_mem]; exact List.mem_of_mem_take this
          rw [this]; simp
        clear hx ht
        go_wp2_with fail
        go_ret
        exact ⟨by rw [← hBf.out]; rfl, 0, rfl⟩
    · obtain rfl : q = l := by omega
      have i2 : ¬ ((q : Int) < (q : Int)) := by omega
      have hBf : Hid ((ph == 1) = B) := by
        show _ = _
        rw [← hB.out]
        unfold quB
        have := hq0.out
        rw [hall.out] at this
        rw [this]; simp
      clear hq0
      go_wp2_with fail
      go_ret
      exact ⟨by rw [← hBf.out]; rfl, 0, rfl⟩
/-- The call answers r; the document's own phases are those then. -/
def TurnsR (r : Value) (w : World) (xp xg : Nat) (ph cy re : Int) (M : List Bool) (e : Ending) (w' : World) : Prop := e = .returned r ∧ ∃ xg', Wrote (home xp xg) w (home xp xg') w' ∧ IsRf w' xp xg' ph cy re M
theorem IsRf.set1 (h : IsRf w p g ph cy re M) (x : Int) : IsRf (w.setCell ⟨p, 1, none⟩ (.int .i64 x)) p g x cy re M :=
  ⟨heap_setCell_same _ p 1 _ _ _ h.head, by rw [Below.heap_setCell _ _ _ _ h.ne]; exact h.row, h.ne, h.pos, h.small⟩
theorem IsRf.set2 (h : IsRf w p g ph cy re M) (x : Int) : IsRf (w.setCell ⟨p, 2, none⟩ (.int .i64 x)) p g ph x re M :=
  ⟨heap_setCell_same _ p 2 _ _ _ h.head, by rw [Below.heap_setCell _ _ _ _ h.ne]; exact h.row, h.ne, h.pos, h.small⟩
theorem IsRf.set3 (h : IsRf w p g ph cy re M) (x : Int) : IsRf (w.setCell ⟨p, 3, none⟩ (.int .i64 x)) p g ph cy x M :=
  ⟨heap_setCell_same _ p 3 _ _ _ h.head, by rw [Below.heap_setCell _ _ _ _ h.ne]; exact h.row, h.ne, h.pos, h.small⟩
theorem IsRf.said (h : IsRf w p g ph cy re M) (k : Nat) (b : Bool) : IsRf (w.setCell ⟨g, k, none⟩ (.bool b)) p g ph cy re (M.set k b) := by
  have hl : (M.set k b).length = M.length := List.length_set
  refine ⟨?_, ?_, h.ne, by rw [hl]; exact h.pos, by rw [hl]; exact h.small⟩
  · rw [hl, Below.heap_setCell _ _ _ _ (fun e => h.ne e.symm)]; exact h.head
  · rw [heap_setCell_same _ g k _ _ _ h.row, bcells_set]
/-- What was said is a row anew. -/
theorem IsRf.anew (h : IsRf w p g ph cy re M) : IsRf ((w.alloc (.cells (bcells (List.replicate M.length false)) 4)).setCell ⟨p, 4, none⟩ (.slice (some ⟨w.heap.size, 0, none⟩) M.length M.length)) p w.heap.size ph cy re (List.replicate M.length false) := by
  have hl : (List.replicate M.length false).length = M.length := List.length_replicate
  have hp : p < w.heap.size := block_lt h.head
  have h2 := h.below (below_alloc (Below.refl w.heap.size w) (.cells (bcells (List.replicate M.length false)) 4))
  refine ⟨?_, ?_, by omega, by rw [hl]; exact h.pos, by rw [hl]; exact h.small⟩
  · rw [heap_setCell_same _ p 4 _ _ _ h2.head, hl]; rfl
  · rw [Below.heap_setCell _ _ _ _ (show w.heap.size ≠ p by omega)]; exact heap_alloc_new _ _
theorem turnsR_no {r : Value} {P : Program} {f : FuncId} {a : Array Value} (h : IsRf w xp xg ph cy re M) (c : Calls P f a w (Ans r w)) : Calls P f a w (TurnsR r w xp xg ph cy re M) :=
  c.mono fun e w' ⟨h1, m, h2⟩ => ⟨h1, xg, by rw [h2]; exact ⟨rfl, rfl, rfl, Nat.le_refl _, fun _ _ _ => rfl, fun _ hk => Or.inl hk⟩, by rw [h2]; exact h.drewN m⟩
theorem b33 : bits .and .i64 3 3 = 3 := by decide +kernel
theorem b43 : bits .and .i64 4 3 = 0 := by decide +kernel
theorem b53 : bits .and .i64 5 3 = 1 := by decide +kernel
theorem b63 : bits .and .i64 6 3 = 2 := by decide +kernel
set_option maxRecDepth 100000 in
theorem rgo_no (h : IsRf w xp xg ph cy re M) (to : Int) (ht : to = 0 ∨ to = 1 ∨ to = 2 ∨ to = 3) (hx : ph ≠ (to + 3) % 4) : Calls Try.prog 19 #[.pointer (some ⟨xp, 0, none⟩), .int .i64 to] w (Ans (.int .i64 5) w) := by
  obtain ⟨c0, c1, c2, c3, c4, f1, f2, f3, f4⟩ := h.c
  have h1 := b33
  have h2 := b43
  have h3 := b53
  have h4 := b63
  clear h
  rcases ht with rfl | rfl | rfl | rfl
  all_goals
    have e : (ph != _) = true := bne_iff_ne.2 hx
    simp only [show ((0 : Int) + 3) % 4 = 3 from rfl, show ((1 : Int) + 3) % 4 = 0 from rfl, show ((2 : Int) + 3) % 4 = 1 from rfl, show ((3 : Int) + 3) % 4 = 2 from rfl] at e
    clear hx
    go_enter Try.func19, Try.ntmps19
    go_wp2_with fail
    go_ret
    exact ⟨rfl, 0, rfl⟩
set_option maxRecDepth 100000 in
theorem rgo_term_no (h : IsRf w xp xg 1 cy re M) (hq : quB 1 M = false) : Calls Try.prog 19 #[.pointer (some ⟨xp, 0, none⟩), .int .i64 2] w (Ans (.int .i64 5) w) := by
  obtain ⟨c0, c1, c2, c3, c4, f1, f2, f3, f4⟩ := h.c
  have cq := rquiet_any h
  rw [hq] at cq
  have h3 := b53
  clear h hq
  go_enter Try.func19, Try.ntmps19
  go_wp2_with fail
  with_reducible refine Calls.mono (cq) ?_
  rintro e w1 ⟨rfl, m, rfl⟩
  go_wp2_with fail
  go_ret
  exact ⟨rfl, m, rfl⟩
set_option maxRecDepth 100000 in
theorem rgo_term (h : IsRf w xp xg 1 cy re M) (hq : quB 1 M = true) : Calls Try.prog 19 #[.pointer (some ⟨xp, 0, none⟩), .int .i64 2] w (TurnsR (.int .i64 0) w xp xg 2 cy re M) := by
  have cq := rquiet_any h
  rw [hq] at cq
  have key := Lib.hid (fun m => And.intro (h.drewN m).c ((h.drewN m).set1 2))
  have h3 := b53
  have c1 := h.c.2.1
  clear h hq
  unfold TurnsR
  go_enter Try.func19, Try.ntmps19
  go_wp2_with fail
  with_reducible refine Calls.mono (cq) ?_
  rintro e w1 ⟨rfl, m, rfl⟩
  obtain ⟨⟨c0, c1', c2, c3, c4, f1, f2, f3, f4⟩, hk⟩ := key.out m
  replace hk := Lib.hid hk
  clear cq c1
  go_wp2_with fail
  go_ret
  exact ⟨rfl, xg, wrote_drewN (wrote_setCell (H := home xp xg) (a := ⟨xp, 1, none⟩) (u := .int .i64 2) rfl rfl rfl rfl (Or.inl rfl)), hk.out⟩
set_option maxRecDepth 100000 in
theorem rgo_mid (h : IsRf w xp xg ph cy re M) (to : Int) (ht : (ph = 2 ∧ to = 3) ∨ (ph = 3 ∧ to = 0)) : Calls Try.prog 19 #[.pointer (some ⟨xp, 0, none⟩), .int .i64 to] w (TurnsR (.int .i64 0) w xp xg to cy re M) := by
  obtain ⟨c0, c1, c2, c3, c4, f1, f2, f3, f4⟩ := h.c
  have h1 := b33
  have h4 := b63
  have hk := Lib.hid (h.set1 to)
  clear h
  unfold TurnsR
  rcases ht with ⟨rfl, rfl⟩ | ⟨rfl, rfl⟩
  all_goals
    go_enter Try.func19, Try.ntmps19
    go_wp2_with fail
    go_ret
    exact ⟨rfl, xg, wrote_setCell (H := home xp xg) (a := ⟨xp, 1, none⟩) (u := _) rfl rfl rfl rfl (Or.inl rfl), hk.out⟩
set_option maxRecDepth 100000 in
theorem rgo_mark (h : IsRf w xp xg 0 cy re M) (hc : 0 ≤ cy ∧ cy ≤ 1000000) : Calls Try.prog 19 #[.pointer (some ⟨xp, 0, none⟩), .int .i64 1] w (TurnsR (.int .i64 0) w xp xg 1 (cy + 1) 0 (List.replicate M.length false)) := by
  obtain ⟨hc0, hc1⟩ := hc
  obtain ⟨c0, c1, c2, c3, c4, f1, f2, f3, f4⟩ := h.c
  have h2 := b43
  have hs := h.small
  have hmk := run_make_row' (P := Try.prog) 28 4 (.bool false) 1 Try.underlying28 infoB rfl .i64 .i64 M.length (by omega) (by omega)
  rw [made_bools] at hmk
  have hpl : xp < w.heap.size := block_lt h.head
  have key : Hid (TurnsR (.int .i64 0) w xp xg 1 (cy + 1) 0 (List.replicate M.length false) (.returned (.int .i64 0)) (((((w.setCell ⟨xp, 1, none⟩ (.int .i64 1)).setCell ⟨xp, 2, none⟩ (.int .i64 (cy + 1))).setCell ⟨xp, 4, none⟩ (.slice (some ⟨w.heap.size, 0, none⟩) M.length M.length)).setCell ⟨xp, 3, none⟩ (.int .i64 0)).alloc (.cells (bcells (List.replicate M.length false)) 4))) := by
    have k3 := (((h.set1 1).set2 (cy + 1)).anew).set3 0
    have hsz : ((w.setCell ⟨xp, 1, none⟩ (.int .i64 1)).setCell ⟨xp, 2, none⟩ (.int .i64 (cy + 1))).heap.size = w.heap.size := by simp [World.setCell]
    rw [hsz, World.setCell_alloc_past _ _ _ _ (by rw [hsz]; exact hpl), World.setCell_alloc_past _ _ _ _ (by simpa [World.setCell] using hpl)] at k3
    refine ⟨rfl, w.heap.size, ?_, k3⟩
    have hw : Wrote (home xp xg) w (home xp xg) ((((w.setCell ⟨xp, 1, none⟩ (.int .i64 1)).setCell ⟨xp, 2, none⟩ (.int .i64 (cy + 1))).setCell ⟨xp, 4, none⟩ (.slice (some ⟨w.heap.size, 0, none⟩) M.length M.length)).setCell ⟨xp, 3, none⟩ (.int .i64 0)) := (((w0 _ _ _).trans (w0 _ _ _)).trans (w0 _ _ _)).trans (w0 _ _ _)
    have hb := below_alloc (Below.refl _ ((((w.setCell ⟨xp, 1, none⟩ (.int .i64 1)).setCell ⟨xp, 2, none⟩ (.int .i64 (cy + 1))).setCell ⟨xp, 4, none⟩ (.slice (some ⟨w.heap.size, 0, none⟩) M.length M.length)).setCell ⟨xp, 3, none⟩ (.int .i64 0))) (.cells (bcells (List.replicate M.length false)) 4)
    exact ⟨hb.os.trans hw.os, hb.tape.trans hw.tape, hb.output.trans hw.output, Nat.le_trans hw.size hb.size, fun k hk hn => (hb.block k (Nat.lt_of_lt_of_le hk hw.size)).trans (hw.block k hk hn), fun k hk => hk.elim (fun e => Or.inl (Or.inl e)) (fun e => Or.inr (by omega))⟩
  clear h
  go_enter Try.func19, Try.ntmps19
  go_wp2_with fail
  go_ret
  exact key.out
theorem rgo_all (h : IsRf w xp xg ph cy re M) (to : Int) (ht : to = 0 ∨ to = 1 ∨ to = 2 ∨ to = 3) (hc : 0 ≤ cy ∧ cy ≤ 1000000) : Calls Try.prog 19 #[.pointer (some ⟨xp, 0, none⟩), .int .i64 to] w (TurnsR (.int .i64 (gR (gOk to ph M))) w xp xg (gP (gOk to ph M) to ph) (gC (gOk to ph M) to cy) (gE (gOk to ph M) to re) (gM (gOk to ph M) to M)) := by
  by_cases hx : ph = (to + 3) % 4
  · rcases ht with rfl | rfl | rfl | rfl
    · obtain rfl : ph = 3 := hx
      exact rgo_mid h 0 (Or.inr ⟨rfl, rfl⟩)
    · obtain rfl : ph = 0 := hx
      exact rgo_mark h hc
    · obtain rfl : ph = 1 := hx
      cases e : quB 1 M with
      | true =>
        rw [show gOk 2 1 M = true by unfold gOk; rw [e]; rfl]
        exact rgo_term h e
      | false =>
        rw [show gOk 2 1 M = false by unfold gOk; rw [e]; rfl]
        exact turnsR_no h (rgo_term_no h e)
    · obtain rfl : ph = 2 := hx
      exact rgo_mid h 3 (Or.inl ⟨rfl, rfl⟩)
  · rw [show gOk to ph M = false by unfold gOk; rw [show (ph == (to + 3) % 4) = false by simpa using hx]; rfl]
    exact turnsR_no h (rgo_no h to ht hx)
set_option maxRecDepth 100000 in
theorem rsay_no (h : IsRf w xp xg ph cy re M) (k : Int) (a b : Bool) (hk : (k < 0 ∨ (M.length : Int) ≤ k) ∨ ph ≠ 1) : Calls Try.prog 24 #[.pointer (some ⟨xp, 0, none⟩), .int .i64 k, .bool a, .bool b] w (Ans (.int .i64 (if k < 0 ∨ (M.length : Int) ≤ k then 1 else 5)) w) := by
  obtain ⟨c0, c1, c2, c3, c4, f1, f2, f3, f4⟩ := h.c
  generalize M.length = l at *
  clear h
  by_cases h1 : k < 0
  · rw [if_pos (Or.inl h1)]
    clear hk
    go_enter Try.func24, Try.ntmps24
    go_wp2_with fail
    go_ret
    exact ⟨rfl, 0, rfl⟩
  · by_cases h2 : (l : Int) ≤ k
    · rw [if_pos (Or.inr h2)]
      clear hk
      go_enter Try.func24, Try.ntmps24
      go_wp2_with fail
      go_ret
      exact ⟨rfl, 0, rfl⟩
    · rw [if_neg (by omega)]
      have h3 : (ph != 1) = true := by
        rcases hk with h | h
        · omega
        · simpa using h
      clear hk
      go_enter Try.func24, Try.ntmps24
      go_wp2_with fail
      go_ret
      exact ⟨rfl, 0, rfl⟩
set_option maxRecDepth 100000 in
theorem rsay_yes (h : IsRf w xp xg 1 cy re M) (k : Nat) (hk : k < M.length) : Calls Try.prog 24 #[.pointer (some ⟨xp, 0, none⟩), .int .i64 k, .bool true, .bool false] w (TurnsR (.int .i64 0) w xp xg 1 cy re (M.set k true)) := by
  obtain ⟨c0, c1, c2, c3, c4, f1, f2, f3, f4⟩ := h.c
  have hs := h.small
  have k0 : (0 : Int) ≤ (k : Int) := by omega
  have g0 := cell_of h.row (bcells_get hk)
  have g1 := frozen_of_row w xg k _ _ h.row
  have h4 := Lib.hid (h.said k true)
  have hw := Lib.hid (wg (p := xp) (g := xg) w k (.bool true))
  unfold TurnsR
  generalize M.set k true = N at *
  generalize M.length = l at *
  generalize M.getD k false = b at *
  clear h
  go_enter Try.func24, Try.ntmps24
  go_wp2_with fail
  go_ret
  exact ⟨rfl, xg, hw.out, h4.out⟩
/-- The first q are forgotten. -/
def gone (M : List Bool) (q : Nat) : List Bool := List.replicate q false ++ M.drop q
theorem gone_len {M : List Bool} {q : Nat} (h : q ≤ M.length) : (gone M q).length = M.length := by unfold gone; simp; omega
theorem gone_at {M : List Bool} {q : Nat} (h : q < M.length) : (gone M q).getD q false = M.getD q false := by
  unfold gone
  rw [List.getD_eq_getElem?_getD, List.getD_eq_getElem?_getD, List.getElem?_append_right (by simp), List.length_replicate, Nat.sub_self, List.getElem?_drop, Nat.add_zero]
theorem gone_set {M : List Bool} {q : Nat} (h : q < M.length) : (gone M q).set q false = gone M (q + 1) := by
  unfold gone
  rw [List.set_append_right _ _ (by simp), List.length_replicate, Nat.sub_self, List.drop_eq_getElem_cons h, List.set_cons_zero, List.replicate_succ', List.append_assoc]; rfl
theorem gone_all (M : List Bool) : gone M M.length = List.replicate M.length false := by unfold gone; rw [List.drop_length, List.append_nil]
set_option maxRecDepth 100000 in
set_option maxHeartbeats 1000000 in
theorem rsay_forget (h : IsRf w xp xg 1 cy re M) (k : Nat) (e f : Bool) (hk : k < M.length) (hn : (e && !f) = false) (hr : 0 ≤ re ∧ re ≤ 1000000) : Calls Try.prog 24 #[.pointer (some ⟨xp, 0, none⟩), .int .i64 k, .bool e, .bool f] w (TurnsR (.int .i64 0) w xp xg 1 cy (if M.contains true then re + 1 else re) (List.replicate M.length false)) := by
  obtain ⟨hr0, hr1⟩ := hr
  obtain ⟨c0, c1, c2, c3, c4, f1, f2, f3, f4⟩ := h.c
  have hs := h.small
  have k0 : (0 : Int) ≤ (k : Int) := by omega
  have hef : (e = false) ∨ (e = true ∧ f = true) := by cases e <;> cases f <;> simp at hn ⊢
  have htk := Lib.hid (fun q (hq : q < M.length) => take_contains M true q hq)
  have hga := Lib.hid (fun q (hq : q < M.length) => gone_at (M := M) hq)
  have hgs := Lib.hid (fun q (hq : q < M.length) => gone_set (M := M) hq)
  have hgl := Lib.hid (fun q (hq : q ≤ M.length) => gone_len (M := M) hq)
  have hall := Lib.hid (And.intro (List.take_length (l := M)) (gone_all M))
  obtain ⟨l, hl⟩ : ∃ l, M.length = l := ⟨_, rfl⟩
  have h0 : Hid (Wrote (home xp xg) w (home xp xg) w ∧ IsRf w xp xg 1 cy re (gone M 0)) := ⟨Wrote.refl _ _, h⟩
  rw [hl] at htk hga hgs hgl hall hk hs c0 c4 ⊢
  unfold TurnsR
  obtain ⟨R, hR⟩ : ∃ R, (if M.contains true then re + 1 else re) = R := ⟨_, rfl⟩
  rw [hR]
  replace hR := Lib.hid hR
  clear hn h hl
  rcases hef with rfl | ⟨rfl, rfl⟩
  all_goals
    go_enter Try.func24, Try.ntmps24
    go_wp2_with fail
    clear c0 c1 c2 c3 c4 f1 f2 f3 f4
    go_loopw [9, 10] (fun a i wr => ∃ (B : Bool) (q : Nat), a = .bool B ∧ i = .int .i64 q ∧ q ≤ l ∧ Hid ((M.take q).contains true = B) ∧ Hid (Wrote (home xp xg) w (home xp xg) wr ∧ IsRf wr xp xg 1 cy re (gone M q))) (fun _ i _ => (l - (RowKit.intOf i).toNat))
    case atStart => exact ⟨false, 0, rfl, rfl, by omega, by simp [Hid], h0⟩
    case round =>
      obtain ⟨B, q, rfl, rfl, q1, hB, hI⟩ := hrel
      clear h0
      obtain ⟨hw, hI⟩ := hI
      obtain ⟨c0, c1, c2, c3, c4, f1, f2, f3, f4⟩ := hI.c
      have hlg := hgl.out q (by omega)
      rw [hlg] at c0 c4
      by_cases hq : q < l
      · have i2 : (q : Int) < (l : Int) := by omega
        have i0 : (0 : Int) ≤ (q : Int) := by omega
        have d0 := cell_of hI.row (bcells_get (by rw [hlg]; exact hq))
        have d1 := frozen_of_row wr xg q _ _ hI.row
        have hB2 := htk.out q hq
        rw [hB.out] at hB2
        rw [hga.out q hq] at d0
        have hnx := hI.said q false
        rw [hgs.out q hq] at hnx
        have hnx2 : Hid (Wrote (home xp xg) w (home xp xg) (wr.setCell ⟨xg, q, none⟩ (.bool false)) ∧ IsRf (wr.setCell ⟨xg, q, none⟩ (.bool false)) xp xg 1 cy re (gone M (q + 1))) := ⟨hw.trans (wg _ _ _), hnx⟩
        generalize M.getD q false = x at *
        replace hB2 := Lib.hid hB2
        clear hI hnx hw hB hlg
        cases B with
        | true =>
          go_wp2_with fail
          go_roundw
          case rel => exact ⟨true, q + 1, rfl, by go_num, by omega, hB2, hnx2⟩
          case measure => simp [RowKit.intOf]; omega
        | false =>
          go_wp2_with fail
          go_roundw
          case rel => exact ⟨x, q + 1, rfl, by go_num, by omega, by have := hB2.out; show _ = _; cases x <;> simpa using this, hnx2⟩
          case measure => simp [RowKit.intOf]; omega
      · obtain rfl : q = l := by omega
        have i2 : ¬ ((q : Int) < (q : Int)) := by omega
        have hB2 := hB.out
        rw [hall.out.1] at hB2
        rw [hall.out.2] at hI
        cases hBB : B with
        | true =>
          rw [hBB] at hB2
          have hf : Hid (∃ xg', Wrote (home xp xg) w (home xp xg') (wr.setCell ⟨xp, 3, none⟩ (.int .i64 (re + 1))) ∧ IsRf (wr.setCell ⟨xp, 3, none⟩ (.int .i64 (re + 1))) xp xg' 1 cy R (List.replicate q false)) := by
            rw [← hR.out, hB2, if_pos rfl]; exact ⟨xg, hw.trans (w0 _ _ _), hI.set3 (re + 1)⟩
          clear hI hw hB hlg hB2 hBB
          go_wp2_with fail
          go_ret
          exact ⟨rfl, hf.out⟩
        | false =>
          rw [hBB] at hB2
          have hf : Hid (∃ xg', Wrote (home xp xg) w (home xp xg') wr ∧ IsRf wr xp xg' 1 cy R (List.replicate q false)) := by
            rw [← hR.out, hB2, if_neg (by decide)]; exact ⟨xg, hw, hI⟩
          clear hI hw hB hlg hB2 hBB
          go_wp2_with fail
          go_ret
          exact ⟨rfl, hf.out⟩
theorem rsay_all (h : IsRf w xp xg ph cy re M) (k : Int) (a b : Bool) (hr : 0 ≤ re ∧ re ≤ 1000000) : Calls Try.prog 24 #[.pointer (some ⟨xp, 0, none⟩), .int .i64 k, .bool a, .bool b] w (TurnsR (.int .i64 (sR k ph M.length)) w xp xg ph cy (sE k ph re a b M) (sM k ph a b M)) := by
  by_cases h1 : k < 0 ∨ (M.length : Int) ≤ k
  · have e : sR k ph M.length = 1 := by unfold sR; rw [if_pos h1]
    have c := rsay_no h k a b (Or.inl h1)
    rw [if_pos h1] at c
    unfold sE sM
    rw [e, if_neg (by omega), if_neg (by omega)]
    exact turnsR_no h c
  · obtain ⟨j, rfl⟩ : ∃ j : Nat, k = (j : Int) := ⟨k.toNat, by omega⟩
    have hj : j < M.length := by omega
    by_cases h2 : ph = 1
    · subst h2
      have e : sR j 1 M.length = 0 := by unfold sR; rw [if_neg h1, if_neg (by omega)]
      unfold sE sM
      rw [e, if_pos rfl]
      cases hab : (a && !b) with
      | true =>
        have : a = true ∧ b = false := by cases a <;> cases b <;> simp at hab ⊢
        obtain ⟨rfl, rfl⟩ := this
        rw [if_neg (by simp), if_pos rfl, Int.toNat_natCast]
        exact rsay_yes h j hj
      | false =>
        have := rsay_forget h j a b hj hab hr
        cases hc : M.contains true with
        | true =>
          rw [hc, if_pos rfl] at this
          rw [if_pos (⟨rfl, rfl, rfl⟩ : (0 : Int) = 0 ∧ false = false ∧ true = true), if_neg (by decide : ¬ (false = true))]; exact this
        | false =>
          rw [hc, if_neg (by decide : ¬ (false = true))] at this
          rw [if_neg (by simp : ¬ ((0 : Int) = 0 ∧ false = false ∧ false = true)), if_neg (by decide : ¬ (false = true))]; exact this
    · have e : sR j ph M.length = 5 := by unfold sR; rw [if_neg h1, if_pos h2]
      have c := rsay_no h j a b (Or.inr h2)
      rw [if_neg h1] at c
      unfold sE sM
      rw [e, if_neg (by omega), if_neg (by omega)]
      exact turnsR_no h c
end Ph
end Go.Proofs.Ytikpoldmpmmpiab
