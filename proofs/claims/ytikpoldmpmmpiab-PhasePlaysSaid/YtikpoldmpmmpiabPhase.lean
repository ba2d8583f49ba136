/- The collector's phases as they lie, and what the calls of package phase answer of them and make of them. -/
import Derived.Test.YtikpoldmpmmpiabHome
import Derived.Lib.SliceRun
import Derived.Deep.OwnRows
import Derived.BigFrame
namespace Go.Proofs.Ytikpoldmpmmpiab
open Go.RowKit Go.Lib Fx Ho
set_option linter.unusedVariables false
namespace Ph
/-- Bools as the cells of a slice. -/
abbrev bcells (M : List Bool) : Array Value := (M.map Value.bool).toArray
theorem bcells_set (M : List Bool) (k : Nat) (b : Bool) : (bcells M).setIfInBounds k (.bool b) = bcells (M.set k b) := by
  unfold bcells; rw [List.setIfInBounds_toArray, List.map_set]
theorem bcells_get {M : List Bool} {i : Nat} (h : i < M.length) : (bcells M)[i]? = some (.bool (M.getD i false)) := by
  unfold bcells
  rw [List.getElem?_toArray, List.getElem?_map, List.getD_eq_getElem?_getD, List.getElem?_eq_getElem h]; rfl
theorem setCells_row {b : Nat} {t : TypeId} : ∀ (vs : List Value) (o : Nat) (w : World) (A : Array Value), w.heap[b]? = some (.cells A t (0, 0)) → o + vs.length = A.size →
    (w.setCells b o vs).heap[b]? = some (.cells (A.toList.take o ++ vs).toArray t (0, 0))
  | [], o, w, A, h, e => by
    have e : o = A.toList.length := by simpa using e
    rw [e, List.take_length, List.append_nil]; exact h
  | v :: r, o, w, A, h, e => by
    have h1 := heap_setCell_same w b o A t v h
    have hl : o < A.toList.length := by simp at e ⊢; omega
    have := setCells_row r (o + 1) (w.setCell ⟨b, o, none⟩ v) (A.setIfInBounds o v) (by simpa using h1) (by simp at e ⊢; omega)
    show ((w.setCell ⟨b, o, none⟩ v).setCells b (o + 1) r).heap[b]? = _
    rw [this]
    congr 3
    rw [Array.toList_setIfInBounds, List.take_succ_eq_append_getElem (by simpa using hl), List.append_assoc]
    simp [List.take_set_of_le]
theorem wrote_setCells {H : Home} {w : World} {b : Nat} (hb : H b) : ∀ (vs : List Value) (o : Nat), Wrote H w H (w.setCells b o vs) := by
  intro vs
  induction vs generalizing w with
  | nil => intro o; exact Wrote.refl _ _
  | cons v r ih => intro o; exact (wrote_setCell (a := ⟨b, o, none⟩) (u := v) rfl rfl rfl rfl hb).trans (ih (o + 1))

variable {w w' : World} {p g : Nat} {ph cy re : Int} {M : List Bool} {H H' S : Home}
/-- The call answers a number that is not below 0 just where c. -/
def Idx (c : Bool) (w : World) (e : Ending) (w' : World) : Prop := ∃ k : Int, e = .returned (.int .i64 k) ∧ decide (0 ≤ k) = c ∧ ∃ m, w' = w.drewN m
theorem idx_mk {c : Bool} {w : World} {k : Int} {m : Nat} (h : decide (0 ≤ k) = c) : Idx c w (.returned (.int .i64 k)) (w.drewN m) := ⟨k, rfl, h, m, rfl⟩
set_option maxRecDepth 100000 in
/-- Where a bool stands first in a row. -/
theorem index_any {cap : Nat} (b : Bool) (hr : w.heap[g]? = some (.cells (bcells M) 4 (0, 0))) (hm : M.length ≤ 1000000) :
    Calls Try.prog 96 #[.slice (some ⟨g, 0, none⟩) M.length cap, .bool b] w (Idx (M.contains b) w) := by
  have hcell := Lib.hid (fun i (h : i < M.length) => cell_of (j := i) hr (bcells_get h))
  obtain ⟨l, hl⟩ : ∃ l, M.length = l := ⟨_, rfl⟩
  obtain ⟨C, hC⟩ : ∃ C, M.contains b = C := ⟨_, rfl⟩
  rw [hl] at hcell hm ⊢
  rw [hC]
  have hl := Lib.hid hl
  replace hC := Lib.hid hC
  clear hr
  go_enter Try.func96, Try.ntmps96
  go_wp2_with fail
  go_loopw [8] (fun i wr => ∃ q : Nat, i = .int .i64 q ∧ q ≤ l ∧ Hid (∀ j, j < q → M.getD j false ≠ b) ∧ ∃ c, wr = w.drewN c) (fun i _ => (l - (RowKit.intOf i).toNat))
  case atStart => exact ⟨0, rfl, by omega, fun j hj => absurd hj (by omega), 0, rfl⟩
  case round =>
    obtain ⟨q, rfl, q1, hno, c, rfl⟩ := hrel
    by_cases hq : q < l
    · have i2 : (q : Int) < (l : Int) := by omega
      have i0 : (0 : Int) ≤ (q : Int) := by omega
      have hc := hcell.out q hq
      obtain ⟨x, hx⟩ : ∃ x, M.getD q false = x := ⟨_, rfl⟩
      rw [hx] at hc
      have hx := Lib.hid hx
      by_cases he : b = x
      · have hin : Hid (decide ((0 : Int) ≤ (q : Int)) = C) := by
          show _ = _
          rw [← hC.out, decide_eq_true i0, eq_comm, List.contains_iff_mem, he]
          have := hl.out
          rw [← hx.out, List.getD_eq_getElem?_getD, List.getElem?_eq_getElem (by omega)]
          exact List.getElem_mem _
        subst he
        clear hno
        go_wp2_with fail
        go_ret
        exact idx_mk hin.out
      · have he2 : (b == x) = false := by simpa using he
        have hno2 : Hid (∀ j, j < q + 1 → M.getD j false ≠ b) := fun j hj => by
          rcases Nat.lt_or_ge j q with h | h
          · exact hno.out j h
          · obtain rfl : j = q := by omega
            rw [hx.out]; exact fun h => he h.symm
        clear hno he
        go_wp2_with fail
        go_roundw
        case rel => exact ⟨q + 1, by go_num, by omega, hno2, c, rfl⟩
        case measure => simp [RowKit.intOf]; omega
    · obtain rfl : q = l := by omega
      have i2 : ¬ ((q : Int) < (q : Int)) := by omega
      have hin : Hid (decide ((0 : Int) ≤ -1) = C) := by
        show _ = _
        rw [← hC.out, decide_eq_false (by omega), eq_comm]
        cases h : M.contains b with
        | false => rfl
        | true =>
          exfalso
          rw [List.contains_iff_mem] at h
          obtain ⟨j, hj, e⟩ := List.getElem_of_mem h
          have := hl.out
          refine hno.out j (by omega) ?_
          rw [List.getD_eq_getElem?_getD, List.getElem?_eq_getElem hj]; exact e
      clear hno
      go_wp2_with fail
      go_ret
      exact idx_mk hin.out
set_option maxRecDepth 100000 in
theorem contains_any {cap : Nat} (b : Bool) (hr : w.heap[g]? = some (.cells (bcells M) 4 (0, 0))) (hm : M.length ≤ 1000000) :
    Calls Try.prog 78 #[.slice (some ⟨g, 0, none⟩) M.length cap, .bool b] w (Ans (.bool (M.contains b)) w) := by
  have ci := index_any (cap := cap) b hr hm
  generalize M.contains b = c at *
  generalize M.length = l at *
  clear hr
  go_enter Try.func78, Try.ntmps78
  go_wp2_with fail
  with_reducible refine Calls.mono (ci) ?_
  rintro e w1 ⟨k, rfl, hk, m, rfl⟩
  clear ci
  go_wp2_with fail
  go_ret
  exact ⟨by rw [← hk]; rfl, m, rfl⟩
/-- Phases at p, what was said in the block g. -/
structure IsPh (w : World) (p g : Nat) (ph cy re : Int) (M : List Bool) : Prop where
  head : w.heap[p]? = some (.cells #[.int .i64 ph, .int .i64 cy, .int .i64 re, .slice (some ⟨g, 0, none⟩) M.length M.length] 102 (0, 0))
  row : w.heap[g]? = some (.cells (bcells M) 4 (0, 0))
  ne : g ≠ p
  pos : 0 < M.length
  small : M.length ≤ 64
def home (p g : Nat) : Home := fun k => k = p ∨ k = g
theorem IsPh.wrote (h : IsPh w p g ph cy re M) (ht : Wrote H w H' w') (ho : Off (home p g) H) : IsPh w' p g ph cy re M :=
  ⟨by rw [ht.block p (block_lt h.head) (fun h' => ho p (Or.inl rfl) h')]; exact h.head, by rw [ht.block g (block_lt h.row) (fun h' => ho g (Or.inr rfl) h')]; exact h.row, h.ne, h.pos, h.small⟩
theorem IsPh.below (h : IsPh w p g ph cy re M) (hb : Below w.heap.size w w') : IsPh w' p g ph cy re M := h.wrote (H := fun _ => False) (Wrote.of_below hb) (fun _ _ h => h)
theorem IsPh.lt (h : IsPh w p g ph cy re M) : ∀ k, home p g k → k < w.heap.size := fun k hk => hk.elim (fun e => e ▸ block_lt h.head) (fun e => e ▸ block_lt h.row)
theorem IsPh.c (h : IsPh w p g ph cy re M) : w.cell? ⟨p, 0, none⟩ = some (.int .i64 ph) ∧ w.cell? ⟨p, 1, none⟩ = some (.int .i64 cy) ∧ w.cell? ⟨p, 2, none⟩ = some (.int .i64 re) ∧ w.cell? ⟨p, 3, none⟩ = some (.slice (some ⟨g, 0, none⟩) M.length M.length) ∧
    w.frozen? ⟨p, 0, none⟩ = false ∧ w.frozen? ⟨p, 1, none⟩ = false ∧ w.frozen? ⟨p, 2, none⟩ = false := by
  unfold World.cell? World.frozen?; rw [h.head]; exact ⟨rfl, rfl, rfl, rfl, rfl, rfl, rfl⟩
/-- The call answers r; the phases are those then. -/
def Turns (r : Value) (w : World) (p g : Nat) (ph cy re : Int) (M : List Bool) (e : Ending) (w' : World) : Prop := e = .returned r ∧ Wrote (home p g) w (home p g) w' ∧ IsPh w' p g ph cy re M
set_option maxRecDepth 100000 in
theorem phase_any (h : IsPh w p g ph cy re M) : Calls Try.prog 25 #[.pointer (some ⟨p, 0, none⟩)] w (Ans (.int .i64 ph) w) := by
  obtain ⟨c0, c1, c2, c3, f0, f1, f2⟩ := h.c
  clear h
  go_enter Try.func25, Try.ntmps25
  go_wp2_with fail
  go_ret
  exact ⟨rfl, 0, rfl⟩
set_option maxRecDepth 100000 in
theorem cycle_any (h : IsPh w p g ph cy re M) : Calls Try.prog 26 #[.pointer (some ⟨p, 0, none⟩)] w (Ans (.int .i64 cy) w) := by
  obtain ⟨c0, c1, c2, c3, f0, f1, f2⟩ := h.c
  clear h
  go_enter Try.func26, Try.ntmps26
  go_wp2_with fail
  go_ret
  exact ⟨rfl, 0, rfl⟩
set_option maxRecDepth 100000 in
theorem restarts_any (h : IsPh w p g ph cy re M) : Calls Try.prog 27 #[.pointer (some ⟨p, 0, none⟩)] w (Ans (.int .i64 re) w) := by
  obtain ⟨c0, c1, c2, c3, f0, f1, f2⟩ := h.c
  clear h
  go_enter Try.func27, Try.ntmps27
  go_wp2_with fail
  go_ret
  exact ⟨rfl, 0, rfl⟩
/-- Is it Mark, and have all said so? -/
def quB (ph : Int) (M : List Bool) : Bool := (ph == 1) && !M.contains false
set_option maxRecDepth 100000 in
theorem quiet_any (h : IsPh w p g ph cy re M) : Calls Try.prog 28 #[.pointer (some ⟨p, 0, none⟩)] w (Ans (.bool (quB ph M)) w) := by
  obtain ⟨c0, c1, c2, c3, f0, f1, f2⟩ := h.c
  have cc := contains_any (cap := M.length) false h.row (by have := h.small; omega)
  unfold quB
  generalize M.contains false = c at *
  generalize M.length = l at *
  clear h
  by_cases e : ph = 1
  · subst e
    go_enter Try.func28, Try.ntmps28
    go_wp2_with fail
    with_reducible refine Calls.mono (cc) ?_
    rintro e w1 ⟨rfl, m, rfl⟩
    go_wp2_with fail
    go_ret
    exact ⟨rfl, m, rfl⟩
  · have e2 : (ph == 1) = false := by simpa using e
    rw [e2]
    clear e
    go_enter Try.func28, Try.ntmps28
    go_wp2_with fail
    go_ret
    exact ⟨rfl, 0, rfl⟩
theorem zeroB (w : World) : (zeroValue 4).run Try.prog w = .ok (.bool false) w := by kernel_rfl
/-- What 'clear' makes of what was said. -/
theorem clear_said {W : World} (hr : W.heap[g]? = some (.cells (bcells M) 4 (0, 0))) (hp : 0 < M.length) (cap : Nat) :
    ∀ ty, (Builtin.clear_ #[28] ty #[.slice (some ⟨g, 0, none⟩) M.length cap]).run Try.prog W = .ok (.tuple #[]) (W.setCells g 0 (List.replicate M.length (.bool false))) :=
  fun ty => Lib.run_clear_slice W 28 4 ty (.bool false) Try.underlying28 zeroB rfl rfl g 0 M.length cap hp
    (fun j hj => by rw [Nat.zero_add, cell_of hr (bcells_get hj)]; rfl) (fun j hj => frozen_of_row W g _ _ _ hr)
theorem cleared {W : World} (hr : W.heap[g]? = some (.cells (bcells M) 4 (0, 0))) :
    (W.setCells g 0 (List.replicate M.length (.bool false))).heap[g]? = some (.cells (bcells (List.replicate M.length false)) 4 (0, 0)) := by
  have := setCells_row (List.replicate M.length (.bool false)) 0 W _ hr (by simp)
  rw [this]; simp [bcells]
theorem setCells_other {b : Nat} {k : Nat} (hk : k ≠ b) : ∀ (vs : List Value) (o : Nat) (w : World), (w.setCells b o vs).heap[k]? = w.heap[k]?
  | [], o, w => rfl
  | v :: r, o, w => by
    show ((w.setCell ⟨b, o, none⟩ v).setCells b (o + 1) r).heap[k]? = _
    rw [setCells_other hk r]
    exact Below.heap_setCell _ _ _ _ hk
/-- What is stored beside. -/
theorem IsPh.set0 (h : IsPh w p g ph cy re M) (x : Int) : IsPh (w.setCell ⟨p, 0, none⟩ (.int .i64 x)) p g x cy re M :=
  ⟨heap_setCell_same _ p 0 _ _ _ h.head, by rw [Below.heap_setCell _ _ _ _ h.ne]; exact h.row, h.ne, h.pos, h.small⟩
theorem IsPh.set1 (h : IsPh w p g ph cy re M) (x : Int) : IsPh (w.setCell ⟨p, 1, none⟩ (.int .i64 x)) p g ph x re M :=
  ⟨heap_setCell_same _ p 1 _ _ _ h.head, by rw [Below.heap_setCell _ _ _ _ h.ne]; exact h.row, h.ne, h.pos, h.small⟩
theorem IsPh.set2 (h : IsPh w p g ph cy re M) (x : Int) : IsPh (w.setCell ⟨p, 2, none⟩ (.int .i64 x)) p g ph cy x M :=
  ⟨heap_setCell_same _ p 2 _ _ _ h.head, by rw [Below.heap_setCell _ _ _ _ h.ne]; exact h.row, h.ne, h.pos, h.small⟩
theorem IsPh.said (h : IsPh w p g ph cy re M) (k : Nat) (b : Bool) : IsPh (w.setCell ⟨g, k, none⟩ (.bool b)) p g ph cy re (M.set k b) := by
  have hl : (M.set k b).length = M.length := List.length_set
  refine ⟨?_, ?_, h.ne, by rw [hl]; exact h.pos, by rw [hl]; exact h.small⟩
  · rw [hl, Below.heap_setCell _ _ _ _ (fun e => h.ne e.symm)]; exact h.head
  · rw [heap_setCell_same _ g k _ _ _ h.row, bcells_set]
theorem IsPh.cleared (h : IsPh w p g ph cy re M) : IsPh (w.setCells g 0 (List.replicate M.length (.bool false))) p g ph cy re (List.replicate M.length false) := by
  have hl : (List.replicate M.length false).length = M.length := List.length_replicate
  refine ⟨?_, ?_, h.ne, by rw [hl]; exact h.pos, by rw [hl]; exact h.small⟩
  · rw [hl, setCells_other (fun e => h.ne e.symm)]; exact h.head
  · exact Ph.cleared h.row
theorem w0 (w : World) (j : Nat) (v : Value) : Wrote (home p g) w (home p g) (w.setCell ⟨p, j, none⟩ v) := wrote_setCell (a := ⟨p, j, none⟩) (u := v) rfl rfl rfl rfl (Or.inl rfl)
theorem wg (w : World) (j : Nat) (v : Value) : Wrote (home p g) w (home p g) (w.setCell ⟨g, j, none⟩ v) := wrote_setCell (a := ⟨g, j, none⟩) (u := v) rfl rfl rfl rfl (Or.inr rfl)
theorem wgs (w : World) (vs : List Value) : Wrote (home p g) w (home p g) (w.setCells g 0 vs) := wrote_setCells (Or.inr rfl) vs 0
set_option maxRecDepth 100000 in
/-- A phase that is not the one that may be left. -/
theorem leave_no (h : IsPh w p g ph cy re M) (x : Int) (hx : ph ≠ x) : Calls Try.prog 77 #[.pointer (some ⟨p, 0, none⟩), .int .i64 x] w (Ans (.int .i64 5) w) := by
  obtain ⟨c0, c1, c2, c3, f0, f1, f2⟩ := h.c
  have e : (ph != x) = true := by simpa using hx
  clear h hx
  go_enter Try.func77, Try.ntmps77
  go_wp2_with fail
  go_ret
  exact ⟨rfl, 0, rfl⟩
set_option maxRecDepth 100000 in
/-- Off is left: a cycle begins. -/
theorem leave_off (h : IsPh w p g 0 cy re M) (hc : 0 ≤ cy ∧ cy ≤ 1000000) : Calls Try.prog 77 #[.pointer (some ⟨p, 0, none⟩), .int .i64 0] w (Turns (.int .i64 0) w p g 1 (cy + 1) 0 (List.replicate M.length false)) := by
  obtain ⟨hc0, hc1⟩ := hc
  obtain ⟨c0, c1, c2, c3, f0, f1, f2⟩ := h.c
  have h2 := (h.set1 (cy + 1)).set2 0
  have hcl := clear_said h2.row h2.pos M.length
  have h3 := h2.cleared
  have h4 := Lib.hid (h3.set0 1)
  obtain ⟨d0, d1, d2, d3, e0, e1, e2⟩ := h3.c
  have hw := Lib.hid ((((w0 (p := p) (g := g) w 1 (.int .i64 (cy + 1))).trans (w0 _ 2 (.int .i64 0))).trans (wgs _ (List.replicate M.length (.bool false)))).trans (w0 _ 0 (.int .i64 1)))
  clear h h2 h3
  go_enter Try.func77, Try.ntmps77
  go_wp2_with fail
  go_ret
  exact ⟨rfl, hw.out, h4.out⟩
set_option maxRecDepth 100000 in
/-- Mark or Term is left for the next one. -/
theorem leave_mid (h : IsPh w p g ph cy re M) (hx : ph = 1 ∨ ph = 2) : Calls Try.prog 77 #[.pointer (some ⟨p, 0, none⟩), .int .i64 ph] w (Turns (.int .i64 0) w p g (ph + 1) cy re M) := by
  obtain ⟨c0, c1, c2, c3, f0, f1, f2⟩ := h.c
  have h4 := Lib.hid (h.set0 (ph + 1))
  have hw := Lib.hid (w0 (p := p) (g := g) w 0 (.int .i64 (ph + 1)))
  clear h
  rcases hx with rfl | rfl
  all_goals
    go_enter Try.func77, Try.ntmps77
    go_wp2_with fail
    go_ret
    exact ⟨rfl, hw.out, h4.out⟩
set_option maxRecDepth 100000 in
/-- Sweep is left: Off again. -/
theorem leave_sweep (h : IsPh w p g 3 cy re M) : Calls Try.prog 77 #[.pointer (some ⟨p, 0, none⟩), .int .i64 3] w (Turns (.int .i64 0) w p g 0 cy re M) := by
  obtain ⟨c0, c1, c2, c3, f0, f1, f2⟩ := h.c
  have h4 := Lib.hid (h.set0 0)
  have hw := Lib.hid (w0 (p := p) (g := g) w 0 (.int .i64 0))
  clear h
  go_enter Try.func77, Try.ntmps77
  go_wp2_with fail
  go_ret
  exact ⟨rfl, hw.out, h4.out⟩
set_option maxRecDepth 100000 in
theorem begin_no (h : IsPh w p g ph cy re M) (hx : ph ≠ 0) : Calls Try.prog 18 #[.pointer (some ⟨p, 0, none⟩)] w (Ans (.int .i64 5) w) := by
  have cl := leave_no h 0 hx
  clear h hx
  go_enter Try.func18, Try.ntmps18
  go_wp2_with fail
  with_reducible refine Calls.mono (cl) ?_
  rintro e w1 ⟨rfl, m, rfl⟩
  go_wp2_with fail
  go_ret
  exact ⟨rfl, m, rfl⟩
set_option maxRecDepth 100000 in
theorem begin_off (h : IsPh w p g 0 cy re M) (hc : 0 ≤ cy ∧ cy ≤ 1000000) : Calls Try.prog 18 #[.pointer (some ⟨p, 0, none⟩)] w (Turns (.int .i64 0) w p g 1 (cy + 1) 0 (List.replicate M.length false)) := by
  have cl := leave_off h hc
  clear h hc
  unfold Turns at cl ⊢
  generalize List.replicate M.length false = N at *
  go_enter Try.func18, Try.ntmps18
  go_wp2_with fail
  with_reducible refine Calls.mono (cl) ?_
  rintro e w1 ⟨rfl, k1, k2⟩
  clear cl
  replace k1 := Lib.hid k1
  replace k2 := Lib.hid k2
  go_wp2_with fail
  go_ret
  exact ⟨rfl, k1.out, k2.out⟩
set_option maxRecDepth 100000 in
theorem sweep_no (h : IsPh w p g ph cy re M) (hx : ph ≠ 2) : Calls Try.prog 21 #[.pointer (some ⟨p, 0, none⟩)] w (Ans (.int .i64 5) w) := by
  have cl := leave_no h 2 hx
  clear h hx
  go_enter Try.func21, Try.ntmps21
  go_wp2_with fail
  with_reducible refine Calls.mono (cl) ?_
  rintro e w1 ⟨rfl, m, rfl⟩
  go_wp2_with fail
  go_ret
  exact ⟨rfl, m, rfl⟩
set_option maxRecDepth 100000 in
theorem sweep_yes (h : IsPh w p g 2 cy re M) : Calls Try.prog 21 #[.pointer (some ⟨p, 0, none⟩)] w (Turns (.int .i64 0) w p g 3 cy re M) := by
  have cl := leave_mid h (Or.inr rfl)
  clear h
  go_enter Try.func21, Try.ntmps21
  go_wp2_with fail
  with_reducible refine Calls.mono (cl) ?_
  rintro e w1 ⟨rfl, k1, k2⟩
  clear cl
  replace k1 := Lib.hid k1
  replace k2 := Lib.hid k2
  go_wp2_with fail
  go_ret
  exact ⟨rfl, k1.out, k2.out⟩
set_option maxRecDepth 100000 in
theorem end_no (h : IsPh w p g ph cy re M) (hx : ph ≠ 3) : Calls Try.prog 22 #[.pointer (some ⟨p, 0, none⟩)] w (Ans (.int .i64 5) w) := by
  have cl := leave_no h 3 hx
  clear h hx
  go_enter Try.func22, Try.ntmps22
  go_wp2_with fail
  with_reducible refine Calls.mono (cl) ?_
  rintro e w1 ⟨rfl, m, rfl⟩
  go_wp2_with fail
  go_ret
  exact ⟨rfl, m, rfl⟩
set_option maxRecDepth 100000 in
theorem end_yes (h : IsPh w p g 3 cy re M) : Calls Try.prog 22 #[.pointer (some ⟨p, 0, none⟩)] w (Turns (.int .i64 0) w p g 0 cy re M) := by
  have cl := leave_sweep h
  clear h
  go_enter Try.func22, Try.ntmps22
  go_wp2_with fail
  with_reducible refine Calls.mono (cl) ?_
  rintro e w1 ⟨rfl, k1, k2⟩
  clear cl
  replace k1 := Lib.hid k1
  replace k2 := Lib.hid k2
  go_wp2_with fail
  go_ret
  exact ⟨rfl, k1.out, k2.out⟩
set_option maxRecDepth 100000 in
theorem term_no (h : IsPh w p g ph cy re M) (hq : quB ph M = false) : Calls Try.prog 20 #[.pointer (some ⟨p, 0, none⟩)] w (Ans (.int .i64 5) w) := by
  have cq := quiet_any h
  rw [hq] at cq
  clear h hq
  go_enter Try.func20, Try.ntmps20
  go_wp2_with fail
  with_reducible refine Calls.mono (cq) ?_
  rintro e w1 ⟨rfl, m, rfl⟩
  go_wp2_with fail
  go_ret
  exact ⟨rfl, m, rfl⟩
theorem IsPh.drewN (h : IsPh w p g ph cy re M) (m : Nat) : IsPh (w.drewN m) p g ph cy re M := h.below (below_drewN (Below.refl _ _) m)
theorem wrote_drewN {H H' : Home} {w w' : World} {m : Nat} (h : Wrote H (w.drewN m) H' w') : Wrote H w H' w' := ⟨h.os, h.tape, h.output, h.size, h.block, h.home⟩
set_option maxRecDepth 100000 in
theorem term_yes (h : IsPh w p g 1 cy re M) (hq : quB 1 M = true) : Calls Try.prog 20 #[.pointer (some ⟨p, 0, none⟩)] w (Turns (.int .i64 0) w p g 2 cy re M) := by
  have cq := quiet_any h
  rw [hq] at cq
  have cl := Lib.hid (fun m => leave_mid (h.drewN m) (Or.inl rfl))
  clear h hq
  go_enter Try.func20, Try.ntmps20
  go_wp2_with fail
  with_reducible refine Calls.mono (cq) ?_
  rintro e w1 ⟨rfl, m, rfl⟩
  go_wp2_with fail
  with_reducible refine Calls.mono (cl.out m) ?_
  rintro e w1 ⟨rfl, k1, k2⟩
  clear cl
  replace k1 := Lib.hid (wrote_drewN k1)
  replace k2 := Lib.hid k2
  go_wp2_with fail
  go_ret
  exact ⟨rfl, k1.out, k2.out⟩
set_option maxRecDepth 100000 in
theorem say_arg (h : IsPh w p g ph cy re M) (k : Int) (e f : Bool) (hk : k < 0 ∨ (M.length : Int) ≤ k) : Calls Try.prog 23 #[.pointer (some ⟨p, 0, none⟩), .int .i64 k, .bool e, .bool f] w (Ans (.int .i64 1) w) := by
  obtain ⟨c0, c1, c2, c3, f0, f1, f2⟩ := h.c
  have hs := h.small
  have hp := h.pos
  generalize M.length = l at *
  clear h
  rcases (show k < 0 ∨ (¬ k < 0 ∧ (l : Int) ≤ k) by omega) with h1 | ⟨h1, h2⟩
  all_goals
    clear hk
    go_enter Try.func23, Try.ntmps23
    go_wp2_with fail
    go_ret
    exact ⟨rfl, 0, rfl⟩
set_option maxRecDepth 100000 in
theorem say_state (h : IsPh w p g ph cy re M) (k : Nat) (e f : Bool) (hk : k < M.length) (hx : ph ≠ 1) : Calls Try.prog 23 #[.pointer (some ⟨p, 0, none⟩), .int .i64 k, .bool e, .bool f] w (Ans (.int .i64 5) w) := by
  obtain ⟨c0, c1, c2, c3, f0, f1, f2⟩ := h.c
  have hs := h.small
  have hx2 : (ph != 1) = true := by simpa using hx
  have k0 : (0 : Int) ≤ (k : Int) := by omega
  generalize M.length = l at *
  clear h hx
  go_enter Try.func23, Try.ntmps23
  go_wp2_with fail
  go_ret
  exact ⟨rfl, 0, rfl⟩
set_option maxRecDepth 100000 in
theorem say_yes (h : IsPh w p g 1 cy re M) (k : Nat) (hk : k < M.length) : Calls Try.prog 23 #[.pointer (some ⟨p, 0, none⟩), .int .i64 k, .bool true, .bool false] w (Turns (.int .i64 0) w p g 1 cy re (M.set k true)) := by
  obtain ⟨c0, c1, c2, c3, f0, f1, f2⟩ := h.c
  have hs := h.small
  have k0 : (0 : Int) ≤ (k : Int) := by omega
  have g0 := cell_of h.row (bcells_get hk)
  have g1 := frozen_of_row w g k _ _ h.row
  have h4 := Lib.hid (h.said k true)
  have hw := Lib.hid (wg (p := p) (g := g) w k (.bool true))
  unfold Turns
  generalize M.set k true = N at *
  generalize M.length = l at *
  generalize M.getD k false = b at *
  clear h
  go_enter Try.func23, Try.ntmps23
  go_wp2_with fail
  go_ret
  exact ⟨rfl, hw.out, h4.out⟩
set_option maxRecDepth 100000 in
/-- Whoever is not empty, or has flushed: nobody has said anything any more. -/
theorem say_forget (h : IsPh w p g 1 cy re M) (k : Nat) (e f : Bool) (hk : k < M.length) (hn : (e && !f) = false) (hr : 0 ≤ re ∧ re ≤ 1000000) : Calls Try.prog 23 #[.pointer (some ⟨p, 0, none⟩), .int .i64 k, .bool e, .bool f] w (Turns (.int .i64 0) w p g 1 cy (if M.contains true then re + 1 else re) (List.replicate M.length false)) := by
  obtain ⟨hr0, hr1⟩ := hr
  obtain ⟨c0, c1, c2, c3, f0, f1, f2⟩ := h.c
  have hs := h.small
  have k0 : (0 : Int) ≤ (k : Int) := by omega
  have cc := contains_any (cap := M.length) true h.row (by omega)
  have hef : (e = false) ∨ (e = true ∧ f = true) := by cases e <;> cases f <;> simp at hn ⊢
  unfold Turns
  cases hct : M.contains true with
  | true =>
    rw [hct] at cc
    rw [if_pos rfl]
    have hcl := Lib.hid (fun m => clear_said ((h.drewN m).set2 (re + 1)).row h.pos M.length)
    have h3 := Lib.hid (fun m => ((h.drewN m).set2 (re + 1)).cleared)
    have hw := Lib.hid (fun m => wrote_drewN ((w0 (p := p) (g := g) (w.drewN m) 2 (.int .i64 (re + 1))).trans (wgs _ (List.replicate M.length (.bool false)))))
    have hc2 := Lib.hid (fun m => ((h.drewN m).set2 (re + 1)).c.2.2.2.1)
    generalize List.replicate M.length false = N at *
    generalize List.replicate M.length (Value.bool false) = N' at *
    generalize M.length = l at *
    clear h hct hn
    rcases hef with rfl | ⟨rfl, rfl⟩
    all_goals
      go_enter Try.func23, Try.ntmps23
      go_wp2_with fail
      with_reducible refine Calls.mono (cc) ?_
      rintro e w1 ⟨rfl, m, rfl⟩
      have hcl := hcl.out m
      have hc2 := hc2.out m
      go_wp2_with fail
      go_ret
      exact ⟨rfl, hw.out m, h3.out m⟩
  | false =>
    rw [hct] at cc
    rw [if_neg (by simp)]
    have hcl := Lib.hid (fun m => clear_said (h.drewN m).row h.pos M.length)
    have h3 := Lib.hid (fun m => (h.drewN m).cleared)
    have hw := Lib.hid (fun m => wrote_drewN (wgs (p := p) (g := g) (w.drewN m) (List.replicate M.length (.bool false))))
    generalize List.replicate M.length false = N at *
    generalize List.replicate M.length (Value.bool false) = N' at *
    generalize M.length = l at *
    clear h hct hn
    rcases hef with rfl | ⟨rfl, rfl⟩
    all_goals
      go_enter Try.func23, Try.ntmps23
      go_wp2_with fail
      with_reducible refine Calls.mono (cc) ?_
      rintro e w1 ⟨rfl, m, rfl⟩
      have hcl := hcl.out m
      go_wp2_with fail
      go_ret
      exact ⟨rfl, hw.out m, h3.out m⟩
theorem infoB : (Try.prog.info? 4).map (fun i => (i.zero, i.size, i.bytes)) = some (some (.bool false), 1, 1) := by kernel_rfl
theorem made_bools (n : Nat) : madeCells #[Value.bool false] n = bcells (List.replicate n false) := by
  unfold madeCells bcells
  apply Array.ext'
  simp only [List.map_replicate, Array.toList_map, Array.toList_range]
  refine List.ext_getElem (by simp) fun i h1 h2 => ?_
  simp [Nat.mod_one]
set_option maxRecDepth 100000 in
theorem new_no (n : Int) (w : World) (h : n < 1 ∨ 64 < n) : Calls Try.prog 16 #[.int .i64 n] w (Ans (.tuple #[.pointer none, .int .i64 1]) w) := by
  rcases (show n < 1 ∨ (¬ n < 1 ∧ 64 < n) by omega) with h1 | ⟨h1, h2⟩
  all_goals
    clear h
    go_enter Try.func16, Try.ntmps16
    go_wp2_with fail
    go_ret2
    exact ⟨rfl, 0, rfl⟩
set_option maxRecDepth 100000 in
theorem new_any (n : Nat) (w : World) (h1 : 1 ≤ n) (h2 : n ≤ 64) : Calls Try.prog 16 #[.int .i64 n] w fun e w' => ∃ p g, e = .returned (.tuple #[.pointer (some ⟨p, 0, none⟩), .int .i64 0]) ∧ Below w.heap.size w w' ∧ w.heap.size ≤ p ∧ w.heap.size ≤ g ∧ IsPh w' p g 0 0 0 (List.replicate n false) := by
  have hmk := run_make_row' (P := Try.prog) 28 4 (.bool false) 1 Try.underlying28 infoB rfl .i64 .i64 n (by omega) (by omega)
  rw [made_bools] at hmk
  have hl : (List.replicate n false).length = n := List.length_replicate
  go_enter Try.func16, Try.ntmps16
  go_wp2_with fail
  go_ret2
  refine ⟨w.heap.size + 1, w.heap.size, rfl, ((Below.refl _ _).alloc (Nat.le_refl _) _).alloc (by simp) _, by omega, Nat.le_refl _, ⟨?_, ?_, by omega, by rw [hl]; omega, by rw [hl]; exact h2⟩⟩
  · rw [hl]
    have := heap_alloc_new (w.alloc (.cells (bcells (List.replicate n false)) 4)) (.cells #[.int .i64 0, .int .i64 0, .int .i64 0, .slice (some ⟨w.heap.size, 0, none⟩) n n] 102 (0, 0))
    simpa using this
  · have := (below_alloc (Below.refl (w.alloc (.cells (bcells (List.replicate n false)) 4)).heap.size (w.alloc (.cells (bcells (List.replicate n false)) 4))) (.cells #[.int .i64 0, .int .i64 0, .int .i64 0, .slice (some ⟨w.heap.size, 0, none⟩) n n] 102 (0, 0))).block w.heap.size (by simp)
    rw [this]; exact heap_alloc_new _ _
end Ph
end Go.Proofs.Ytikpoldmpmmpiab
