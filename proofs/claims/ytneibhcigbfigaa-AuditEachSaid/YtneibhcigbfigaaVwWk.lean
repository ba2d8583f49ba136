/- View: the walk's object, and coming to an address (walk.reach). -/
import Derived.Test.YtneibhcigbfigaaVwRising
import Derived.Test.YtneibhcigbfigaaVwRoots
namespace Go.Proofs.Ytneibhcigbfigaa
open Go.RowKit Go.Lib Fx Ho Gr
set_option linter.unusedVariables false
namespace Vw
variable {B w w' W W1 w8 : World} {p b1 b2 n1 n2 i : Nat} {v v8 vo ov lv : Value} {O lost : List Int} {m1 m2 : Int → Option Int} {a x y : Int} {H H' : Home} {os : List Ob} {L : List Ent}
/-- Where the first object at an address stands. -/
def fidx : List Ob → Int → Option Nat
  | [], _ => none
  | o :: os, a => if o.1 = a then some 0 else (fidx os a).map (· + 1)
def mI (os : List Ob) (a : Int) : Option Int := Option.map (fun n : Nat => (n : Int)) (fidx os a)
theorem fidx_none : ∀ {os : List Ob} {a : Int}, fidx os a = none ↔ a ∉ ads os
  | [], a => by simp [fidx, ads]
  | o :: os, a => by
    unfold fidx
    by_cases h : o.1 = a
    · rw [if_pos h]; simp [ads, h]
    · rw [if_neg h, Option.map_eq_none_iff, fidx_none]
      unfold ads
      rw [List.map_cons, List.mem_cons]
      exact ⟨fun e1 e2 => e2.elim (fun e3 => h e3.symm) e1, fun e1 e2 => e1 (.inr e2)⟩
theorem fidx_some : ∀ {os : List Ob} {a : Int} {k : Nat}, fidx os a = some k → k < os.length ∧ (os.getD k o0).1 = a ∧ slo os a = (os.getD k o0).2.1
  | [], a, k, h => by cases h
  | o :: os, a, k, h => by
    unfold fidx at h
    by_cases h1 : o.1 = a
    · rw [if_pos h1] at h
      cases h
      exact ⟨by simp, h1, by unfold slo; rw [if_pos h1]; rfl⟩
    · rw [if_neg h1] at h
      obtain ⟨j, hj, rfl⟩ := Option.map_eq_some_iff.1 h
      obtain ⟨e1, e2, e3⟩ := fidx_some hj
      exact ⟨by rw [List.length_cons]; omega, e2, by unfold slo; rw [if_neg h1]; exact e3⟩
theorem fidx_app : ∀ (os : List Ob) (o : Ob) (a : Int), fidx (os ++ [o]) a = match fidx os a with
    | some k => some k
    | none => if o.1 = a then some os.length else none
  | [], o, a => by simp [fidx]
  | u :: os, o, a => by
    show (if u.1 = a then some 0 else (fidx (os ++ [o]) a).map (· + 1)) = (match (if u.1 = a then some 0 else (fidx os a).map (· + 1)) with
      | some k => some k
      | none => if o.1 = a then some (os.length + 1) else none)
    by_cases h : u.1 = a
    · rw [if_pos h, if_pos h]
    · rw [if_neg h, if_neg h, fidx_app os o a]
      cases fidx os a with
      | some k => rfl
      | none =>
        by_cases h2 : o.1 = a
        · simp only [if_pos h2, Option.map_some, Option.map_none]
        · simp only [if_neg h2, Option.map_none]
theorem mI_none : mI os a = none ↔ a ∉ ads os := by unfold mI; rw [Option.map_eq_none_iff]; exact fidx_none
theorem take_app {k : Nat} (hk : k < os.length) : os.take (k + 1) = os.take k ++ [os.getD k o0] := by
  rw [List.take_add_one, List.getElem?_eq_getElem hk, List.getD_eq_getElem?_getD, List.getElem?_eq_getElem hk]; rfl
theorem mI_was {k : Nat} (hk : k < os.length) (h : mI (os.take k) (os.getD k o0).1 ≠ none) : mI (os.take (k + 1)) = mI (os.take k) := by
  funext a
  unfold mI at h ⊢
  rw [take_app hk, fidx_app]
  cases e : fidx (os.take k) a with
  | some j => rfl
  | none =>
    by_cases h2 : (os.getD k o0).1 = a
    · rw [h2, e] at h; exact absurd rfl h
    · simp only [if_neg h2]
theorem mI_new {k : Nat} (hk : k < os.length) (h : mI (os.take k) (os.getD k o0).1 = none) : mI (os.take (k + 1)) = Mp.upo (mI (os.take k)) (os.getD k o0).1 (k : Int) := by
  have hl : (os.take k).length = k := by rw [List.length_take]; omega
  funext a
  unfold mI at h ⊢
  unfold Mp.upo
  rw [take_app hk, fidx_app, hl]
  by_cases h2 : a = (os.getD k o0).1
  · rw [if_pos h2]
    rw [Option.map_eq_none_iff] at h
    rw [h2, h]
    simp only [if_pos]
    rfl
  · rw [if_neg h2]
    cases e : fidx (os.take k) a with
    | some j => show _ = Option.map _ (fidx (os.take k) a); rw [e]
    | none => simp only [if_neg (show ¬ (os.getD k o0).1 = a from fun e => h2 e.symm)]; rw [e]
/-- The walk's object: the objects, two maps, two rows. -/
structure Wk (B w : World) (p b1 b2 : Nat) (vo ov lv : Value) (n1 n2 : Nat) (m1 m2 : Int → Option Int) (O lost : List Int) : Prop where
  head : w.heap[p]? = some (.cells #[vo, .map (some b1), .map (some b2), ov, lv] 88 (0, 0))
  at_ : Mp.OMap w b1 n1 m1
  from_ : Mp.OMap w b2 n2 m2
  ord : GRow 1 w ov O.length (cells O)
  lost : GRow 1 w lv lost.length (cells lost)
  ap : p ≠ b1 ∧ p ≠ b2 ∧ b1 ≠ b2 ∧ ov.ownBlock ≠ some p ∧ ov.ownBlock ≠ some b1 ∧ ov.ownBlock ≠ some b2 ∧ lv.ownBlock ≠ some p ∧ lv.ownBlock ≠ some b1 ∧ lv.ownBlock ≠ some b2 ∧ ∀ k, ov.ownBlock = some k → lv.ownBlock ≠ some k
  low : B.heap.size ≤ p ∧ B.heap.size ≤ b1 ∧ B.heap.size ≤ b2 ∧ (∀ k, ov.ownBlock = some k → B.heap.size ≤ k) ∧ ∀ k, lv.ownBlock = some k → B.heap.size ≤ k
  bel : Below B.heap.size B w
/-- Its blocks. -/
def Hw (p b1 b2 : Nat) (ov lv : Value) : Home := fun k => k = p ∨ k = b1 ∨ k = b2 ∨ ov.ownBlock = some k ∨ lv.ownBlock = some k
theorem Wk.lt (h : Wk B w p b1 b2 vo ov lv n1 n2 m1 m2 O lost) {k : Nat} (hk : Hw p b1 b2 ov lv k) : k < w.heap.size := by
  rcases hk with rfl | rfl | rfl | e | e
  · exact block_lt h.head
  · exact h.at_.lt
  · exact h.from_.lt
  · exact h.ord.lt e
  · exact h.lost.lt e
theorem Wk.below (h : Wk B w p b1 b2 vo ov lv n1 n2 m1 m2 O lost) (hb : Below w.heap.size w w') : Wk B w' p b1 b2 vo ov lv n1 n2 m1 m2 O lost :=
  ⟨(hb.block p (block_lt h.head)).trans h.head, h.at_.below hb, h.from_.below hb, h.ord.below hb, h.lost.below hb, h.ap, h.low, h.bel.trans (hb.mono h.bel.size)⟩
theorem zI2 (W : World) : (zeroValue 3).run Try.prog W = .ok (.int .i64 0) W := Try.zeroValue3 W
theorem Wk.look1 (h : Wk B w p b1 b2 vo ov lv n1 n2 m1 m2 O lost) (ha : WfI a) (c : Bool) : (Instr.lookup 78 (.map (some b1)) (.int .i64 a) c).run Try.prog w = .ok (if c then .tuple #[.int .i64 ((m1 a).getD 0), .bool (m1 a).isSome] else .int .i64 ((m1 a).getD 0)) w := by
  cases c with
  | true => exact h.at_.look Try.underlying78 (zI2 w) ha
  | false => exact h.at_.look1 Try.underlying78 (zI2 w) ha
theorem Wk.look2 (h : Wk B w p b1 b2 vo ov lv n1 n2 m1 m2 O lost) (ha : WfI a) : (Instr.lookup 78 (.map (some b2)) (.int .i64 a) true).run Try.prog w = .ok (.tuple #[.int .i64 ((m2 a).getD 0), .bool (m2 a).isSome]) w :=
  h.from_.look Try.underlying78 (zI2 w) ha
/-- The map of places is written. -/
theorem Wk.put1 (h : Wk B w p b1 b2 vo ov lv n1 n2 m1 m2 O lost) (ha : WfI a) (hn : n1 ≤ 1000000) (x : Int) : ∃ w', (Instr.mapUpdate 78 (.map (some b1)) (.int .i64 a) (.int .i64 x)).run Try.prog w = .ok () w' ∧ Wk B w' p b1 b2 vo ov lv (n1 + 1) n2 (Mp.upo m1 a x) m2 O lost := by
  obtain ⟨w', hr, h1, h2⟩ := h.at_.store (t := 78) Try.underlying78 (by unfold maxLen; omega) ha x
  obtain ⟨a1, a2, a3, a4, a5, a6, a7, a8, a9, a10⟩ := h.ap
  exact ⟨w', hr, ⟨(h2.block p (block_lt h.head) (fun e => a1 e)).trans h.head, h1, h.from_.wrote h2 (fun e => a3 e.symm), h.ord.wrote h2 (fun k hk e => a5 (by rw [hk, e])), h.lost.wrote h2 (fun k hk e => a8 (by rw [hk, e])), h.ap, h.low, below_w h.bel h2 (fun k e => by rw [e]; exact h.low.2.1)⟩⟩
/-- The map of ways is written. -/
theorem Wk.put2 (h : Wk B w p b1 b2 vo ov lv n1 n2 m1 m2 O lost) (ha : WfI a) (hn : n2 ≤ 1000000) (x : Int) : ∃ w', (Instr.mapUpdate 78 (.map (some b2)) (.int .i64 a) (.int .i64 x)).run Try.prog w = .ok () w' ∧ Wk B w' p b1 b2 vo ov lv n1 (n2 + 1) m1 (Mp.upo m2 a x) O lost ∧ Wrote (Hw p b1 b2 ov lv) w (Hw p b1 b2 ov lv) w' := by
  obtain ⟨w', hr, h1, h2⟩ := h.from_.store (t := 78) Try.underlying78 (by unfold maxLen; omega) ha x
  obtain ⟨a1, a2, a3, a4, a5, a6, a7, a8, a9, a10⟩ := h.ap
  exact ⟨w', hr, ⟨(h2.block p (block_lt h.head) (fun e => a2 e)).trans h.head, h.at_.wrote h2 (fun e => a3 e), h1, h.ord.wrote h2 (fun k hk e => a6 (by rw [hk, e])), h.lost.wrote h2 (fun k hk e => a9 (by rw [hk, e])), h.ap, h.low, below_w h.bel h2 (fun k e => by rw [e]; exact h.low.2.2.1)⟩, ⟨h2.os, h2.tape, h2.output, h2.size, fun k hk hn => h2.block k hk (fun e => hn (.inr (.inr (.inl e)))), fun k hk => .inl hk⟩⟩
/-- One more in the row of what is lost. -/
theorem Wk.lose (h : Wk B W p b1 b2 vo ov lv n1 n2 m1 m2 O lost) (hb : Below W.heap.size W W1) (hrow : GRow 1 w8 v8 (lost.length + 1) (cells lost ++ [.int .i64 x])) (hw : Wrote (fun k => lv.ownBlock = some k) W1 (fun k => v8.ownBlock = some k) w8) : w8.cell? ⟨p, 4, none⟩ = some lv ∧ w8.frozen? ⟨p, 4, none⟩ = false ∧ Wk B (w8.setCell ⟨p, 4, none⟩ v8) p b1 b2 vo ov v8 n1 n2 m1 m2 O (lost ++ [x]) ∧ Wrote (Hw p b1 b2 ov lv) W (Hw p b1 b2 ov v8) (w8.setCell ⟨p, 4, none⟩ v8) := by
  have h1 := h.below hb
  have hR := block_lt h.head
  have hM := h.at_.lt
  have hN := h.from_.lt
  have hsz := hb.size
  obtain ⟨a1, a2, a3, a4, a5, a6, a7, a8, a9, a10⟩ := h.ap
  have hR8 : w8.heap[p]? = _ := (hw.block p (by omega) (fun e => a7 e)).trans h1.head
  have v1 : v8.ownBlock ≠ some p := fun e => (hw.home p e).elim a7 (fun e2 => by omega)
  have v2 : v8.ownBlock ≠ some b1 := fun e => (hw.home b1 e).elim a8 (fun e2 => by omega)
  have v3 : v8.ownBlock ≠ some b2 := fun e => (hw.home b2 e).elim a9 (fun e2 => by omega)
  have v4 : ∀ k, ov.ownBlock = some k → v8.ownBlock ≠ some k := fun k hk e => (hw.home k e).elim (a10 k hk) (fun e2 => by have := h.ord.lt hk; omega)
  have w2 : Wrote (fun k => k = p) w8 (fun k => k = p) (w8.setCell ⟨p, 4, none⟩ v8) := wrote_setCell (a := ⟨p, 4, none⟩) rfl rfl rfl rfl rfl
  have hB := h.bel.size
  have hfr : Wrote (Hw p b1 b2 ov lv) W (Hw p b1 b2 ov v8) (w8.setCell ⟨p, 4, none⟩ v8) := by
    refine ⟨w2.os.trans (hw.os.trans hb.os), w2.tape.trans (hw.tape.trans hb.tape), w2.output.trans (hw.output.trans hb.output), by have := hw.size; have := w2.size; omega, fun k hk hn => ?_, fun k hk => ?_⟩
    · have := hw.size
      exact (w2.block k (by omega) (fun e => hn (.inl e))).trans ((hw.block k (by omega) (fun e => hn (.inr (.inr (.inr (.inr e)))))).trans (hb.block k hk))
    · rcases hk with e | e | e | e | e
      · exact .inl (.inl e)
      · exact .inl (.inr (.inl e))
      · exact .inl (.inr (.inr (.inl e)))
      · exact .inl (.inr (.inr (.inr (.inl e))))
      · exact (hw.home k e).imp (fun e => .inr (.inr (.inr (.inr e)))) (fun e => by omega)
  refine ⟨cell_of hR8 rfl, frozen_of_row _ _ _ _ _ hR8, ⟨by rw [heap_setCell_same _ p 4 _ _ v8 hR8]; rfl, (h1.at_.wrote hw (fun e => a8 e)).wrote w2 (fun e => a1 e.symm), (h1.from_.wrote hw (fun e => a9 e)).wrote w2 (fun e => a2 e.symm), (h1.ord.wrote hw (fun k hk e => a10 k hk e)).wrote w2 (fun k hk e => a4 (by rw [hk, e])), ?_, ⟨a1, a2, a3, a4, a5, a6, v1, v2, v3, v4⟩, ⟨h.low.1, h.low.2.1, h.low.2.2.1, h.low.2.2.2.1, fun k hk => (hw.home k hk).elim (h.low.2.2.2.2 k) (fun e => by omega)⟩, below_w (below_w h1.bel hw (fun k hk => h.low.2.2.2.2 k hk)) w2 (fun k e => by rw [e]; exact h.low.1)⟩, hfr⟩
  rw [List.length_append, List.length_singleton, cells_app]
  exact hrow.wrote w2 (fun k hk e => v1 (by rw [hk, e]))
/-- One more in the row of what was reached. -/
theorem Wk.come (h : Wk B W p b1 b2 vo ov lv n1 n2 m1 m2 O lost) (hb : Below W.heap.size W W1) (hrow : GRow 1 w8 v8 (O.length + 1) (cells O ++ [.int .i64 x])) (hw : Wrote (fun k => ov.ownBlock = some k) W1 (fun k => v8.ownBlock = some k) w8) : w8.cell? ⟨p, 3, none⟩ = some ov ∧ w8.frozen? ⟨p, 3, none⟩ = false ∧ Wk B (w8.setCell ⟨p, 3, none⟩ v8) p b1 b2 vo v8 lv n1 n2 m1 m2 (O ++ [x]) lost ∧ Wrote (Hw p b1 b2 ov lv) W (Hw p b1 b2 v8 lv) (w8.setCell ⟨p, 3, none⟩ v8) := by
  have h1 := h.below hb
  have hR := block_lt h.head
  have hM := h.at_.lt
  have hN := h.from_.lt
  have hsz := hb.size
  obtain ⟨a1, a2, a3, a4, a5, a6, a7, a8, a9, a10⟩ := h.ap
  have hR8 : w8.heap[p]? = _ := (hw.block p (by omega) (fun e => a4 e)).trans h1.head
  have v1 : v8.ownBlock ≠ some p := fun e => (hw.home p e).elim a4 (fun e2 => by omega)
  have v2 : v8.ownBlock ≠ some b1 := fun e => (hw.home b1 e).elim a5 (fun e2 => by omega)
  have v3 : v8.ownBlock ≠ some b2 := fun e => (hw.home b2 e).elim a6 (fun e2 => by omega)
  have v4 : ∀ k, v8.ownBlock = some k → lv.ownBlock ≠ some k := fun k hk e => (hw.home k hk).elim (fun e2 => a10 k e2 e) (fun e2 => by have := h.lost.lt e; omega)
  have w2 : Wrote (fun k => k = p) w8 (fun k => k = p) (w8.setCell ⟨p, 3, none⟩ v8) := wrote_setCell (a := ⟨p, 3, none⟩) rfl rfl rfl rfl rfl
  have hB := h.bel.size
  have hfr : Wrote (Hw p b1 b2 ov lv) W (Hw p b1 b2 v8 lv) (w8.setCell ⟨p, 3, none⟩ v8) := by
    refine ⟨w2.os.trans (hw.os.trans hb.os), w2.tape.trans (hw.tape.trans hb.tape), w2.output.trans (hw.output.trans hb.output), by have := hw.size; have := w2.size; omega, fun k hk hn => ?_, fun k hk => ?_⟩
    · have := hw.size
      exact (w2.block k (by omega) (fun e => hn (.inl e))).trans ((hw.block k (by omega) (fun e => hn (.inr (.inr (.inr (.inl e)))))).trans (hb.block k hk))
    · rcases hk with e | e | e | e | e
      · exact .inl (.inl e)
      · exact .inl (.inr (.inl e))
      · exact .inl (.inr (.inr (.inl e)))
      · exact (hw.home k e).imp (fun e => .inr (.inr (.inr (.inl e)))) (fun e => by omega)
      · exact .inl (.inr (.inr (.inr (.inr e))))
  refine ⟨cell_of hR8 rfl, frozen_of_row _ _ _ _ _ hR8, ⟨by rw [heap_setCell_same _ p 3 _ _ v8 hR8]; rfl, (h1.at_.wrote hw (fun e => a5 e)).wrote w2 (fun e => a1 e.symm), (h1.from_.wrote hw (fun e => a6 e)).wrote w2 (fun e => a2 e.symm), ?_, (h1.lost.wrote hw (fun k hk e => a10 k e hk)).wrote w2 (fun k hk e => a7 (by rw [hk, e])), ⟨a1, a2, a3, v1, v2, v3, a7, a8, a9, v4⟩, ⟨h.low.1, h.low.2.1, h.low.2.2.1, fun k hk => (hw.home k hk).elim (h.low.2.2.2.1 k) (fun e => by omega), h.low.2.2.2.2⟩, below_w (below_w h1.bel hw (fun k hk => h.low.2.2.2.1 k hk)) w2 (fun k e => by rw [e]; exact h.low.1)⟩, hfr⟩
  rw [List.length_append, List.length_singleton, cells_app]
  exact hrow.wrote w2 (fun k hk e => v1 (by rw [hk, e]))
/-- What coming to an address makes of it. -/
def ReachR (B w : World) (ov0 lv0 : Value) (p b1 b2 : Nat) (vo : Value) (n1 n2 : Nat) (m1 m2 : Int → Option Int) (O lost : List Int) (a x : Int) (e : Ending) (w' : World) : Prop :=
  e = .returned (.tuple #[]) ∧ ∃ ov lv, Wk B w' p b1 b2 vo ov lv n1 (n2 + 1) m1 (if m1 a = none then m2 else if m2 a = none then Mp.upo m2 a x else m2) (if m1 a = none then O else if m2 a = none then O ++ [a] else O) (if m1 a = none then lost ++ [a] else lost) ∧ Wrote (Hw p b1 b2 ov0 lv0) w (Hw p b1 b2 ov lv) w'
set_option maxRecDepth 100000 in
set_option maxHeartbeats 4000000 in
theorem reach_any (h : Wk B w p b1 b2 vo ov lv n1 n2 m1 m2 O lost) (ha : WfI a) (x : Int) (hn : n2 ≤ 900000) (hO : O.length ≤ 900000) (hl : lost.length ≤ 900000) : Calls Try.prog 101 #[.pointer (some ⟨p, 0, none⟩), .int .i64 a, .int .i64 x] w (ReachR B w ov lv p b1 b2 vo n1 n2 m1 m2 O lost a x) := by
  have d1 : w.cell? ⟨p, 1, none⟩ = some (.map (some b1)) := cell_of h.head rfl
  have d2 : w.cell? ⟨p, 2, none⟩ = some (.map (some b2)) := cell_of h.head rfl
  have d3 : w.cell? ⟨p, 3, none⟩ = some ov := cell_of h.head rfl
  have d4 : w.cell? ⟨p, 4, none⟩ = some lv := cell_of h.head rfl
  have l1 := h.look1 ha true
  have l2 := h.look2 ha
  rw [if_pos rfl] at l1
  have hm2 : Wk B w p b1 b2 vo ov lv n1 (n2 + 1) m1 m2 O lost := ⟨h.head, h.at_, h.from_.mono (Nat.le_succ _), h.ord, h.lost, h.ap, h.low, h.bel⟩
  unfold ReachR
  by_cases h1 : m1 a = none
  · rw [if_pos h1, if_pos h1, if_pos h1]
    rw [h1] at l1
    change _ = Result.ok (Value.tuple #[.int .i64 0, .bool false]) w at l1
    obtain ⟨s2, c2, e2⟩ := h.lost.slice
    have hbd : lost.length + 1 ≤ 1000000 := by omega
    have hrow : Hid (GRow 1 (w.alloc (.cells #[.int .i64 a] 3)) (.slice s2 lost.length c2) lost.length (cells lost)) := Lib.hid (by have := h.lost.below (below_alloc (Below.refl w.heap.size w) (.cells #[.int .i64 a] 3)); rw [e2] at this; exact this)
    have hsrc := Lib.hid (src_int a w)
    have key : Hid (∀ u8 w8, GRow 1 w8 u8 (lost.length + 1) (cells lost ++ [.int .i64 a]) → Wrote (fun k => (Value.slice s2 lost.length c2).ownBlock = some k) (w.alloc (.cells #[.int .i64 a] 3)) (fun k => u8.ownBlock = some k) w8 → (∃ s c, u8 = .slice s (lost.length + 1) c) ∧ w8.cell? ⟨p, 4, none⟩ = some (.slice s2 lost.length c2) ∧ w8.frozen? ⟨p, 4, none⟩ = false ∧ Hid (∃ ov1 lv1, Wk B (w8.setCell ⟨p, 4, none⟩ u8) p b1 b2 vo ov1 lv1 n1 (n2 + 1) m1 m2 O (lost ++ [a]) ∧ Wrote (Hw p b1 b2 ov lv) w (Hw p b1 b2 ov1 lv1) (w8.setCell ⟨p, 4, none⟩ u8))) := Lib.hid fun u8 w8 g1 g2 => by
      obtain ⟨k0, k1, k2, k3⟩ := hm2.lose (below_alloc (Below.refl w.heap.size w) (.cells #[.int .i64 a] 3)) g1 (by rw [e2]; exact g2)
      rw [e2] at k0
      exact ⟨g1.slice, k0, k1, Lib.hid ⟨_, _, k2, k3⟩⟩
    rw [e2] at d4
    clear h hm2 l2 h1 e2
    generalize lost.length = t1 at *
    go_enter Try.func101, Try.ntmps101
    go_wp2_with (at_builtin; refine wpList_append_g rfl (.tmp 25) (.tmp 27) rfl rfl eltI hrow.out rfl rfl hsrc.out hbd ?_; intro u8 w8 g1 g2; have hk := key.out u8 w8 g1 g2; obtain ⟨⟨s8, c8, rfl⟩, hc8, hf8, hnx⟩ := hk; clear key g1 g2 hrow hsrc)
    refine bodyPost_ret (results_none rfl _ _ _) rfl ?_
    exact ⟨rfl, hnx.out⟩
  · rw [if_neg h1, if_neg h1, if_neg h1]
    have e1 : (m1 a).isSome = true := by cases e : m1 a with
      | none => exact absurd e h1
      | some _ => rfl
    rw [e1] at l1
    by_cases h2 : m2 a = none
    · rw [if_pos h2, if_pos h2]
      rw [h2] at l2
      change _ = Result.ok (Value.tuple #[.int .i64 0, .bool false]) w at l2
      obtain ⟨w6, hrun, h6, h6w⟩ := h.put2 ha (by omega) x
      have c3 : w6.cell? ⟨p, 3, none⟩ = some ov := cell_of h6.head rfl
      obtain ⟨s2, c2, e2⟩ := h6.ord.slice
      have hbd : O.length + 1 ≤ 1000000 := by omega
      have hrow : Hid (GRow 1 (w6.alloc (.cells #[.int .i64 a] 3)) (.slice s2 O.length c2) O.length (cells O)) := Lib.hid (by have := h6.ord.below (below_alloc (Below.refl w6.heap.size w6) (.cells #[.int .i64 a] 3)); rw [e2] at this; exact this)
      have hsrc := Lib.hid (src_int a w6)
      have key : Hid (∀ u8 w8, GRow 1 w8 u8 (O.length + 1) (cells O ++ [.int .i64 a]) → Wrote (fun k => (Value.slice s2 O.length c2).ownBlock = some k) (w6.alloc (.cells #[.int .i64 a] 3)) (fun k => u8.ownBlock = some k) w8 → (∃ s c, u8 = .slice s (O.length + 1) c) ∧ w8.cell? ⟨p, 3, none⟩ = some (.slice s2 O.length c2) ∧ w8.frozen? ⟨p, 3, none⟩ = false ∧ Hid (∃ ov1 lv1, Wk B (w8.setCell ⟨p, 3, none⟩ u8) p b1 b2 vo ov1 lv1 n1 (n2 + 1) m1 (Mp.upo m2 a x) (O ++ [a]) lost ∧ Wrote (Hw p b1 b2 ov lv) w (Hw p b1 b2 ov1 lv1) (w8.setCell ⟨p, 3, none⟩ u8))) := Lib.hid fun u8 w8 g1 g2 => by
        obtain ⟨k0, k1, k2, k3⟩ := h6.come (below_alloc (Below.refl w6.heap.size w6) (.cells #[.int .i64 a] 3)) g1 (by rw [e2]; exact g2)
        rw [e2] at k0
        exact ⟨g1.slice, k0, k1, Lib.hid ⟨_, _, k2, h6w.trans k3⟩⟩
      rw [e2] at c3
      clear h hm2 h1 h2 e1 e2 h6 h6w
      generalize O.length = t1 at *
      go_enter Try.func101, Try.ntmps101
      go_wp2_with (at_builtin; refine wpList_append_g rfl (.tmp 52) (.tmp 54) rfl rfl eltI hrow.out rfl rfl hsrc.out hbd ?_; intro u8 w8 g1 g2; have hk := key.out u8 w8 g1 g2; obtain ⟨⟨s8, c8, rfl⟩, hc8, hf8, hnx⟩ := hk; clear key g1 g2 hrow hsrc)
      go_end0
      exact ⟨rfl, hnx.out⟩
    · rw [if_neg h2, if_neg h2]
      have e3 : (m2 a).isSome = true := by cases e : m2 a with
        | none => exact absurd e h2
        | some _ => rfl
      rw [e3] at l2
      have hfin : Hid (∃ ov1 lv1, Wk B w p b1 b2 vo ov1 lv1 n1 (n2 + 1) m1 m2 O lost ∧ Wrote (Hw p b1 b2 ov lv) w (Hw p b1 b2 ov1 lv1) w) := Lib.hid ⟨_, _, hm2, Wrote.refl _ _⟩
      clear h hm2 h1 h2 e1 e3
      go_enter Try.func101, Try.ntmps101
      go_wp2_with fail
      go_end0
      exact ⟨rfl, hfin.out⟩
end Vw
end Go.Proofs.Ytneibhcigbfigaa
