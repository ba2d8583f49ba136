/- Package timer: New, Add, Len, Next over the heap of sleepers; calls of none. -/
import Derived.Test.YtinlbenifmcgaaaHeapT
namespace Go.Proofs.Ytinlbenifmcgaaa
open Go.RowKit Go.Lib Fx Ho Gr
set_option linter.unusedVariables false
namespace Pt
open Hm
variable {w w' : World} {p : Nat} {v : Value} {L M ys : List Sl} {n : Int} {H H' : Home} {x : Sl}
/-- Timers at p: a heap L of sleepers, n ever added. -/
structure Ti (w : World) (p : Nat) (v : Value) (L : List Sl) (n : Nat) : Prop where
  tm : Tm w p v L n
  ok : Ok Sl.sl0 Sl.ahead 0 L.length L
theorem Ti.below {n : Nat} (h : Ti w p v L n) (hb : Below w.heap.size w w') : Ti w' p v L n := ⟨h.tm.below hb, h.ok⟩
set_option maxRecDepth 100000 in
theorem add_nil (a b : Int) (w : World) : Calls Try.prog 9 #[.pointer none, .int .i64 a, .int .i64 b] w (Still (.tuple #[]) w) := by
  go_enter Try.func9, Try.ntmps9
  go_wp2_with fail
  go_end0
  exact ⟨rfl, rfl⟩
set_option maxRecDepth 100000 in
theorem len_nil (w : World) : Calls Try.prog 10 #[.pointer none] w (Still (.int .i64 0) w) := by
  go_enter Try.func10, Try.ntmps10
  go_wp2_with fail
  go_ret
  exact ⟨rfl, rfl⟩
set_option maxRecDepth 100000 in
theorem next_nil (w : World) : Calls Try.prog 11 #[.pointer none] w (Still (.tuple #[.int .i64 0, .bool false]) w) := by
  have cl := len_nil w
  go_enter Try.func11, Try.ntmps11
  go_wp2_with fail
  with_reducible refine Calls.mono (cl) ?_
  rintro e w2 ⟨rfl, rfl⟩
  go_wp2_with fail
  go_ret2
  exact ⟨rfl, rfl⟩
set_option maxRecDepth 100000 in
theorem due_nil (a : Int) (w : World) : Calls Try.prog 13 #[.pointer none, .int .i64 a] w (Still (.slice none 0 0) w) := by
  go_enter Try.func13, Try.ntmps13
  go_wp2_with fail
  go_ret
  exact ⟨rfl, rfl⟩
set_option maxRecDepth 100000 in
theorem del_nil (a : Int) (w : World) : Calls Try.prog 12 #[.pointer none, .int .i64 a] w (Still (.bool false) w) := by
  go_enter Try.func12, Try.ntmps12
  go_wp2_with fail
  go_ret
  exact ⟨rfl, rfl⟩
set_option maxRecDepth 100000 in
theorem all_nil (w : World) : Calls Try.prog 19 #[.pointer none] w (Still (.slice none 0 0) w) := by
  go_enter Try.func19, Try.ntmps19
  go_wp2_with fail
  go_ret
  exact ⟨rfl, rfl⟩
set_option maxRecDepth 100000 in
theorem new_any (w : World) : Calls Try.prog 8 #[] w fun e w' => e = .returned (.pointer (some ⟨w.heap.size, 0, none⟩)) ∧ Ti w' w.heap.size (.slice none 0 0) [] 0 ∧ Below w.heap.size w w' := by
  have ht : Hid (Ti (w.alloc (.cells #[.slice none 0 0, .int .i64 0] 55)) w.heap.size (.slice none 0 0) [] 0 ∧ Below w.heap.size w (w.alloc (.cells #[.slice none 0 0, .int .i64 0] 55))) := Lib.hid ⟨⟨⟨⟨cell_of (heap_alloc_new _ _) rfl, frozen_of_row _ _ _ _ _ (heap_alloc_new _ _), by show _ < (w.heap.push _).size; rw [Array.size_push]; omega, grow_nil 3 _, (fun e => by cases e), by simp⟩, cell_of (heap_alloc_new _ _) rfl, frozen_of_row _ _ _ _ _ (heap_alloc_new _ _)⟩, fun c c0 cn _ => by simp at cn⟩, below_alloc (Below.refl _ w) _⟩
  go_enter Try.func8, Try.ntmps8
  go_wp2_with fail
  go_ret
  exact ⟨rfl, ht.out⟩
set_option maxRecDepth 100000 in
theorem tlen_any {n : Nat} (h : Ti w p v L n) : Calls Try.prog 10 #[.pointer (some ⟨p, 0, none⟩)] w (Still (.int .i64 L.length) w) := by
  have cl := len_p h.tm.pile w (Below.refl _ _)
  have hc := h.tm.pile.cell
  go_enter Try.func10, Try.ntmps10
  go_wp2_with fail
  with_reducible refine Calls.mono (cl) ?_
  rintro e w2 ⟨rfl, rfl⟩
  go_wp2_with fail
  go_ret
  exact ⟨rfl, rfl⟩
set_option maxRecDepth 100000 in
theorem first_any (h : IsP w p v L) (h0 : 0 < L.length) : Calls Try.prog 22 #[.pointer (some ⟨p, 0, none⟩)] w (AnsB (sv (L.getD 0 Sl.sl0)) w) := by
  obtain ⟨b, off, cap, rfl, hle, hm, hbl, hc⟩ := at_i h.row h0
  obtain ⟨⟨c0, c1, c2⟩, _⟩ := hc 0 h0
  rw [Nat.zero_mul, Nat.add_zero] at c0 c1 c2
  have hp := h.cell
  have hpl := h.lt
  generalize L.getD 0 Sl.sl0 = x at *
  obtain ⟨x0, x1, x2⟩ := x
  simp only at c0 c1 c2
  generalize L.length = q at *
  clear hc h
  unfold sv
  have o3 : (w.alloc (.cells #[.int .i64 x0, .int .i64 x1, .int .i64 x2] 59)).heap[w.heap.size]? = some (.cells #[.int .i64 x0, .int .i64 x1, .int .i64 x2] 59 (0, 0)) := heap_alloc_new _ _
  have g0 := cell_of o3 (j := 0) rfl
  have g1 := cell_of o3 (j := 1) rfl
  have g2 := cell_of o3 (j := 2) rfl
  replace o3 := Lib.hid o3
  replace g0 := Lib.hid g0
  replace g1 := Lib.hid g1
  replace g2 := Lib.hid g2
  go_enter Try.func22, Try.ntmps22
  go_wp2_with fail
  have g0 := g0.out
  have g1 := g1.out
  have g2 := g2.out
  exact bodyPost_ret (v := .agg #[.int .i64 x0, .int .i64 x1, .int .i64 x2]) (by simp [results, Try.results22, go_sem, g0, g1, g2]) rfl ⟨rfl, below_alloc (Below.refl _ w) _⟩
set_option maxRecDepth 100000 in
theorem next_any {n : Nat} (h : Ti w p v L n) (h0 : 0 < L.length) : Calls Try.prog 11 #[.pointer (some ⟨p, 0, none⟩)] w (AnsB (.tuple #[.int .i64 (L.getD 0 Sl.sl0).1, .bool true]) w) := by
  have cl := tlen_any h
  have cf := first_any h.tm.pile h0
  have hs := h.tm.pile.small
  generalize L.getD 0 Sl.sl0 = x at *
  obtain ⟨x0, x1, x2⟩ := x
  unfold sv at cf
  have hf1 : ∀ W, (Instr.field 59 (.agg #[.int .i64 x0, .int .i64 x1, .int .i64 x2]) 0).run Try.prog W = .ok (.agg #[.int .i64 x0, .int .i64 x1]) W := fun W => by rfl
  have hf2 : ∀ W, (Instr.field 44 (.agg #[.int .i64 x0, .int .i64 x1]) 0).run Try.prog W = .ok (.int .i64 x0) W := fun W => by rfl
  have hl : ¬ (L.length : Int) = 0 := by omega
  generalize L.length = q at *
  clear h
  go_enter Try.func11, Try.ntmps11
  go_wp2_with fail
  with_reducible refine Calls.mono (cl) ?_
  rintro e w2 ⟨rfl, rfl⟩
  go_wp2_with fail
  with_reducible refine Calls.mono (cf) ?_
  rintro e w3 ⟨rfl, hb⟩
  go_wp2_with fail
  go_ret2
  exact ⟨rfl, hb⟩
set_option maxRecDepth 100000 in
theorem next_no {n : Nat} (h : Ti w p v [] n) : Calls Try.prog 11 #[.pointer (some ⟨p, 0, none⟩)] w (Still (.tuple #[.int .i64 0, .bool false]) w) := by
  have cl := tlen_any h
  rw [show (([] : List Sl).length : Int) = 0 from rfl] at cl
  clear h
  go_enter Try.func11, Try.ntmps11
  go_wp2_with fail
  with_reducible refine Calls.mono (cl) ?_
  rintro e w2 ⟨rfl, rfl⟩
  go_wp2_with fail
  go_ret2
  exact ⟨rfl, rfl⟩
/-- What Add leaves. -/
def Added (w : World) (p : Nat) (v : Value) (L : List Sl) (n : Nat) (x : Sl) (e : Ending) (w' : World) : Prop := e = .returned (.tuple #[]) ∧ ∃ v' M, Ti w' p v' M (n + 1) ∧ M.Perm (L ++ [x]) ∧ Wrote (home2 p v) w (home2 p v') w'
set_option maxRecDepth 100000 in
set_option maxHeartbeats 1000000 in
theorem add_any {n : Nat} (h : Ti w p v L n) (hs : L.length < 1000) (hn : n < 1000000) (a g : Int) : Calls Try.prog 9 #[.pointer (some ⟨p, 0, none⟩), .int .i64 a, .int .i64 g] w (Added w p v L n (a, g, (n : Int))) := by
  have hcn := h.tm.cnt
  have cp : Hid (∀ V, Below w.heap.size w V → Calls Try.prog 20 #[.iface 57 (.pointer (some ⟨p, 0, none⟩)), .iface 59 (.agg #[.int .i64 a, .int .i64 g, .int .i64 n])] V fun e w' => e = .returned (.tuple #[]) ∧ w'.cell? ⟨p, 1, none⟩ = some (.int .i64 n) ∧ Hid (Pushed V p v L n (a, g, (n : Int)) (.returned (.tuple #[])) w') ∧ Hid (Below w.heap.size w V)) := Lib.hid fun V hV => by
    have h1 := h.below hV
    exact (push_any h1.tm h1.ok (a, g, (n : Int)) hs).mono fun e w' k => ⟨k.1, (by obtain ⟨_, v', M, t, _⟩ := k; exact t.cnt), Lib.hid ⟨rfl, k.2⟩, Lib.hid hV⟩
  have hbd : Below w.heap.size w w.drew := (Below.refl _ _).drew
  have hn1 : ((n : Int) + 1) = ((n + 1 : Nat) : Int) := by omega
  have hfin : Hid (∀ (V w3 : World), Below w.heap.size w V → Pushed V p v L n (a, g, (n : Int)) (.returned (.tuple #[])) w3 → w3.frozen? ⟨p, 1, none⟩ = false ∧ Hid (∀ k, Added w p v L n (a, g, (n : Int)) (.returned (.tuple #[])) ((w3.setCell ⟨p, 1, none⟩ (.int .i64 ((n : Int) + 1))).drewN k))) := Lib.hid fun V w3 hV ⟨_, v', M, t, ho, hp, hw⟩ => ⟨t.free1, Lib.hid fun k => by
    have w1s : Wrote (fun k => k = p) w3 (fun k => k = p) (w3.setCell ⟨p, 1, none⟩ (.int .i64 ((n : Int) + 1))) := wr1 w3 p 1 _
    have hp0 : (w3.setCell ⟨p, 1, none⟩ (.int .i64 ((n : Int) + 1))).cell? ⟨p, 0, none⟩ = some v' := by
      rw [World.cell?_setCell_other _ _ _ _ (show (⟨p, 1, none⟩ : Addr) ≠ ⟨p, 0, none⟩ from fun h => by cases h)]; exact t.pile.cell
    have tt : Tm (w3.setCell ⟨p, 1, none⟩ (.int .i64 ((n : Int) + 1))) p v' M ((n : Int) + 1) := ⟨⟨hp0, by rw [World.frozen?_setCell]; exact t.pile.free, Nat.lt_of_lt_of_le t.pile.lt w1s.size, t.pile.row.wrote w1s (fun k hk e => t.pile.off (by rw [← e]; exact hk)), t.pile.off, t.pile.small⟩, World.cell?_setCell_same _ _ _ t.cnt, by rw [World.frozen?_setCell]; exact t.free1⟩
    rw [hn1] at tt ⊢
    have w0 : Wrote (home2 p v) w (home2 p v') w3 := (Wrote.of_below hV).trans hw
    refine ⟨rfl, v', M, ⟨tt.below (below_drewN (Below.refl _ _) k), ho⟩, hp, ?_⟩
    rw [← hn1]
    exact Wrote.drewN ⟨w1s.os.trans w0.os, w1s.tape.trans w0.tape, w1s.output.trans w0.output, Nat.le_trans w0.size w1s.size, fun k hk ho => (w1s.block k (Nat.lt_of_lt_of_le hk w0.size) (fun e => ho (Or.inl e))).trans (w0.block k hk ho), fun k hk => w0.home k hk⟩ k⟩
  replace h := Lib.hid h
  clear hn1
  have hwr : IntKind.i64.wrap ((n : Int) + 1) = (n : Int) + 1 := by rw [IntKind.wrap_i64]; omega
  go_enter Try.func9, Try.ntmps9
  go_wp2_with fail
  go_region_held3 (fun W' => W'.cell? ⟨p, 1, none⟩ = some (.int .i64 n)) (first | exact hcn | go_keep | assumption) ((go_at_call 20; ((with_reducible refine (cp.out _ (by repeat (first | assumption | exact Below.refl _ _ | refine below_drewN ?_ _ | refine below_alloc ?_ _ | refine below_then ?_ (by assumption)))).mono ?_); rintro e w3 ⟨rfl, hky, hpu, hbv⟩)))
  all_goals
    have f1 := (hfin.out _ _ hbv.out hpu.out).1
    have hq := (hfin.out _ _ hbv.out hpu.out).2
    go_wp2_with fail
    go_end0
    exact hq.out 0
end Pt
end Go.Proofs.Ytinlbenifmcgaaa
