/- container/heap's Pop and Push over the pile of sleepers. -/
import Derived.Test.YtinlbenifmcgaaaPopT
import Derived.OwnWalk
namespace Go.Proofs.Ytinlbenifmcgaaa
open Go.RowKit Go.Lib Fx Ho Gr
set_option linter.unusedVariables false
namespace Pt
open Hm
variable {w w' : World} {p : Nat} {v : Value} {L M ys : List Sl} {n : Int} {H H' : Home} {x : Sl}
theorem len_p (h : IsP w p v L) (W : World) (hW : Below w.heap.size w W) : Calls Try.prog 21 #[v] W (Still (.int .i64 L.length) W) := len_any (h.row.below hW)
/-- What heap.Pop leaves: a heap of the others; the first one is told. -/
def Popped (w : World) (p : Nat) (v : Value) (L : List Sl) (n : Int) (e : Ending) (w' : World) : Prop := e = .returned (.iface 59 (sv (L.getD 0 Sl.sl0))) ∧ ∃ v' M, Tm w' p v' M n ∧ Ok Sl.sl0 Sl.ahead 0 M.length M ∧ (L.getD 0 Sl.sl0 :: M).Perm L ∧ Wrote (home2 p v) w (home2 p v') w'
set_option maxRecDepth 100000 in
set_option maxHeartbeats 4000000 in
theorem pop_any (h : Tm w p v L n) (ho : Ok Sl.sl0 Sl.ahead 0 L.length L) {k : Nat} (hn : L.length = k + 1) : Calls Try.prog 25 #[.iface 57 (.pointer (some ⟨p, 0, none⟩))] w (Popped w p v L n) := by
  have hs := h.pile.small
  have hc := h.pile.cell
  have m0 := fun W (hW : World.cell? W ⟨p, 0, none⟩ = some v) => meth_len p v W hW
  have m2 := fun W (hW : World.cell? W ⟨p, 0, none⟩ = some v) => meth_swap p v W hW
  have m3 := fun W => meth_pop ⟨p, 0, none⟩ W
  have cl := len_p h.pile
  rw [hn] at cl
  have cs := swap_p h.pile (i := 0) (j := k) (by omega) (by omega)
  rw [hn] at ho
  obtain ⟨t1, t2, t3⟩ := top_swap ho hn
  have hd : Hid (∀ W, IsP W p v (swp Sl.sl0 L 0 k) → Calls Try.prog 30 #[.iface 57 (.pointer (some ⟨p, 0, none⟩)), .int .i64 0, .int .i64 k] W fun e w' => ∃ (m : Bool) (ys : List Sl), e = .returned (.bool m) ∧ Hid (IsP w' p v ys) ∧ Hid (ys.length = k + 1) ∧ Hid (ys.getD k Sl.sl0 = L.getD 0 Sl.sl0) ∧ Hid (Ok Sl.sl0 Sl.ahead 0 k (ys.take k)) ∧ Hid ((L.getD 0 Sl.sl0 :: ys.take k).Perm L) ∧ Hid (Wrote (home p v) W (home p v) w')) := Lib.hid fun W hW => by
    refine (down_any hW (i0 := 0) t1 (Nat.le_refl 0) (by rw [swp_len]; omega) (by omega)).mono fun e w' ⟨m, ys, h1, h2, h3, h4⟩ => ?_
    obtain ⟨q1, q2, q3, q4⟩ := pop_end ho hn h2
    exact ⟨m, ys, h1, Lib.hid h3, Lib.hid q1, Lib.hid q2, Lib.hid q3, Lib.hid q4, Lib.hid h4⟩
  have hfin : Hid (∀ (ys : List Sl) (v' : Value) (w' : World), (ys.take k).length = k → Tm w' p v' (ys.take k) n → Ok Sl.sl0 Sl.ahead 0 k (ys.take k) → (L.getD 0 Sl.sl0 :: ys.take k).Perm L → Wrote (home2 p v) w (home2 p v') w' → Popped w p v L n (.returned (.iface 59 (sv (L.getD 0 Sl.sl0)))) w') := Lib.hid fun ys v' w' h1 h2 h3 h4 h5 => ⟨rfl, v', ys.take k, h2, by rw [h1]; exact h3, h4, h5⟩
  have hlen : Hid (∀ ys : List Sl, ys.length = k + 1 → (ys.take k).length = k) := Lib.hid fun ys h => by rw [List.length_take]; omega
  generalize L.getD 0 Sl.sl0 = x at *
  have hnb : k ≤ 1000 := by omega
  clear t1 t2 t3 ho hs hn
  replace h := Lib.hid h
  go_enter Try.func25, Try.ntmps25
  go_wp2_with fail
  with_reducible refine Calls.mono (cl _ (by repeat (first | assumption | exact Below.refl _ _ | refine below_drewN ?_ _ | refine below_alloc ?_ _ | refine below_then ?_ (by assumption)))) ?_
  rintro e w2 ⟨rfl, rfl⟩
  clear cl m0
  go_wp2_with fail
  with_reducible refine Calls.mono (cs _ _ (by omega) (by omega) _ (by repeat (first | assumption | exact Below.refl _ _ | refine below_drewN ?_ _ | refine below_alloc ?_ _ | refine below_then ?_ (by assumption)))) ?_
  rintro e w2 ⟨rfl, hp2, hw2⟩
  clear cs m2 hc
  have cd := hd.out _ hp2.out
  go_wp2_with fail
  with_reducible refine Calls.mono (cd) ?_
  rintro e w3 ⟨m, ys, rfl, hp3, hl3, hx3, ho3, hpm, hw3⟩
  have ht3 := Lib.hid (h.out.turn hp3.out (hw2.out.trans hw3.out))
  have cp := popm_any ht3.out hl3.out
  rw [hx3.out] at cp
  clear cd hd hx3
  go_wp2_with fail
  with_reducible refine Calls.mono (cp) ?_
  rintro e w4 ⟨rfl, v', hp4, hw4⟩
  have hq := Lib.hid (hfin.out ys v' w4 (hlen.out ys hl3.out) hp4 ho3.out hpm.out ((wide (hw2.out.trans hw3.out)).trans hw4))
  clear cp hfin hp4 hw4
  go_wp2_with fail
  go_ret
  exact hq.out
def Pushm (w : World) (p : Nat) (v : Value) (L : List Sl) (n : Int) (x : Sl) (e : Ending) (w' : World) : Prop := e = .returned (.tuple #[]) ∧ ∃ v', Tm w' p v' (L ++ [x]) n ∧ Wrote (home2 p v) w (home2 p v') w'
set_option maxRecDepth 100000 in
set_option maxHeartbeats 1000000 in
/-- The pile's own Push: one more at the end. -/
theorem pushm_any (h : Tm w p v L n) (x : Sl) (hs : L.length < 1000) : Calls Try.prog 68 #[.pointer (some ⟨p, 0, none⟩), .iface 59 (sv x)] w (Pushm w p v L n x) := by
  have hp := h.pile.cell
  have hpl := h.pile.lt
  obtain ⟨x0, x1, x2⟩ := x
  have hta : ∀ W, (Instr.typeAssert (.iface 59 (.agg #[.int .i64 x0, .int .i64 x1, .int .i64 x2])) 20 59 false).run Try.prog W = .ok (.agg #[.int .i64 x0, .int .i64 x1, .int .i64 x2]) W := fun W => by rfl
  have hrow : Hid (∀ W, Below w.heap.size w W → GRow 3 W v L.length (sc L)) := Lib.hid fun W hW => h.pile.row.below hW
  have hsrc : Hid (∀ W N, W.heap[N]? = some (.cells #[.int .i64 x0, .int .i64 x1, .int .i64 x2] 59 (0, 0)) → Src Try.prog 3 51 (.slice (some ⟨N, 0, none⟩) 1 1) 1 [.int .i64 x0, .int .i64 x1, .int .i64 x2] W) := Lib.hid fun W N hN => src_new (s := 3) (A := #[.int .i64 x0, .int .i64 x1, .int .i64 x2]) Try.underlying51 rfl (by simp [Value.oneCell']) hN
  have key : Hid (∀ (W : World) (v1 : Value) (w1 : World), Below w.heap.size w W → GRow 3 w1 v1 (L.length + 1) (sc L ++ [.int .i64 x0, .int .i64 x1, .int .i64 x2]) → Wrote (fun k => v.ownBlock = some k) W (fun k => v1.ownBlock = some k) w1 → (∃ s c, v1 = .slice s (L.length + 1) c) ∧ w1.cell? ⟨p, 0, none⟩ = some v ∧ w1.frozen? ⟨p, 0, none⟩ = false ∧ Hid (∀ k, Pushm w p v L n (x0, x1, x2) (.returned (.tuple #[])) ((w1.setCell ⟨p, 0, none⟩ v1).drewN k))) := Lib.hid fun W v1 w1 hW g1 g2 => by
    have hW' := h.below hW
    have hoff := hW'.pile.off
    have c0 := g2.cell hW'.pile.cell hoff
    have f0 : w1.frozen? ⟨p, 0, none⟩ = false := by rw [World.frozen?_of_block (a := ⟨p, 0, none⟩) (g2.block p hW'.pile.lt hoff)]; exact hW'.pile.free
    have c1 := g2.cell hW'.cnt hoff
    have f1 : w1.frozen? ⟨p, 1, none⟩ = false := by rw [World.frozen?_of_block (a := ⟨p, 1, none⟩) (g2.block p hW'.pile.lt hoff)]; exact hW'.free1
    refine ⟨g1.slice, c0, f0, Lib.hid fun k => ⟨rfl, v1, ?_, ?_⟩⟩
    · have hlt1 : p < (w1.setCell ⟨p, 0, none⟩ v1).heap.size := Nat.lt_of_lt_of_le (Nat.lt_of_lt_of_le hW'.pile.lt g2.size) (wr1 w1 p 0 v1).size
      have w1s : Wrote (fun k => k = p) w1 (fun k => k = p) (w1.setCell ⟨p, 0, none⟩ v1) := wr1 w1 p 0 v1
      have hno : v1.ownBlock ≠ some p := fun e => by
        rcases g2.home p e with h5 | h5
        · exact hoff h5
        · have := hW'.pile.lt; omega
      have tt : Tm (w1.setCell ⟨p, 0, none⟩ v1) p v1 (L ++ [(x0, x1, x2)]) n := ⟨⟨World.cell?_setCell_same _ _ _ c0, by rw [World.frozen?_setCell]; exact f0, hlt1, by rw [List.length_append, sc_app]; exact g1.wrote w1s (fun k hk e => hno (by rw [← e]; exact hk)), hno, by rw [List.length_append, List.length_singleton]; omega⟩, by
        rw [World.cell?_setCell_other _ _ _ _ (show (⟨p, 0, none⟩ : Addr) ≠ ⟨p, 1, none⟩ from fun h => by cases h)]; exact c1, by rw [World.frozen?_setCell]; exact f1⟩
      exact tt.below (below_drewN (Below.refl _ _) k)
    · have w0 : Wrote (fun k => v.ownBlock = some k) w (fun k => v1.ownBlock = some k) w1 := (Wrote.of_below hW).trans g2
      have w1s : Wrote (fun k => k = p) w1 (fun k => k = p) (w1.setCell ⟨p, 0, none⟩ v1) := wr1 w1 p 0 v1
      exact ⟨w1s.os.trans w0.os, w1s.tape.trans w0.tape, w1s.output.trans w0.output, Nat.le_trans w0.size w1s.size, fun k hk ho => (w1s.block k (Nat.lt_of_lt_of_le hk w0.size) (fun e => ho (Or.inl e))).trans (w0.block k hk (fun e => ho (Or.inr e))), fun k hk => by
        rcases hk with rfl | hk
        · exact Or.inl (Or.inl rfl)
        · exact (w0.home k hk).elim (fun h => Or.inl (Or.inr h)) Or.inr⟩
  obtain ⟨s0, c0, e0⟩ := h.pile.row.slice
  have hbd : L.length + 1 ≤ 1000000 := by omega
  subst e0
  unfold sv
  clear h
  go_enter Try.func68, Try.ntmps68
  go_wp2_with fail
  go_region_law (refine step_append_g rfl (.tmp 8) (.tmp 11) rfl rfl elt3 (hrow.out _ (by repeat (first | exact Below.refl _ _ | refine below_alloc ?_ _ | refine below_drewN ?_ _ | refine Below.drew ?_))) rfl rfl (hsrc.out _ _ (heap_alloc_new _ _)) hbd ?_; intro v1 w1 g1 g2; have hk := key.out _ v1 w1 (by repeat (first | exact Below.refl _ _ | refine below_alloc ?_ _ | refine below_drewN ?_ _ | refine Below.drew ?_)) g1 g2; obtain ⟨⟨s1, c1, rfl⟩, hc1, hf1, hfin⟩ := hk; clear g1 g2 key hrow hsrc)
  all_goals
    go_end0
    exact hfin.out 0
/-- What heap.Push leaves: a heap with one more. -/
def Pushed (w : World) (p : Nat) (v : Value) (L : List Sl) (n : Int) (x : Sl) (e : Ending) (w' : World) : Prop := e = .returned (.tuple #[]) ∧ ∃ v' M, Tm w' p v' M n ∧ Ok Sl.sl0 Sl.ahead 0 M.length M ∧ M.Perm (L ++ [x]) ∧ Wrote (home2 p v) w (home2 p v') w'
set_option maxRecDepth 100000 in
set_option maxHeartbeats 4000000 in
theorem push_any (h : Tm w p v L n) (ho : Ok Sl.sl0 Sl.ahead 0 L.length L) (x : Sl) (hs : L.length < 1000) : Calls Try.prog 20 #[.iface 57 (.pointer (some ⟨p, 0, none⟩)), .iface 59 (sv x)] w (Pushed w p v L n x) := by
  have m3 := fun W => meth_push ⟨p, 0, none⟩ W
  have cp := pushm_any h x hs
  have hu := Lib.hid (UpI.begin (x := x) ho rfl)
  have hll : (L ++ [x]).length = L.length + 1 := by rw [List.length_append, List.length_singleton]
  replace hll := Lib.hid hll
  generalize sv x = vx at *
  clear h ho
  go_enter Try.func20, Try.ntmps20
  go_wp2_with fail
  with_reducible refine Calls.mono (cp) ?_
  rintro e w2 ⟨rfl, v2, ht, hw⟩
  have hc := ht.pile.cell
  have m0 := fun W (hW : World.cell? W ⟨p, 0, none⟩ = some v2) => meth_len p v2 W hW
  have cl := len_p ht.pile
  rw [hll.out] at cl
  have cu := up_any ht.pile hu.out
  replace cu : Calls Try.prog 28 #[.iface 57 (.pointer (some ⟨p, 0, none⟩)), .int .i64 L.length] w2 fun e w' => e = .returned (.tuple #[]) ∧ Hid (Pushed w p v L n x (.returned (.tuple #[])) w') := cu.mono fun e w' ⟨h1, M, h2, h3, h4, h5⟩ => ⟨h1, Lib.hid ⟨rfl, v2, M, ht.turn h2 h5, h3, h4, hw.trans (wide h5)⟩⟩
  clear cp m3 ht hw hu
  go_wp2_with fail
  with_reducible refine Calls.mono (cl _ (by repeat (first | assumption | exact Below.refl _ _ | refine below_drewN ?_ _ | refine below_alloc ?_ _ | refine below_then ?_ (by assumption)))) ?_
  rintro e w3 ⟨rfl, rfl⟩
  clear cl m0 hc
  go_wp2_with fail
  with_reducible refine Calls.mono (cu) ?_
  rintro e w4 ⟨rfl, hfin⟩
  go_wp2_with fail
  go_end0
  exact hfin.out
end Pt
end Go.Proofs.Ytinlbenifmcgaaa
