/- The sleepers behind a Timers: the pile's own Pop and Push, container/heap's Pop and Push. -/
import Derived.Test.YtinlbenifmcgaaaUpT
namespace Go.Proofs.Ytinlbenifmcgaaa
open Go.RowKit Go.Lib Fx Ho Gr
set_option linter.unusedVariables false
namespace Pt
open Hm
variable {w w' : World} {p : Nat} {v : Value} {L M ys : List Sl} {n : Int} {H H' : Home}
theorem elt3 : Elt Try.prog 51 59 3 24 (.agg #[.int .i64 0, .int .i64 0, .int .i64 0]) := ⟨Try.underlying51, by kernel_rfl, rfl, by decide, by decide⟩
/-- Timers at p: the pile L behind the row v, and how many were ever added. -/
structure Tm (w : World) (p : Nat) (v : Value) (L : List Sl) (n : Int) : Prop where
  pile : IsP w p v L
  cnt : w.cell? ⟨p, 1, none⟩ = some (.int .i64 n)
  free1 : w.frozen? ⟨p, 1, none⟩ = false
def home2 (p : Nat) (v : Value) : Home := fun k => k = p ∨ v.ownBlock = some k
theorem Tm.below (h : Tm w p v L n) (hb : Below w.heap.size w w') : Tm w' p v L n :=
  ⟨h.pile.below hb, cell_then hb h.cnt, by rw [hb.frozen (p := ⟨p, 1, none⟩) h.pile.lt]; exact h.free1⟩
theorem Tm.turn (h : Tm w p v L n) (hp : IsP w' p v M) (hw : Wrote (home p v) w (home p v) w') : Tm w' p v M n :=
  ⟨hp, hw.cell h.cnt h.pile.off, by rw [World.frozen?_of_block (a := ⟨p, 1, none⟩) (hw.block p h.pile.lt h.pile.off)]; exact h.free1⟩
theorem wide (hw : Wrote (home p v) w (home p v) w') : Wrote (home2 p v) w (home2 p v) w' :=
  ⟨hw.os, hw.tape, hw.output, hw.size, fun k hk ho => hw.block k hk (fun e => ho (Or.inr e)), fun k hk => Or.inl hk⟩
/-- Another row in its place. -/
theorem Tm.row {v1 : Value} (h : Tm w p v L n) (hr : GRow 3 w v1 M.length (sc M)) (ho : v1.ownBlock ≠ some p) (hs : M.length ≤ 1000) : Tm (w.setCell ⟨p, 0, none⟩ v1) p v1 M n := by
  have w1 : Wrote (fun k => k = p) w (fun k => k = p) (w.setCell ⟨p, 0, none⟩ v1) := wr1 w p 0 v1
  refine ⟨⟨World.cell?_setCell_same _ _ _ h.pile.cell, by rw [World.frozen?_setCell]; exact h.pile.free, Nat.lt_of_lt_of_le h.pile.lt w1.size, hr.wrote w1 (fun k hk e => ho (by rw [← e]; exact hk)), ho, hs⟩, ?_, by rw [World.frozen?_setCell]; exact h.free1⟩
  rw [World.cell?_setCell_other _ _ _ _ (show (⟨p, 0, none⟩ : Addr) ≠ ⟨p, 1, none⟩ from fun h => by cases h)]
  exact h.cnt
def Popm (w : World) (p : Nat) (v : Value) (L : List Sl) (n : Int) (x : Sl) (e : Ending) (w' : World) : Prop := e = .returned (.iface 59 (sv x)) ∧ ∃ v', Tm w' p v' L n ∧ Wrote (home2 p v) w (home2 p v') w'
set_option maxRecDepth 100000 in
set_option maxHeartbeats 1000000 in
/-- The pile's own Pop: the last one. -/
theorem popm_any (h : Tm w p v L n) {k : Nat} (hn : L.length = k + 1) : Calls Try.prog 67 #[.pointer (some ⟨p, 0, none⟩)] w (Popm w p v (L.take k) n (L.getD k Sl.sl0)) := by
  have h0 := h
  obtain ⟨b, off, cap, rfl, hle, hm, hbl, hc⟩ := at_i h.pile.row (i := k) (by omega)
  obtain ⟨⟨c0, c1, c2⟩, _⟩ := hc k (by omega)
  have hp := h.pile.cell
  have fp := h.pile.free
  have hpl := h.pile.lt
  have hob : b ≠ p := fun e => h.pile.off (by rw [e]; rfl)
  have hlt : (L.take k).length = k := by rw [List.length_take]; omega
  have hfin : Hid (∀ o, Tm ((w.setCell ⟨p, 0, none⟩ (.slice (some ⟨b, off, none⟩) k cap)).alloc o) p (.slice (some ⟨b, off, none⟩) k cap) (L.take k) n ∧ Wrote (home2 p (.slice (some ⟨b, off, none⟩) L.length cap)) w (home2 p (.slice (some ⟨b, off, none⟩) k cap)) ((w.setCell ⟨p, 0, none⟩ (.slice (some ⟨b, off, none⟩) k cap)).alloc o)) := Lib.hid fun o => by
    have r1 := h0.pile.row.take (k := k) (by omega)
    rw [sc_take] at r1
    have t1 := h0.row (v1 := .slice (some ⟨b, off, none⟩) k cap) (M := L.take k) (by rw [hlt]; exact r1) (fun e => hob (Option.some.inj e)) (by rw [hlt]; have := h0.pile.small; omega)
    have hb := below_alloc (Below.refl _ (w.setCell ⟨p, 0, none⟩ (.slice (some ⟨b, off, none⟩) k cap))) o
    have w1 : Wrote (fun k => k = p) w (fun k => k = p) (w.setCell ⟨p, 0, none⟩ (.slice (some ⟨b, off, none⟩) k cap)) := wr1 w p 0 _
    have w2 := w1.trans (Wrote.of_below hb)
    exact ⟨t1.below hb, ⟨w2.os, w2.tape, w2.output, w2.size, fun k hk ho => w2.block k hk (fun e => ho (Or.inl e)), fun k hk => Or.inl hk⟩⟩
  generalize hx : L.getD k Sl.sl0 = x at *
  obtain ⟨x0, x1, x2⟩ := x
  simp only at c0 c1 c2
  generalize hq : L.length = q at *
  subst hn
  generalize L.take k = M at *
  clear hc h h0 hq hx hlt hob
  unfold Popm sv
  go_enter Try.func67, Try.ntmps67
  go_wp2_with fail
  go_ret
  exact ⟨rfl, _, hfin.out _⟩
end Pt
end Go.Proofs.Ytinlbenifmcgaaa
