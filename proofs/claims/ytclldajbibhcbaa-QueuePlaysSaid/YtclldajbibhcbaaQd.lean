/- The document's own common queue: a row in a box, taken by pieces. -/
import Derived.Test.YtclldajbibhcbaaQueueDel
namespace Go.Proofs.Ytclldajbibhcbaa
open Go.RowKit Go.Lib Fx Ho Rw Qu
set_option linter.unusedVariables false
namespace Qd
structure IsX (w : World) (p : Nat) (v : Value) (zs : List Int) : Prop where
  head : w.heap[p]? = some (.cells #[v] 48 (0, 0))
  row : OffRow w v zs
  off : v.ownBlock ≠ some p
variable {w w' : World} {p y : Nat} {v u : Value} {zs : List Int} {H H' : Home}
namespace IsX
theorem wrote (h : IsX w p v zs) (ht : Wrote H w H' w') (ho : Off (home p v) H) : IsX w' p v zs :=
  ⟨by rw [ht.block p (block_lt h.head) (fun h' => ho p (Or.inl rfl) h')]; exact h.head, h.row.wrote ht (fun k hk h' => ho k (Or.inr hk) h'), h.off⟩
theorem below (h : IsX w p v zs) (hb : Below w.heap.size w w') : IsX w' p v zs := h.wrote (H := fun _ => False) (Wrote.of_below hb) (fun _ _ h => h)
theorem home_lt {k : Nat} (h : IsX w p v zs) (hk : home p v k) : k < w.heap.size := hk.elim (fun e => by rw [show k = p from e]; exact block_lt h.head) (fun e => h.row.lt e)
theorem c0 (h : IsX w p v zs) : w.cell? ⟨p, 0, none⟩ = some v := cell_of h.head rfl
theorem fz (h : IsX w p v zs) : w.frozen? ⟨p, 0, none⟩ = false := frozen_of_row w p 0 _ _ h.head
/-- The box as it is once its row is another one. -/
theorem stored (h : IsX w p v zs) {W1 W : World} {v1 : Value} {zs2 : List Int} (hr : OffRow W1 v1 zs2) (hw : Wrote (fun k => v.ownBlock = some k) w (fun k => v1.ownBlock = some k) W1) (hh : W = W1.setCell ⟨p, 0, none⟩ v1) :
    Wrote (home p v) w (home p v1) W ∧ IsX W p v1 zs2 := by
  subst hh
  have hp := block_lt h.head
  have hd : W1.heap[p]? = w.heap[p]? := hw.block p hp h.off
  have hoff : v1.ownBlock ≠ some p := fun e => (hw.home p e).elim h.off (fun h2 => by omega)
  have hw2 : Wrote (fun k => k = p) W1 (fun k => k = p) (W1.setCell ⟨p, 0, none⟩ v1) := wrote_setCell (H := fun k => k = p) (a := ⟨p, 0, none⟩) (u := v1) rfl rfl rfl rfl rfl
  refine ⟨⟨hw2.os.trans hw.os, hw2.tape.trans hw.tape, hw2.output.trans hw.output, Nat.le_trans hw.size hw2.size, fun k hk hn => (hw2.block k (Nat.lt_of_lt_of_le hk hw.size) (fun e => hn (Or.inl e))).trans (hw.block k hk (fun e => hn (Or.inr e))), fun k hk => ?_⟩, ⟨?_, hr.wrote hw2 (fun k hk e => hoff (by rw [hk, e])), hoff⟩⟩
  · rcases hk with hk | hk
    · exact Or.inl (Or.inl hk)
    · exact (hw.home k hk).elim (fun h2 => Or.inl (Or.inr h2)) Or.inr
  · rw [heap_setCell_same _ p 0 _ _ _ (hd.trans h.head)]; rfl
end IsX
/-- What Get answers and leaves. -/
def Got (w : World) (p : Nat) (v : Value) (zs : List Int) (n : Nat) (e : Ending) (w' : World) : Prop := ∃ r v', e = .returned r ∧ Wrote (home p v) w (home p v') w' ∧ IsX w' p v' (zs.drop n) ∧ Ints w' (fun k => home p v k) r (zs.take n)
set_option maxRecDepth 100000 in
set_option maxHeartbeats 1000000 in
theorem get_any (w : World) (h : IsX w p v zs) {q m n : Nat} {ps am : Int} (hps : (if 1 > ps then 1 else ps) = (q : Int)) (ham : (if 0 > am then 0 else am) = (m : Int)) (hq : 1 ≤ q) (hq2 : q ≤ 9223372036854775807) (hm : m ≤ 9223372036854775807) (hs : zs.length ≤ 1000000) (hn : n = min (min (min (zs.length / q + 1) m) 128) zs.length) :
    Calls Try.prog 33 #[.pointer (some ⟨p, 0, none⟩), .int .i64 ps, .int .i64 am] w (Got w p v zs n) := by
  have c0 := h.c0
  have hle : n ≤ zs.length := by omega
  have hdiv : zs.length / q ≤ zs.length := Nat.div_le_self _ _
  have hmin := fun (ts : Array TypeId) (t : TypeId) (W : World) => min_four Try.prog ts t (zs.length / q + 1) m 128 zs.length n hn W
  have hmax1 : ∀ (ts : Array TypeId) (t : TypeId) (W : World), (Builtin.max_ ts t #[.int .i64 ps, .int .i64 1]).run Try.prog W = .ok (.int .i64 (q : Int)) W := fun ts t W => by
    rw [run_max_int2, hps]
  have hmax2 : ∀ (ts : Array TypeId) (t : TypeId) (W : World), (Builtin.max_ ts t #[.int .i64 am, .int .i64 0]).run Try.prog W = .ok (.int .i64 (m : Int)) W := fun ts t W => by
    rw [run_max_int2, ham]
  have hquo : (zs.length : Int).tdiv (q : Int) = ((zs.length / q : Nat) : Int) := by
    rw [Int.tdiv_eq_ediv_of_nonneg (by omega)]; omega
  have hq0 : ((q : Int) == 0) = false := by rw [beq_eq_false_iff_ne]; omega
  obtain ⟨ao, b, off, cap, rfl, hc, ⟨hmx, _⟩, hxx⟩ := id h.row
  have hend : Hid (∀ (w2 : World) (v1 : Value) (a1 : Option Addr), w2.heap = w.heap → w2.os = w.os → w2.tape = w.tape → w2.output = w.output → v1 = .slice a1 (zs.length - n) (cap - n) → (a1 = ao.map (·.add n) ∨ cap = n ∧ a1 = ao) → Got w p (.slice ao zs.length cap) zs n (.returned (.slice ao n cap)) (w2.setCell ⟨p, 0, none⟩ v1)) := Lib.hid fun w2 v1 a1 g1 g2 g3 g4 e1 ea => by
    subst e1
    have hbel : Below w.heap.size w w2 := ⟨g2, g3, g4, by rw [g1]; exact Nat.le_refl _, fun k _ => by rw [g1]⟩
    have h2 := h.below hbel
    have hrd := h2.row.drop hle ea
    have hown : ∀ k, (Value.slice a1 (zs.length - n) (cap - n)).ownBlock = some k → (Value.slice ao zs.length cap).ownBlock = some k := fun k hk => by
      rcases ea with rfl | ⟨_, rfl⟩
      · cases ao with
        | none => cases hk
        | some a =>
          have e : (Addr.add a n).block = a.block := by unfold Addr.add; split <;> rfl
          have e2 : (Addr.add a n).block = k := Option.some.inj hk
          show some a.block = some k
          rw [← e, e2]
      · cases a1 with
        | none => cases hk
        | some a => exact hk
    have hst := h2.stored hrd ((Wrote.refl _ _).same hown) rfl
    refine ⟨_, _, rfl, (Wrote.of_below hbel).trans hst.1, hst.2, ?_⟩
    have hcells : ∀ i, i < n → w2.cell? ⟨b, off + i, none⟩ = some (.int .i64 ((zs.take n).getD i 0)) := fun i hi => by
      rw [World.cell?_of_block (a := ⟨b, off + i, none⟩) (w := w) (by rw [g1])]
      refine hc.olds i _ ?_
      unfold cells
      rw [List.getElem?_map, List.getD_eq_getElem?_getD, List.getElem?_take_of_lt hi, List.getElem?_eq_getElem (by omega)]; rfl
    have htl : (zs.take n).length = n := by rw [List.length_take]; omega
    refine ⟨ao, cap, by rw [htl], by rw [htl]; unfold maxLen at hmx; have := hc.le; omega, fun i hi => ?_⟩
    rw [htl] at hi
    have h0 : 0 < cap := by have := hc.le; omega
    have ha := hc.addr h0
    subst ha
    have hbp : b ≠ p := fun e => h.off (by rw [e]; rfl)
    have hbk : b < w.heap.size := hc.lt h0
    refine ⟨b, off, rfl, Or.inr rfl, Nat.lt_of_lt_of_le (by rw [g1]; exact hbk) hst.1.size, ?_⟩
    rw [World.cell?_of_block (a := ⟨b, off + i, none⟩) (w := w2) ?_]
    · exact hcells i hi
    · have hw2 : Wrote (fun k => k = p) w2 (fun k => k = p) (w2.setCell ⟨p, 0, none⟩ (.slice a1 (zs.length - n) (cap - n))) := wrote_setCell rfl rfl rfl rfl rfl
      exact hw2.block b (by rw [g1]; exact hbk) hbp
  clear hn
  have hcap := hc.le
  have hff := h.fz
  clear h hc hps ham
  generalize zs.length / q = d at *
  generalize hl : zs.length = l at *
  clear hl
  push_cast at hmin
  go_enter Try.func33, Try.ntmps33
  go_wp2_with fail
  · subst h
    go_ret
    exact hend.out w _ ao rfl rfl rfl rfl (by rw [Nat.sub_self]) (.inr ⟨rfl, rfl⟩)
  · go_ret
    exact hend.out w _ _ rfl rfl rfl rfl rfl (.inl rfl)
end Qd
end Go.Proofs.Ytclldajbibhcbaa
