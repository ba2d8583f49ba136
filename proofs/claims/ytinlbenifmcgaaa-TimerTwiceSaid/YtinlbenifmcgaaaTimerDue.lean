/- Package timer: Due, over the heap of sleepers. -/
import Derived.Test.YtinlbenifmcgaaaTimer
import Derived.OwnWalk
import Derived.Deep.LoopGhost
namespace Go.Proofs.Ytinlbenifmcgaaa
open Go.RowKit Go.Lib Fx Ho Gr
set_option linter.unusedVariables false
namespace Pt
open Hm
variable {w w' : World} {p : Nat} {v u : Value} {L D M ys : List Sl} {n : Nat} {H H' : Home} {x : Sl}
def gs (D : List Sl) : List Value := D.map fun s => .int .i64 s.2.1
theorem eltI : Elt Try.prog 30 3 1 8 (.int .i64 0) := ⟨Try.underlying30, by kernel_rfl, rfl, by decide, by decide⟩
/-- D was taken out of L, the first ones first; M is left. -/
structure Ds (L D M : List Sl) : Prop where
  perm : (D ++ M).Perm L
  rise : D.Pairwise fun a b => Sl.ahead b a = false
  above : ∀ a ∈ D, ∀ b ∈ M, Sl.ahead b a = false
theorem ds_start (L : List Sl) : Ds L [] L := ⟨by simp, List.Pairwise.nil, fun a h => by cases h⟩
theorem Ds.step {M2 : List Sl} (h : Ds L D M) (ho : Ok Sl.sl0 Sl.ahead 0 M.length M) (hx : M.getD 0 Sl.sl0 = x) (hq : (x :: M2).Perm M) : Ds L (D ++ [x]) M2 := by
  have top : ∀ b ∈ M, Sl.ahead b x = false := fun b hb => by
    obtain ⟨c, hc, rfl⟩ := List.getElem_of_mem hb
    have := ho.least Sl.ahead_ord c c (Nat.le_refl c) hc
    rwa [hx, getD_at hc] at this
  have hxq : x ∈ M := hq.mem_iff.1 (by simp)
  have hsub : ∀ b ∈ M2, b ∈ M := fun b hb => hq.mem_iff.1 (by simp [hb])
  refine ⟨?_, ?_, fun a ha b hb => ?_⟩
  · rw [List.append_assoc]
    exact ((hq.append_left D)).trans h.perm
  · exact List.pairwise_append.2 ⟨h.rise, by simp, fun a ha b hb => by
      simp only [List.mem_singleton] at hb
      subst hb
      exact h.above a ha b hxq⟩
  · rcases List.mem_append.1 ha with h1 | h1
    · exact h.above a h1 b (hsub b hb)
    · simp only [List.mem_singleton] at h1
      subst h1
      exact top b (hsub b hb)
/-- Where the loop of Due stands. -/
structure Dw (B wr : World) (p : Nat) (v u : Value) (L D M : List Sl) (n : Nat) (now : Int) : Prop where
  ti : Ti wr p v M n
  ds : Ds L D M
  low : Low B.heap.size (home2 p v)
  below : Below B.heap.size B wr
  row : GRow 1 wr u D.length (gs D)
  ulow : Low B.heap.size (fun k => u.ownBlock = some k)
  off : ∀ k, u.ownBlock = some k → ¬ home2 p v k
  le : ∀ a ∈ D, a.1 ≤ now
theorem gs_app (A B : List Sl) : gs (A ++ B) = gs A ++ gs B := List.map_append
theorem Ti.wrote (h : Ti w p v L n) (hw : Wrote H w H' w') (ho : ∀ k, home2 p v k → ¬ H k) : Ti w' p v L n :=
  ⟨⟨⟨hw.cell h.tm.pile.cell (ho p (Or.inl rfl)), by rw [World.frozen?_of_block (a := ⟨p, 0, none⟩) (hw.block p h.tm.pile.lt (ho p (Or.inl rfl)))]; exact h.tm.pile.free, Nat.lt_of_lt_of_le h.tm.pile.lt hw.size, h.tm.pile.row.wrote hw (fun k hk => ho k (Or.inr hk)), h.tm.pile.off, h.tm.pile.small⟩, hw.cell h.tm.cnt (ho p (Or.inl rfl)), by rw [World.frozen?_of_block (a := ⟨p, 1, none⟩) (hw.block p h.tm.pile.lt (ho p (Or.inl rfl)))]; exact h.tm.free1⟩, h.ok⟩
/-- One more is taken. -/
theorem Dw.step {B wr w4 w5 : World} {x : Sl} {u2 : Value} {e : Ending} {now : Int} (h : Dw B wr p v u L D M n now) (hx : M.getD 0 Sl.sl0 = x) (hn : x.1 ≤ now) (w0 : World) (hw0 : Below wr.heap.size wr w0) (hp : Popped w0 p v M n e w') (hal : Below w'.heap.size w' w4) (hr : GRow 1 w5 u2 (D.length + 1) (gs D ++ [.int .i64 x.2.1])) (hw : Wrote (fun k => u.ownBlock = some k) w4 (fun k => u2.ownBlock = some k) w5) :
    ∃ v2 M2, Dw B w5 p v2 u2 L (D ++ [x]) M2 n now := by
  obtain ⟨_, v2, M2, h1, h2, h3, h4⟩ := hp
  replace h4 : Wrote (home2 p v) wr (home2 p v2) w' := (Wrote.of_below hw0).trans h4
  rw [hx] at h3
  have hB := h4.below h.low h.below
  have hl2 := h4.low h.low h.below.size
  have hul : ∀ k, u.ownBlock = some k → k < wr.heap.size := fun k hk => h.row.lt hk
  have off1 : ∀ k, u.ownBlock = some k → ¬ home2 p v2 k := fun k hk hh => (h4.home k hh).elim (h.off k hk) (fun h5 => by have := hul k hk; omega)
  have t1 : Ti w4 p v2 M2 n := Ti.below ⟨h1, h2⟩ hal
  have t2 := t1.wrote hw (fun k hk e => off1 k e hk)
  have hB2 := hw.below h.ulow (hB.trans (hal.mono hB.size))
  refine ⟨v2, M2, t2, h.ds.step h.ti.ok hx h3, hl2, hB2, ?_, hw.low h.ulow (Nat.le_trans hB.size hal.size), fun k hk hh => ?_, fun y hy => ?_⟩
  · rw [List.length_append, gs_app]; exact hr
  · rcases hw.home k hk with h5 | h5
    · exact off1 k h5 hh
    · rcases hh with rfl | hh
      · have := t1.tm.pile.lt; omega
      · have := t1.tm.pile.row.lt hh; omega
  · rcases List.mem_append.1 hy with h5 | h5
    · exact h.le y h5
    · simp only [List.mem_singleton] at h5
      subst h5
      exact hn
theorem Dw.bel {B wr W : World} {now : Int} (h : Dw B wr p v u L D M n now) (hb : Below wr.heap.size wr W) : Dw B W p v u L D M n now :=
  ⟨h.ti.below hb, h.ds, h.low, h.below.trans (hb.mono h.below.size), h.row.below hb, h.ulow, h.off, h.le⟩
theorem Dw.len {B wr : World} {now : Int} (h : Dw B wr p v u L D M n now) : D.length + M.length = L.length := by
  have := h.ds.perm.length_eq
  rw [List.length_append] at this
  exact this
theorem src_int (g : Int) (w : World) : Src Try.prog 1 30 (.slice (some ⟨w.heap.size, 0, none⟩) 1 1) 1 [.int .i64 g] (w.alloc (.cells #[.int .i64 g] 3)) :=
  src_new (s := 1) (A := #[.int .i64 g]) Try.underlying30 rfl (fun u hu => by simp at hu; subst hu; rfl) (heap_alloc_new _ _)
/-- What Due leaves. -/
def Dued (B : World) (p : Nat) (L : List Sl) (n : Nat) (now : Int) (e : Ending) (w' : World) : Prop := ∃ r D M v, e = .returned r ∧ Dw B w' p v r L D M n now ∧ ∀ b ∈ M, now < b.1
set_option maxRecDepth 100000 in
set_option maxHeartbeats 4000000 in
theorem due_any {B : World} (h : Ti w p v L n) (hl : Low B.heap.size (home2 p v)) (hB : Below B.heap.size B w) (now : Int) : Calls Try.prog 13 #[.pointer (some ⟨p, 0, none⟩), .int .i64 now] w (Dued B p L n now) := by
  have st : Hid (Dw B w p v (.slice none 0 0) L [] L n now) := Lib.hid ⟨h, ds_start L, hl, hB, grow_nil 1 w, fun k hk => (by cases hk), fun k hk => (by cases hk), fun a ha => by cases ha⟩
  have hLs := h.tm.pile.small
  clear h hl hB
  go_enter Try.func13, Try.ntmps13
  go_wp2_with fail
  go_loopg [5] L.length (fun g u wr => ∃ (D M : List Sl) (v : Value) (s2 : Option Addr) (c2 : Nat), u = .slice s2 D.length c2 ∧ D.length + g = L.length ∧ Hid (Dw B wr p v (.slice s2 D.length c2) L D M n now))
  case atStart => exact ⟨[], L, v, none, 0, rfl, by simp, st⟩
  case round =>
    clear st
    obtain ⟨D, M, v4, s2, c2, rfl, hml, hst⟩ := hrel
    have hlen := hst.out.len
    have hms := hst.out.ti.tm.pile.small
    have hpc := hst.out.ti.tm.pile.cell
    have cl := len_p hst.out.ti.tm.pile wr (Below.refl _ _)
    rcases Nat.eq_zero_or_pos M.length with hq | hq
    · have hfin : Hid (∀ W, Below wr.heap.size wr W → Dued B p L n now (.returned (.slice s2 D.length c2)) W) := Lib.hid fun W hW => ⟨_, D, M, v4, rfl, hst.out.bel hW, fun b hb => by rw [List.eq_nil_of_length_eq_zero hq] at hb; cases hb⟩
      rw [hq] at cl
      clear hst hlen
      go_wp2_with fail
      with_reducible refine Calls.mono (cl) ?_
      rintro e w2 ⟨rfl, rfl⟩
      go_wp2_with fail
      go_ret
      exact hfin.out _ (by repeat (first | assumption | exact Below.refl _ _ | refine below_drewN ?_ _ | refine below_alloc ?_ _ | refine below_then ?_ (by assumption)))
    · have cf := first_any hst.out.ti.tm.pile hq
      obtain ⟨x, hx⟩ : ∃ x, M.getD 0 Sl.sl0 = x := ⟨_, rfl⟩
      obtain ⟨x0, x1, x2⟩ := x
      rw [hx] at cf
      unfold sv at cf
      have hf1 : ∀ W, (Instr.field 59 (.agg #[.int .i64 x0, .int .i64 x1, .int .i64 x2]) 0).run Try.prog W = .ok (.agg #[.int .i64 x0, .int .i64 x1]) W := fun W => by rfl
      have hf2 : ∀ W, (Instr.field 44 (.agg #[.int .i64 x0, .int .i64 x1]) 0).run Try.prog W = .ok (.int .i64 x0) W := fun W => by rfl
      have hf3 : ∀ W, (Instr.field 44 (.agg #[.int .i64 x0, .int .i64 x1]) 1).run Try.prog W = .ok (.int .i64 x1) W := fun W => by rfl
      have hta : ∀ W, (Instr.typeAssert (.iface 59 (.agg #[.int .i64 x0, .int .i64 x1, .int .i64 x2])) 20 59 false).run Try.prog W = .ok (.agg #[.int .i64 x0, .int .i64 x1, .int .i64 x2]) W := fun W => by rfl
      by_cases h1 : x0 ≤ now
      · obtain ⟨q, hqq⟩ : ∃ q, M.length = q + 1 := ⟨M.length - 1, by omega⟩
        have cp : Hid (∀ W, Below wr.heap.size wr W → Calls Try.prog 25 #[.iface 57 (.pointer (some ⟨p, 0, none⟩))] W fun e w' => e = .returned (.iface 59 (.agg #[.int .i64 x0, .int .i64 x1, .int .i64 x2])) ∧ Hid (Below wr.heap.size wr W ∧ Popped W p v4 M n e w')) := Lib.hid fun W hW => by
          have t := hst.out.ti.below hW
          refine (pop_any t.tm t.ok hqq).mono fun e w' h => ?_
          have he := h.1
          rw [hx] at he
          exact ⟨he, Lib.hid ⟨hW, h⟩⟩
        have hstep : Hid (∀ (W w4 w5 : World) (e : Ending) (u2 : Value) (w6 : World), Below wr.heap.size wr W → Popped W p v4 M n e w4 → Below w4.heap.size w4 w5 → GRow 1 w6 u2 (D.length + 1) (gs D ++ [.int .i64 x1]) → Wrote (fun k => (Value.slice s2 D.length c2).ownBlock = some k) w5 (fun k => u2.ownBlock = some k) w6 → ∃ s5 c5, u2 = .slice s5 (D ++ [(x0, x1, x2)]).length c5 ∧ Hid (∃ v2 M2, Dw B w6 p v2 u2 L (D ++ [(x0, x1, x2)]) M2 n now)) := Lib.hid fun W w4 w5 e u2 w6 hW hP hb hr hw => by
          obtain ⟨s5, c5, e5⟩ := hr.slice
          exact ⟨s5, c5, by rw [e5, List.length_append]; rfl, Lib.hid (hst.out.step hx h1 W hW hP hb hr hw)⟩
        have hrow : Hid (∀ (W w4 w5 : World) (e : Ending), Below wr.heap.size wr W → Popped W p v4 M n e w4 → Below w4.heap.size w4 w5 → GRow 1 w5 (.slice s2 D.length c2) D.length (gs D)) := Lib.hid fun W w4 w5 e hW ⟨_, v2, M2, k1, k2, k3, k4⟩ hb =>
          ((hst.out.row.below hW).wrote k4 (fun k hk => hst.out.off k hk)).below hb
        have hbd : D.length + 1 ≤ 1000000 := by omega
        clear hst hx
        go_wp2_with fail
        with_reducible refine Calls.mono (cl) ?_
        rintro e w2 ⟨rfl, rfl⟩
        go_wp2_with fail
        with_reducible refine Calls.mono (cf) ?_
        rintro e w3 ⟨rfl, hb3⟩
        go_wp2_with fail
        with_reducible refine Calls.mono (cp.out _ (by repeat (first | assumption | exact Below.refl _ _ | refine below_drewN ?_ _ | refine below_alloc ?_ _ | refine below_then ?_ (by assumption)))) ?_
        rintro e w4 ⟨rfl, hp4⟩
        have hrow4 := Lib.hid fun w5 hb => hrow.out w3 w4 w5 _ hp4.out.1 hp4.out.2 hb
        have key4 := Lib.hid fun w5 u2 w6 hb => hstep.out w3 w4 w5 _ u2 w6 hp4.out.1 hp4.out.2 hb
        clear cp hp4 hpc hrow hstep hb3 cl cf
        go_wp2_with (at_builtin; refine wpList_append_g rfl (.tmp 25) (.tmp 34) rfl rfl eltI (hrow4.out _ (below_alloc (Below.refl _ _) _)) rfl rfl (src_int x1 w4) hbd ?_; intro u2 w5 g1 g2; obtain ⟨s5, c5, rfl, hk⟩ := key4.out _ u2 w5 (below_alloc (Below.refl _ _) _) g1 g2; clear g1 g2 hrow4 key4)
        obtain ⟨v2, M2, hk⟩ := hk.out
        replace hk := Lib.hid hk
        go_wp2_with fail
        go_roundg (L.length - (D ++ [(x0, x1, x2)]).length)
        case measure => rw [List.length_append, List.length_singleton]; omega
        case rel => exact ⟨D ++ [(x0, x1, x2)], M2, v2, s5, c5, by simp, by rw [List.length_append, List.length_singleton]; omega, hk⟩
      · have hfin : Hid (∀ W, Below wr.heap.size wr W → Dued B p L n now (.returned (.slice s2 D.length c2)) W) := Lib.hid fun W hW => ⟨_, D, M, v4, rfl, hst.out.bel hW, fun b hb => by
          obtain ⟨c, hc, rfl⟩ := List.getElem_of_mem hb
          have hl := hst.out.ti.ok.least Sl.ahead_ord c c (Nat.le_refl c) hc
          rw [hx, getD_at hc] at hl
          unfold Sl.ahead at hl
          simp only [decide_eq_false_iff_not] at hl
          omega⟩
        clear hst hx
        go_wp2_with fail
        with_reducible refine Calls.mono (cl) ?_
        rintro e w2 ⟨rfl, rfl⟩
        go_wp2_with fail
        with_reducible refine Calls.mono (cf) ?_
        rintro e w3 ⟨rfl, hb3⟩
        go_wp2_with fail
        go_ret
        exact hfin.out _ (by repeat (first | assumption | exact Below.refl _ _ | refine below_drewN ?_ _ | refine below_alloc ?_ _ | refine below_then ?_ (by assumption)))
end Pt
end Go.Proofs.Ytinlbenifmcgaaa
