/- The document's own Waits, as they lie, and what its calls answer: 32 rows of one object. -/
import Derived.Test.YtmngaedcckjfoabWaitTold
import Derived.Test.YtmngaedcckjfoabOut
import Derived.Test.YtmngaedcckjfoabPutNew
import Derived.RegionTactic
import Derived.Deep.RegionLaw
import Derived.StillTailTactics
import Derived.Deep.RegionHeld3
import Derived.Deep.RegionWith
namespace Go.Proofs.Ytmngaedcckjfoab
open Go.RowKit Go.Lib Fx Ho Gr Qu Rw Wt
set_option linter.unusedVariables false
namespace Wx
variable {w w' : World} {p : Nat} {V : Nat → Value} {Z : Nat → List Int} {H H' : Home}
/-- The block of 32 rows. -/
structure IsX (w : World) (p : Nat) (V : Nat → Value) (Z : Nat → List Int) : Prop where
  head : ∃ X : Array Value, w.heap[p]? = some (.cells X 65 (0, 0)) ∧ X.size = 32 ∧ ∀ j, j < 32 → X[j]? = some (V j)
  row : ∀ j, j < 32 → OffRow w (V j) (Z j)
  o1 : ∀ j, j < 32 → (V j).ownBlock ≠ some p
  o2 : ∀ i j, i < 32 → j < 32 → i ≠ j → ∀ k, (V i).ownBlock = some k → (V j).ownBlock ≠ some k
namespace IsX
theorem plt (h : IsX w p V Z) : p < w.heap.size := by obtain ⟨X, hX, _⟩ := h.head; exact block_lt hX
theorem lt (h : IsX w p V Z) {k : Nat} (hk : home p V k) : k < w.heap.size := by
  rcases hk with rfl | ⟨j, hj, hk⟩
  · exact h.plt
  · exact (h.row j hj).lt hk
theorem cell (h : IsX w p V Z) {j : Nat} (hj : j < 32) : w.cell? ⟨p, j, none⟩ = some (V j) ∧ w.frozen? ⟨p, j, none⟩ = false := by
  obtain ⟨X, hX, _, hx⟩ := h.head
  exact ⟨cell_of hX (hx j hj), frozen_of_row w p j _ _ hX⟩
theorem wrote (h : IsX w p V Z) (ht : Wrote H w H' w') (ho : Off (home p V) H) : IsX w' p V Z := by
  obtain ⟨X, hX, h1, h2⟩ := h.head
  exact ⟨⟨X, by rw [ht.block p (block_lt hX) (fun h' => ho p (Or.inl rfl) h')]; exact hX, h1, h2⟩, fun j hj => (h.row j hj).wrote ht (fun k hk h' => ho k (Or.inr ⟨j, hj, hk⟩) h'), h.o1, h.o2⟩
theorem below (h : IsX w p V Z) (hb : Below w.heap.size w w') : IsX w' p V Z := h.wrote (H := fun _ => False) (Wrote.of_below hb) (fun _ _ h => h)
theorem ints (h : IsX w p V Z) {j : Nat} (hj : j < 32) : Ints w (fun k => (V j).ownBlock = some k) (V j) (Z j) := (h.row j hj).ints
/-- A row is another one. -/
theorem put (h : IsX w p V Z) {i : Nat} (hi : i < 32) {w1 : World} {v1 : Value} {zs : List Int} (hr : OffRow w1 v1 zs) (hw : Wrote (fun k => (V i).ownBlock = some k) w (fun k => v1.ownBlock = some k) w1) :
    IsX (w1.setCell ⟨p, i, none⟩ v1) p (upd V i v1) (upd Z i zs) ∧ Wrote (home p V) w (home p (upd V i v1)) (w1.setCell ⟨p, i, none⟩ v1) := by
  obtain ⟨X, hX, h1, h2⟩ := h.head
  have hp := block_lt hX
  have hd : w1.heap[p]? = w.heap[p]? := hw.block p hp (h.o1 i hi)
  have hq1 : v1.ownBlock ≠ some p := fun e => (hw.home p e).elim (h.o1 i hi) (fun h2 => by omega)
  have hq2 : ∀ j, j < 32 → j ≠ i → ∀ k, (V j).ownBlock = some k → v1.ownBlock ≠ some k := fun j hj hji k hk e => (hw.home k e).elim (fun h2 => h.o2 j i hj hi hji k hk h2) (fun h2 => by have := (h.row j hj).lt hk; omega)
  have hw2 : Wrote (fun k => k = p) w1 (fun k => k = p) (w1.setCell ⟨p, i, none⟩ v1) := wrote_setCell (H := fun k => k = p) (a := ⟨p, i, none⟩) (u := v1) rfl rfl rfl rfl rfl
  refine ⟨⟨⟨X.setIfInBounds i v1, by rw [heap_setCell_same _ p i _ _ _ (hd.trans hX)], by rw [Array.size_setIfInBounds]; exact h1, fun j hj => ?_⟩, fun j hj => ?_, fun j hj => ?_, fun a b ha hb hab k => ?_⟩, ⟨hw2.os.trans hw.os, hw2.tape.trans hw.tape, hw2.output.trans hw.output, Nat.le_trans hw.size hw2.size, fun k hk hn => (hw2.block k (Nat.lt_of_lt_of_le hk hw.size) (fun e => hn (Or.inl e))).trans (hw.block k hk (fun e => hn (Or.inr ⟨i, hi, e⟩))), fun k hk => ?_⟩⟩
  · by_cases e : j = i
    · subst e; rw [upd_same]; simp [h1, hj]
    · rw [upd_ne _ _ e, Array.getElem?_setIfInBounds_ne (fun e' => e e'.symm)]; exact h2 j hj
  · by_cases e : j = i
    · subst e; rw [upd_same, upd_same]; exact hr.wrote hw2 (fun k hk e => hq1 (by rw [hk, e]))
    · rw [upd_ne _ _ e, upd_ne _ _ e]; exact ((h.row j hj).wrote hw (fun k hk e' => h.o2 j i hj hi e k hk e')).wrote hw2 (fun k hk e' => h.o1 j hj (by rw [hk, e']))
  · by_cases e : j = i
    · subst e; rw [upd_same]; exact hq1
    · rw [upd_ne _ _ e]; exact h.o1 j hj
  · by_cases ea : a = i
    · subst ea
      rw [upd_same, upd_ne _ _ (fun e => hab e.symm)]
      exact fun hk e => hq2 b hb (fun e => hab e.symm) k e hk
    · by_cases eb : b = i
      · subst eb
        rw [upd_same, upd_ne _ _ ea]
        exact fun hk => hq2 a ha ea k hk
      · rw [upd_ne _ _ ea, upd_ne _ _ eb]; exact h.o2 a b ha hb hab k
  · rcases hk with hk | ⟨j, hj, hk⟩
    · exact Or.inl (Or.inl hk)
    · by_cases e : j = i
      · subst e
        rw [upd_same] at hk
        exact (hw.home k hk).imp (fun h2 => Or.inr ⟨j, hj, h2⟩) id
      · rw [upd_ne _ _ e] at hk
        exact Or.inl (Or.inr ⟨j, hj, hk⟩)
end IsX
variable {W W0 : World}
/-- A session of a law. -/
def Sx (W0 W : World) (p : Nat) (H : Home) (Z : Nat → List Int) : Prop := ∃ V, IsX W p V Z ∧ Low W0.heap.size H ∧ Below W0.heap.size W0 W ∧ H = home p V
/-- The call answers r; who waits is so then. -/
def StepX (r : Value) (W0 W : World) (p : Nat) (H : Home) (Z : Nat → List Int) (e : Ending) (W' : World) : Prop := e = .returned r ∧ ∃ H', Wrote H W H' W' ∧ Sx W0 W' p H' Z
namespace Sx
variable {W' : World}
theorem out (h : Sx W0 W p H Z) : Below W0.heap.size W0 W := by obtain ⟨_, _, _, h, _⟩ := h; exact h
theorem low (h : Sx W0 W p H Z) : Low W0.heap.size H := by obtain ⟨_, _, h, _, _⟩ := h; exact h
theorem lt (h : Sx W0 W p H Z) {k : Nat} (hk : H k) : k < W.heap.size := by obtain ⟨_, h, _, _, rfl⟩ := h; exact h.lt hk
theorem below (h : Sx W0 W p H Z) (hb : Below W.heap.size W W') : Sx W0 W' p H Z := by
  obtain ⟨V, h1, h2, h3, h4⟩ := h
  exact ⟨V, h1.below hb, h2, h3.trans (hb.mono h3.size), h4⟩
theorem wrote {H1 H2 : Home} (h : Sx W0 W p H Z) (hw : Wrote H1 W H2 W') (ho : Off H H1) (hl : Low W0.heap.size H1) : Sx W0 W' p H Z := by
  obtain ⟨V, h1, h2, h3, rfl⟩ := h
  exact ⟨V, h1.wrote hw ho, h2, h3.trans (Rw.below_of_wrote hw hl h3.size), rfl⟩
theorem step {V V' : Nat → Value} {Z' : Nat → List Int} {r : Value} {e : Ending} (h : Low W0.heap.size (home p V)) (hb : Below W0.heap.size W0 W) (he : e = .returned r) (h2 : IsX W' p V' Z') (hw : Wrote (home p V) W (home p V') W') : StepX r W0 W p (home p V) Z' e W' :=
  ⟨he, _, hw, V', h2, hw.low h hb.size, hb.trans (Rw.below_of_wrote hw h hb.size), rfl⟩
end Sx
set_option maxRecDepth 100000 in
set_option maxHeartbeats 2000000 in
/-- g waits at a place. -/
theorem rwait_in (h : Sx W0 W p H Z) {a : Nat} (ha : a < 32) (g : Int) (hno : ∀ j, j < 32 → g ∉ Z j) (hs : (Z a).length < 100000) : Calls Try.prog 39 #[.pointer (some ⟨p, 0, none⟩), .int .i64 a, .int .i64 g] W (StepX (.int .i64 0) W0 W p H (upd Z a (Z a ++ [g]))) := by
  obtain ⟨V, h1, hl, hb0, rfl⟩ := h
  have hc : Hid (∀ j, j < 32 → W.cell? ⟨p, j, none⟩ = some (V j) ∧ Calls Try.prog 36 #[V j, .int .i64 g] W (Still (.bool false) W)) := Lib.hid fun j hj => ⟨(h1.cell hj).1, by have := has_any g (h1.ints hj); rwa [decide_eq_false (hno j hj)] at this⟩
  have i0 : (0 : Int) ≤ (a : Int) := by omega
  have i1 : ¬ (a : Int) < 0 := by omega
  have i2 : ¬ (31 : Int) < (a : Int) := by omega
  have i3 : (a : Int) < 32 := by omega
  obtain ⟨sv, cv, hv⟩ := (h1.row a ha).slice
  have c0 := (h1.cell ha).1
  have hp := h1.plt
  have hsrc : Hid (∀ w, Below W.heap.size W w → Src Try.prog 1 26 (.slice sv (Z a).length cv) (Z a).length (cells (Z a)) w) := Lib.hid fun w hw => by rw [← hv]; exact src_of_ints ((h1.ints ha).below hw)
  have hfin : Hid (∀ (w : World) (v : Value), Below W.heap.size W w → Low W.heap.size (fun k => v.ownBlock = some k) → OffRow w v (Z a ++ [g]) → (∃ s n c, v = .slice s n c) ∧ w.cell? ⟨p, a, none⟩ = some (V a) ∧ w.frozen? ⟨p, a, none⟩ = false ∧ Hid (∀ e, e = .returned (.int .i64 0) → StepX (.int .i64 0) W0 W p (home p V) (upd Z a (Z a ++ [g])) e (w.setCell ⟨p, a, none⟩ v))) := Lib.hid fun w v hb hlow hr => by
    obtain ⟨s, c, e⟩ := hr.slice
    obtain ⟨f1, f2⟩ := (h1.below hb).cell ha
    obtain ⟨k1, k2⟩ := h1.put ha hr (Wrote.of_made hb hlow)
    exact ⟨⟨s, _, c, e⟩, f1, f2, Lib.hid fun e he => Sx.step hl hb0 he k1 k2⟩
  have hbA : ([] : List Int).length + (Z a).length ≤ 1000000 := by simp; omega
  have hb1 : (Z a).length + [g].length ≤ 1000000 := by simp; omega
  rw [hv] at c0 hfin
  clear h1 hl hb0 hv hno hs
  go_enter Try.func39, Try.ntmps39
  go_wp2_with fail
  go_loopw [7] (fun x wr => ∃ j : Nat, x = .int .i64 j ∧ j ≤ 32 ∧ wr = W) (fun x _ => (32 - (RowKit.intOf x).toNat))
  case atStart => exact ⟨0, rfl, by omega, rfl⟩
  case round =>
    obtain ⟨j, rfl, j1, e⟩ := hrel
    subst e
    by_cases hj : j < 32
    · have j0 : (0 : Int) ≤ (j : Int) := by omega
      have j2 : (j : Int) < 32 := by omega
      obtain ⟨d0, ci⟩ := hc.out j hj
      clear c0 hsrc hfin
      generalize V j = v at *
      go_wp2_with fail
      with_reducible refine Calls.mono ci ?_
      rintro e w2 ⟨rfl, e2⟩
      subst e2
      clear ci d0
      go_wp2_with fail
      go_roundw
      case rel => exact ⟨j + 1, by go_num, by omega, by first | rfl | trivial⟩
      case measure => simp [RowKit.intOf]; omega
    · obtain rfl : j = 32 := by omega
      clear hc
      go_wp2_with fail
      go_region_law (first
      | (refine step_append_off rfl (.tmp 35) (.tmp 37) rfl rfl (off_below hr7.out (by (repeat (first | exact Below.refl _ _ | refine below_alloc ?_ _ | refine below_drewN ?_ _ | refine Below.drew ?_)))) rfl rfl (src1_at (x := g) (by first | exact hjb.out | exact heap_alloc_new w7 _)) hb1 ?_; intro v8 w8 g3 g4; have hl8 := g4.low hl7.out (Below.size (w := wr) (by (repeat (first | exact hB7.out | exact Below.refl _ _ | refine below_alloc ?_ _ | refine below_drewN ?_ _ | refine Below.drew ?_)))); have hB8 := g4.below hl7.out (by (repeat (first | exact hB7.out | exact Below.refl _ _ | refine below_alloc ?_ _ | refine below_drewN ?_ _ | refine Below.drew ?_))); have hk9 := hfin.out w8 v8 hB8 hl8 g3; obtain ⟨⟨s9, n9, c9, rfl⟩, f1, f2, hgo⟩ := hk9; clear g3 g4 hl8 hB8 hr7 hl7 hB7 hk3 hfin)
      | (refine step_append_off rfl (.tmp 28) (.tmp 34) rfl rfl (lit_off (by first | exact lt_new _ _ | exact lt_new1 (by exact size_new wr _) | exact Nat.lt_trans (lt_new _ _) (lt_new _ _))) rfl rfl (hsrc.out _ (by (repeat (first | exact Below.refl _ _ | refine below_alloc ?_ _ | refine below_drewN ?_ _ | refine Below.drew ?_)))) hbA ?_; intro v7 w7 g1 g2; have hk := off_one (wq := wr) (by (repeat (first | exact Below.refl _ _ | refine below_alloc ?_ _ | refine below_drewN ?_ _ | refine Below.drew ?_))) (by first | exact Nat.le_refl _ | exact Nat.le_succ _ | exact Below.size (w := wr) (by (repeat (first | exact Below.refl _ _ | refine below_alloc ?_ _ | refine below_drewN ?_ _ | refine Below.drew ?_)))) g1 g2; have hr7 := Lib.hid hk.1; have hl7 := Lib.hid hk.2.1; have hB7 := Lib.hid hk.2.2.1; have hk3 := Lib.hid hk.2.2.2; clear hk g1 g2; try (first
          | (have hjb : Hid (w7.heap[wr.heap.size + 1]? = some (.cells #[.int .i64 g] 3 (0, 0))) := Lib.hid (hk3.out (wr.heap.size + 1) _ (Nat.succ_ne_self _) (heap_new1 (w := wr) (by exact size_new wr _))))
          | (have hjb : Hid (w7.heap[wr.heap.size]? = some (.cells #[.int .i64 g] 3 (0, 0))) := Lib.hid (hk3.out wr.heap.size _ (Nat.succ_ne_self _).symm (old_new (w := wr) (C := #[.int .i64 g]) (t := 3) (by (repeat (first | exact Below.refl _ _ | refine below_alloc ?_ _ | refine below_drewN ?_ _ | refine Below.drew ?_)))))))))
      all_goals
        go_wp2_with fail
        go_ret
        exact hgo.out _ rfl
set_option maxRecDepth 100000 in
set_option maxHeartbeats 1000000 in
theorem rwait_busy (h : Sx W0 W p H Z) {a : Nat} (ha : a < 32) (g : Int) {b : Nat} {A B : List Int} (hat : At Z g b A B) : Calls Try.prog 39 #[.pointer (some ⟨p, 0, none⟩), .int .i64 a, .int .i64 g] W (Still (.int .i64 5) W) := by
  obtain ⟨V, h1, _⟩ := h
  have hb := hat.a32
  have hc : Hid (∀ j, j < b → W.cell? ⟨p, j, none⟩ = some (V j) ∧ Calls Try.prog 36 #[V j, .int .i64 g] W (Still (.bool false) W)) := Lib.hid fun j hj => ⟨(h1.cell (by omega)).1, by have := has_any g (h1.ints (j := j) (by omega)); rwa [decide_eq_false (hat.none j hj)] at this⟩
  have hc2 : Hid (W.cell? ⟨p, b, none⟩ = some (V b) ∧ Calls Try.prog 36 #[V b, .int .i64 g] W (Still (.bool true) W)) := Lib.hid ⟨(h1.cell hb).1, by have := has_any g (h1.ints hb); rwa [decide_eq_true (show g ∈ Z b by rw [hat.row]; simp)] at this⟩
  have i1 : ¬ (a : Int) < 0 := by omega
  have i2 : ¬ (31 : Int) < (a : Int) := by omega
  clear h1 hat
  go_enter Try.func39, Try.ntmps39
  go_wp2_with fail
  go_loopw [7] (fun x wr => ∃ j : Nat, x = .int .i64 j ∧ j ≤ b ∧ wr = W) (fun x _ => (32 - (RowKit.intOf x).toNat))
  case atStart => exact ⟨0, rfl, by omega, rfl⟩
  case round =>
    obtain ⟨j, rfl, j1, e⟩ := hrel
    subst e
    have j0 : (0 : Int) ≤ (j : Int) := by omega
    have j2 : (j : Int) < 32 := by omega
    by_cases hj : j < b
    · obtain ⟨d0, ci⟩ := hc.out j hj
      clear hc2
      generalize V j = v at *
      go_wp2_with fail
      with_reducible refine Calls.mono ci ?_
      rintro e w2 ⟨rfl, e2⟩
      subst e2
      clear ci d0
      go_wp2_with fail
      go_roundw
      case rel => exact ⟨j + 1, by go_num, by omega, by first | rfl | trivial⟩
      case measure => simp [RowKit.intOf]; omega
    · obtain rfl : j = b := by omega
      obtain ⟨d0, ci⟩ := hc2.out
      clear hc
      generalize V j = v at *
      go_wp2_with fail
      with_reducible refine Calls.mono ci ?_
      rintro e w2 ⟨rfl, e2⟩
      subst e2
      clear ci d0
      go_wp2_with fail
      go_ret
      exact ⟨rfl, rfl⟩
set_option maxRecDepth 100000 in
theorem rwait_range (a g : Int) (ha : a < 0 ∨ 32 ≤ a) (w : World) : Calls Try.prog 39 #[.pointer (some ⟨p, 0, none⟩), .int .i64 a, .int .i64 g] w (Still (.int .i64 2) w) := by
  by_cases h0 : a < 0
  · clear ha
    go_enter Try.func39, Try.ntmps39
    go_wp2_with fail
    go_ret
    exact ⟨rfl, rfl⟩
  · have h1 : 31 < a := by omega
    clear ha
    go_enter Try.func39, Try.ntmps39
    go_wp2_with fail
    go_ret
    exact ⟨rfl, rfl⟩
set_option maxRecDepth 100000 in
theorem rwake_out (a : Int) (ha : a < 0 ∨ 32 ≤ a) (w : World) : Calls Try.prog 41 #[.pointer (some ⟨p, 0, none⟩), .int .i64 a] w (Still (.tuple #[.int .i64 0, .bool false]) w) := by
  by_cases h0 : a < 0
  · clear ha
    go_enter Try.func41, Try.ntmps41
    go_wp2_with fail
    go_ret2
    exact ⟨rfl, rfl⟩
  · have h1 : 31 < a := by omega
    clear ha
    go_enter Try.func41, Try.ntmps41
    go_wp2_with fail
    go_ret2
    exact ⟨rfl, rfl⟩
set_option maxRecDepth 100000 in
theorem rwake_none (h : Sx W0 W p H Z) {a : Nat} (ha : a < 32) (hz : Z a = []) : Calls Try.prog 41 #[.pointer (some ⟨p, 0, none⟩), .int .i64 a] W (Still (.tuple #[.int .i64 0, .bool false]) W) := by
  obtain ⟨V, h1, _⟩ := h
  have c0 := (h1.cell ha).1
  obtain ⟨sv, cv, hv⟩ := (h1.row a ha).slice
  rw [hz] at hv
  rw [hv] at c0
  have i0 : (0 : Int) ≤ (a : Int) := by omega
  have i1 : ¬ (a : Int) < 0 := by omega
  have i2 : ¬ (31 : Int) < (a : Int) := by omega
  have i3 : (a : Int) < 32 := by omega
  clear h1 hv hz
  replace c0 : W.cell? ⟨p, a, none⟩ = some (.slice sv 0 cv) := c0
  go_enter Try.func41, Try.ntmps41
  go_wp2_with fail
  go_ret2
  exact ⟨rfl, rfl⟩
set_option maxRecDepth 100000 in
set_option maxHeartbeats 2000000 in
theorem rwake_some (h : Sx W0 W p H Z) {a : Nat} (ha : a < 32) {g : Int} {T : List Int} (hz : Z a = g :: T) : Calls Try.prog 41 #[.pointer (some ⟨p, 0, none⟩), .int .i64 a] W (StepX (.tuple #[.int .i64 g, .bool true]) W0 W p H (upd Z a T)) := by
  obtain ⟨V, h1, hl, hb0, rfl⟩ := h
  obtain ⟨c0, f0⟩ := h1.cell ha
  have hr := h1.row a ha
  rw [hz] at hr
  obtain ⟨ao, b, off, cap, hv, g1, g2, g3, g4⟩ := hr.cell
  have hn : (g :: T).length = T.length + 1 := rfl
  rw [hn] at hv g1
  obtain ⟨rfl, g5⟩ := g3 (by omega)
  have g6 : W.cell? ⟨b, off, none⟩ = some (.int .i64 g) := by simpa using g4 0 (by simp)
  have key : Hid (∀ a1 n, (a1 = some ⟨b, off + 1, none⟩ ∨ cap = 1 ∧ a1 = some ⟨b, off, none⟩) → n = T.length → ∀ W', W'.heap = (W.setCell ⟨p, a, none⟩ (.slice a1 n (cap - 1))).heap → W'.os = W.os → W'.tape = W.tape → W'.output = W.output → ∀ e, e = .returned (.tuple #[.int .i64 g, .bool true]) → StepX (.tuple #[.int .i64 g, .bool true]) W0 W p (home p V) (upd Z a T) e W') := Lib.hid fun a1 n ha1 hn W' e1 e2 e3 e4 e he => by
    subst hn
    have hr2 : OffRow W (.slice (some ⟨b, off, none⟩) (g :: T).length cap) (g :: T) := by rw [show (g :: T).length = T.length + 1 from rfl, ← hv]; exact hr
    have hd := Qu.OffRow.drop (n := 1) (a1 := a1) hr2 (by simp) (ha1.imp (fun e => by rw [e]; simp [addr_add]) id)
    have hd2 : OffRow W (.slice a1 T.length (cap - 1)) T := hd
    have hw1 : Wrote (fun k => (V a).ownBlock = some k) W (fun k => (Value.slice a1 T.length (cap - 1)).ownBlock = some k) W := (Wrote.refl _ _).same fun k hk => by
      rw [hv]
      rcases ha1 with rfl | ⟨_, rfl⟩
      · exact hk
      · exact hk
    obtain ⟨k1, k2⟩ := h1.put ha hd2 hw1
    have hbs : Below (W.setCell ⟨p, a, none⟩ (.slice a1 T.length (cap - 1))).heap.size (W.setCell ⟨p, a, none⟩ (.slice a1 T.length (cap - 1))) W' := Wt.below_same e1 e2 e3 e4
    exact Sx.step hl hb0 he (k1.below hbs) (k2.trans (Wrote.of_below hbs))
  have hp := h1.plt
  rw [hv] at c0
  unfold maxLen at g2
  have i0 : (0 : Int) ≤ (a : Int) := by omega
  have i1 : ¬ (a : Int) < 0 := by omega
  have i2 : ¬ (31 : Int) < (a : Int) := by omega
  have i3 : (a : Int) < 32 := by omega
  have hpb : b ≠ p := fun e => h1.o1 a ha (by rw [hv, ← e]; rfl)
  clear h1 hl hb0 hr hv g3 g4 hz hn
  generalize T.length = t at *
  have t1 : (1 : Int) ≤ (t : Int) + 1 := by omega
  have t0 : (0 : Int) < (t : Int) + 1 := by omega
  have t2 : (((t : Nat) : Int) + 1 == 0) = false := by rw [beq_eq_false_iff_ne]; omega
  by_cases hc1 : cap = 1
  · obtain rfl : t = 0 := by omega
    subst hc1
    go_enter Try.func41, Try.ntmps41
    go_wp2_with fail
    go_region
    all_goals
      go_wp2_with fail
      go_ret2
      exact key.out (some ⟨b, off, none⟩) 0 (.inr ⟨by trivial, by trivial⟩) rfl _ (by rfl) (by rfl) (by rfl) (by rfl) _ rfl
  · go_enter Try.func41, Try.ntmps41
    go_wp2_with fail
    go_region
    all_goals
      go_wp2_with fail
      go_ret2
      exact key.out (some ⟨b, off + 1, none⟩) t (.inl rfl) rfl _ (by rfl) (by rfl) (by rfl) (by rfl) _ rfl
set_option maxRecDepth 100000 in
set_option maxHeartbeats 1000000 in
theorem rdel_no (h : Sx W0 W p H Z) (g : Int) (hno : ∀ j, j < 32 → g ∉ Z j) : Calls Try.prog 43 #[.pointer (some ⟨p, 0, none⟩), .int .i64 g] W (Still (.bool false) W) := by
  obtain ⟨V, h1, _⟩ := h
  have hc : Hid (∀ j, j < 32 → ∃ s n c, V j = .slice s n c ∧ W.cell? ⟨p, j, none⟩ = some (.slice s n c) ∧ Calls Try.prog 35 #[.slice s n c, .int .i64 g] W (Still (.tuple #[.slice s n c, .bool false]) W)) := Lib.hid fun j hj => by
    obtain ⟨s, c, e⟩ := (h1.row j hj).slice
    have h2 := (h1.cell hj).1
    have h3 := out_not (h1.ints hj) (hno j hj)
    rw [e] at h2 h3
    exact ⟨s, _, c, e, h2, h3⟩
  clear h1 hno
  go_enter Try.func43, Try.ntmps43
  go_wp2_with fail
  go_loopw [5] (fun x wr => ∃ j : Nat, x = .int .i64 j ∧ j ≤ 32 ∧ wr = W) (fun x _ => (32 - (RowKit.intOf x).toNat))
  case atStart => exact ⟨0, rfl, by omega, rfl⟩
  case round =>
    obtain ⟨j, rfl, j1, e⟩ := hrel
    subst e
    by_cases hj : j < 32
    · have j0 : (0 : Int) ≤ (j : Int) := by omega
      have j2 : (j : Int) < 32 := by omega
      obtain ⟨s, n, c, -, d0, ci⟩ := hc.out j hj
      go_wp2_with fail
      with_reducible refine Calls.mono ci ?_
      rintro e w2 ⟨rfl, e2⟩
      subst e2
      clear ci d0
      go_wp2_with fail
      go_roundw
      case rel => exact ⟨j + 1, by go_num, by omega, by first | rfl | trivial⟩
      case measure => simp [RowKit.intOf]; omega
    · obtain rfl : j = 32 := by omega
      go_wp2_with fail
      go_ret
      exact ⟨rfl, rfl⟩
set_option maxRecDepth 100000 in
set_option maxHeartbeats 2000000 in
theorem rdel_yes (h : Sx W0 W p H Z) (g : Int) {a : Nat} {A B : List Int} (hat : At Z g a A B) (hs : (Z a).length ≤ 100000) : Calls Try.prog 43 #[.pointer (some ⟨p, 0, none⟩), .int .i64 g] W (StepX (.bool true) W0 W p H (upd Z a (A ++ B))) := by
  obtain ⟨V, h1, hl, hb0, rfl⟩ := h
  have ha := hat.a32
  have hc : Hid (∀ j, j < a → ∃ s n c, V j = .slice s n c ∧ W.cell? ⟨p, j, none⟩ = some (.slice s n c) ∧ Calls Try.prog 35 #[.slice s n c, .int .i64 g] W (Still (.tuple #[.slice s n c, .bool false]) W)) := Lib.hid fun j hj => by
    obtain ⟨s, c, e⟩ := (h1.row j (by omega)).slice
    have h2 := (h1.cell (j := j) (by omega)).1
    have h3 := out_not (h1.ints (j := j) (by omega)) (hat.none j hj)
    rw [e] at h2 h3
    exact ⟨s, _, c, e, h2, h3⟩
  have hca : Hid (∃ s n c, W.cell? ⟨p, a, none⟩ = some (.slice s n c) ∧ Calls Try.prog 35 #[.slice s n c, .int .i64 g] W fun e w => ∃ s2 n2 c2, e = .returned (.tuple #[.slice s2 n2 c2, .bool true]) ∧ p < w.heap.size ∧ w.cell? ⟨p, a, none⟩ = some (V a) ∧ w.frozen? ⟨p, a, none⟩ = false ∧ Hid (∀ e, e = .returned (.bool true) → StepX (.bool true) W0 W p (home p V) (upd Z a (A ++ B)) e (w.setCell ⟨p, a, none⟩ (.slice s2 n2 c2)))) := Lib.hid (by
    obtain ⟨ao, b, off, cap, e, g1, g2, g3, g4⟩ := (h1.row a ha).cell
    have h2 := (h1.cell ha).1
    have hi := h1.ints ha
    rw [e] at h2 hi
    rw [hat.row] at h2 hi g1 hs
    refine ⟨_, _, _, h2, (out_some hi hat.first rfl g1 (by omega)).mono fun e2 w ⟨v', q1, q2, q3, q4⟩ => ?_⟩
    obtain ⟨s2, c2, rfl⟩ := q2.slice
    obtain ⟨f1, f2⟩ := (h1.below q4).cell ha
    obtain ⟨k1, k2⟩ := h1.put ha q2 (Wrote.of_made q4 q3)
    exact ⟨s2, _, c2, q1, Nat.lt_of_lt_of_le h1.plt q4.size, f1, f2, Lib.hid fun e he => Sx.step hl hb0 he k1 k2⟩)
  clear h1 hl hb0 hat hs
  go_enter Try.func43, Try.ntmps43
  go_wp2_with fail
  go_loopw [5] (fun x wr => ∃ j : Nat, x = .int .i64 j ∧ j ≤ a ∧ wr = W) (fun x _ => (32 - (RowKit.intOf x).toNat))
  case atStart => exact ⟨0, rfl, by omega, rfl⟩
  case round =>
    obtain ⟨j, rfl, j1, e⟩ := hrel
    subst e
    have j0 : (0 : Int) ≤ (j : Int) := by omega
    have j2 : (j : Int) < 32 := by omega
    by_cases hj : j < a
    · obtain ⟨s, n, c, -, d0, ci⟩ := hc.out j hj
      clear hca
      go_wp2_with fail
      with_reducible refine Calls.mono ci ?_
      rintro e w2 ⟨rfl, e2⟩
      subst e2
      clear ci d0
      go_wp2_with fail
      go_roundw
      case rel => exact ⟨j + 1, by go_num, by omega, by first | rfl | trivial⟩
      case measure => simp [RowKit.intOf]; omega
    · obtain rfl : j = a := by omega
      obtain ⟨s, n, c, d0, ci⟩ := hca.out
      clear hc hca
      go_wp2_with fail
      with_reducible refine Calls.mono ci ?_
      rintro e w2 ⟨s2, n2, c2, rfl, q1, q2, q3, hfin⟩
      clear ci d0
      go_wp2_with fail
      go_ret
      exact hfin.out _ rfl
set_option maxRecDepth 100000 in
set_option maxHeartbeats 1000000 in
theorem rlen_any (h : Sx W0 W p H Z) (hs : ∀ k, k ≤ 32 → sumZ Z k ≤ 1000000) : Calls Try.prog 45 #[.pointer (some ⟨p, 0, none⟩)] W (Still (.int .i64 (sumZ Z 32)) W) := by
  obtain ⟨V, h1, _⟩ := h
  have hidx : Hid (∀ k, k < 32 → ∃ s c, W.cell? ⟨p, k, none⟩ = some (.slice s (Z k).length c)) := Lib.hid fun k hk => by
    obtain ⟨s, c, e⟩ := (h1.row k hk).slice
    have h2 := (h1.cell hk).1
    rw [e] at h2
    exact ⟨s, c, h2⟩
  replace hs := Lib.hid hs
  clear h1
  go_enter Try.func45, Try.ntmps45
  go_wp2_with fail
  go_loopw [3, 4] (fun u x wr => ∃ k : Nat, u = .int .i64 (sumZ Z k : Nat) ∧ x = .int .i64 k ∧ k ≤ 32 ∧ wr = W) (fun _ x _ => (32 - (RowKit.intOf x).toNat))
  case atStart => exact ⟨0, rfl, rfl, by omega, rfl⟩
  case round =>
    obtain ⟨k, rfl, rfl, k1, e⟩ := hrel
    subst e
    by_cases hk : k < 32
    · have i2 : (k : Int) < 32 := by omega
      have i0 : (0 : Int) ≤ (k : Int) := by omega
      obtain ⟨s, c, d0⟩ := hidx.out k hk
      have h1 := hs.out k (by omega)
      have h2 := hs.out (k + 1) (by omega)
      have h3 : Hid (sumZ Z (k + 1) = sumZ Z k + (Z k).length) := Lib.hid rfl
      rw [h3.out] at h2
      generalize (Z k).length = l at *
      generalize hsk : sumZ Z k = sk at *
      replace hsk := Lib.hid hsk
      go_wp2_with fail
      go_roundw
      case rel => exact ⟨k + 1, by rw [h3.out]; go_num, by go_num, by omega, by first | rfl | trivial⟩
      case measure => simp [RowKit.intOf]; omega
    · obtain rfl : k = 32 := by omega
      clear hidx hs
      go_wp2_with fail
      go_ret
      exact ⟨rfl, rfl⟩
end Wx
end Go.Proofs.Ytmngaedcckjfoab
