/- What the calls of package wait answer of who waits, and make of it. -/
import Derived.Test.YtmngaedcckjfoabWait
import Derived.Laws.Rows
import Derived.Deep.RegionLaw
import Derived.StillTailTactics
import Derived.Deep.RegionHeld3
import Derived.Deep.RegionWith
namespace Go.Proofs.Ytmngaedcckjfoab
open Go.RowKit Go.Lib Fx Ho Gr Qu Rw
set_option linter.unusedVariables false
namespace Wt
variable {w w' W W0 : World} {p : Nat} {V : Nat → Value} {Z : Nat → List Int} {H H' : Home}
def waits0 : Array Value := Array.replicate 32 (.slice none 0 0)
theorem built0 : Try.prog.built 109 [] = some waits0 := by kernel_rfl
/-- A session of a law. -/
def Sw (W0 W : World) (p : Nat) (H : Home) (Z : Nat → List Int) : Prop := ∃ V, IsW W p V Z ∧ Low W0.heap.size H ∧ Below W0.heap.size W0 W ∧ H = home p V
/-- The call answers r; who waits is so then. -/
def Step (r : Value) (W0 W : World) (p : Nat) (H : Home) (Z : Nat → List Int) (e : Ending) (W' : World) : Prop := e = .returned r ∧ ∃ H', Wrote H W H' W' ∧ Sw W0 W' p H' Z
namespace Sw
variable {W' : World}
theorem out (h : Sw W0 W p H Z) : Below W0.heap.size W0 W := by obtain ⟨_, _, _, h, _⟩ := h; exact h
theorem lt (h : Sw W0 W p H Z) {k : Nat} (hk : H k) : k < W.heap.size := by obtain ⟨_, h, _, _, rfl⟩ := h; exact h.lt hk
theorem below (h : Sw W0 W p H Z) (hb : Below W.heap.size W W') : Sw W0 W' p H Z := by
  obtain ⟨V, h1, h2, h3, h4⟩ := h
  exact ⟨V, h1.below hb, h2, h3.trans (hb.mono h3.size), h4⟩
theorem wrote {H1 H2 : Home} (h : Sw W0 W p H Z) (hw : Wrote H1 W H2 W') (ho : Off H H1) (hl : Low W0.heap.size H1) : Sw W0 W' p H Z := by
  obtain ⟨V, h1, h2, h3, rfl⟩ := h
  exact ⟨V, h1.wrote hw ho, h2, h3.trans (Rw.below_of_wrote hw hl h3.size), rfl⟩
theorem step {V V' : Nat → Value} {Z' : Nat → List Int} {r : Value} {e : Ending} (h : Low W0.heap.size (home p V)) (hb : Below W0.heap.size W0 W) (he : e = .returned r) (h2 : IsW W' p V' Z') (hw : Wrote (home p V) W (home p V') W') : Step r W0 W p (home p V) Z' e W' :=
  ⟨he, _, hw, V', h2, hw.low h hb.size, hb.trans (Rw.below_of_wrote hw h hb.size), rfl⟩
end Sw
set_option maxRecDepth 100000 in
theorem new_any (w : World) : Calls Try.prog 37 #[] w fun e w' => e = .returned (.pointer (some ⟨w.heap.size, 0, none⟩)) ∧ Sw w w' w.heap.size (home w.heap.size fun _ => .slice none 0 0) (fun _ => []) := by
  have hb := built0
  have hend : ∀ X : Array Value, X = waits0 → Sw w (w.alloc (.cells X 109)) w.heap.size (home w.heap.size fun _ => .slice none 0 0) (fun _ => []) := fun X e => by
    subst e
    refine ⟨_, ⟨⟨_, heap_alloc_new _ _, by decide, fun j hj => ?_⟩, fun j hj => offrow_nil _, fun j hj => by simp [Value.ownBlock], fun i j hi hj hij k hk => by simp [Value.ownBlock] at hk⟩, fun k hk => ?_, below_alloc (Below.refl _ _) _, rfl⟩
    · unfold waits0; rw [Array.getElem?_replicate, if_pos hj]
    · rcases hk with rfl | ⟨j, hj, hk⟩
      · exact Nat.le_refl _
      · simp [Value.ownBlock] at hk
  clear hb
  replace hend := Lib.hid hend
  go_enter Try.func37, Try.ntmps37
  go_wp2_with fail
  go_ret
  exact ⟨rfl, hend.out _ (by kernel_rfl)⟩
set_option maxRecDepth 100000 in
theorem place_in (at' : Nat) (h : at' < 32) (w : World) : Calls Try.prog 73 #[.int .i64 at'] w (Still (.bool true) w) := by
  have h1 : (0 : Int) ≤ (at' : Int) := by omega
  have h2 : (at' : Int) < 32 := by omega
  go_enter Try.func73, Try.ntmps73
  go_wp2_with fail
  go_ret
  exact ⟨rfl, rfl⟩
set_option maxRecDepth 100000 in
theorem place_out (at' : Int) (h : at' < 0 ∨ 32 ≤ at') (w : World) : Calls Try.prog 73 #[.int .i64 at'] w (Still (.bool false) w) := by
  by_cases h0 : at' < 0
  · have h1 : ¬ ((0 : Int) ≤ at') := by omega
    go_enter Try.func73, Try.ntmps73
    go_wp2_with fail
    go_ret
    exact ⟨rfl, rfl⟩
  · have h1 : (0 : Int) ≤ at' := by omega
    have h2 : ¬ (at' < 32) := by omega
    clear h
    go_enter Try.func73, Try.ntmps73
    go_wp2_with fail
    go_ret
    exact ⟨rfl, rfl⟩
/-- The first place where g waits: at a, behind A. -/
structure At (Z : Nat → List Int) (g : Int) (a : Nat) (A B : List Int) : Prop where
  a32 : a < 32
  none : ∀ j, j < a → g ∉ Z j
  row : Z a = A ++ g :: B
  first : g ∉ A
set_option maxRecDepth 100000 in
set_option maxHeartbeats 1000000 in
theorem seek_no (h : IsW w p V Z) (g : Int) (hno : ∀ j, j < 32 → g ∉ Z j) : Calls Try.prog 74 #[.pointer (some ⟨p, 0, none⟩), .int .i64 g] w (Still (.tuple #[.int .i64 0, .int .i64 0, .bool false]) w) := by
  have hc : Hid (∀ j, j < 32 → w.cell? ⟨p, j, none⟩ = some (V j) ∧ Calls Try.prog 91 #[V j, .int .i64 g] w (Still (.int .i64 (-1)) w)) := Lib.hid fun j hj => ⟨(h.cell hj).1, index_miss (h.ints hj) (not_at (hno j hj))⟩
  clear h hno
  go_enter Try.func74, Try.ntmps74
  go_wp2_with fail
  go_loopw [11] (fun x wr => ∃ j : Nat, x = .int .i64 j ∧ j ≤ 32 ∧ wr = w) (fun x _ => (32 - (RowKit.intOf x).toNat))
  case atStart => exact ⟨0, rfl, by omega, rfl⟩
  case round =>
    obtain ⟨j, rfl, j1, rfl⟩ := hrel
    by_cases hj : j < 32
    · have i0 : (0 : Int) ≤ (j : Int) := by omega
      have i2 : (j : Int) < 32 := by omega
      obtain ⟨c0, ci⟩ := hc.out j hj
      generalize V j = v at *
      go_wp2_with fail
      with_reducible refine Calls.mono ci ?_
      rintro e w2 ⟨rfl, rfl⟩
      clear ci c0
      go_wp2_with fail
      go_roundw
      case rel => exact ⟨j + 1, by go_num, by omega, by first | rfl | trivial⟩
      case measure => simp [RowKit.intOf]; omega
    · obtain rfl : j = 32 := by omega
      go_wp2_with fail
      go_ret3
      exact ⟨rfl, rfl⟩
set_option maxRecDepth 100000 in
set_option maxHeartbeats 1000000 in
theorem seek_yes (h : IsW w p V Z) (g : Int) {a : Nat} {A B : List Int} (hat : At Z g a A B) : Calls Try.prog 74 #[.pointer (some ⟨p, 0, none⟩), .int .i64 g] w (Still (.tuple #[.int .i64 a, .int .i64 A.length, .bool true]) w) := by
  have ha := hat.a32
  have hc : Hid (∀ j, j < a → w.cell? ⟨p, j, none⟩ = some (V j) ∧ Calls Try.prog 91 #[V j, .int .i64 g] w (Still (.int .i64 (-1)) w)) := Lib.hid fun j hj => ⟨(h.cell (by omega)).1, index_miss (h.ints (by omega)) (not_at (hat.none j hj))⟩
  have ca : Hid (w.cell? ⟨p, a, none⟩ = some (V a) ∧ Calls Try.prog 91 #[V a, .int .i64 g] w (Still (.int .i64 A.length) w)) := Lib.hid ⟨(h.cell ha).1, by
    have hi := h.ints ha
    rw [hat.row] at hi
    exact index_hit (k := A.length) hi (by simp) at_first (before_first hat.first)⟩
  clear h hat
  generalize A.length = l at *
  go_enter Try.func74, Try.ntmps74
  go_wp2_with fail
  go_loopw [11] (fun x wr => ∃ j : Nat, x = .int .i64 j ∧ j ≤ a ∧ wr = w) (fun x _ => (32 - (RowKit.intOf x).toNat))
  case atStart => exact ⟨0, rfl, by omega, rfl⟩
  case round =>
    obtain ⟨j, rfl, j1, rfl⟩ := hrel
    have i0 : (0 : Int) ≤ (j : Int) := by omega
    have i2 : (j : Int) < 32 := by omega
    by_cases hj : j < a
    · obtain ⟨c0, ci⟩ := hc.out j hj
      clear ca
      generalize V j = v at *
      go_wp2_with fail
      with_reducible refine Calls.mono ci ?_
      rintro e w2 ⟨rfl, rfl⟩
      clear ci c0
      go_wp2_with fail
      go_roundw
      case rel => exact ⟨j + 1, by go_num, by omega, by first | rfl | trivial⟩
      case measure => simp [RowKit.intOf]; omega
    · obtain rfl : j = a := by omega
      obtain ⟨c0, ci⟩ := ca.out
      have l0 : (0 : Int) ≤ (l : Int) := by omega
      generalize V j = v at *
      go_wp2_with fail
      with_reducible refine Calls.mono ci ?_
      rintro e w2 ⟨rfl, rfl⟩
      clear ci c0
      go_wp2_with fail
      go_ret3
      exact ⟨rfl, rfl⟩
theorem Ri_lit (w : World) (g : Int) : Ints (w.alloc (.cells #[.int .i64 g] 3)) (fun k => w.heap.size ≤ k) (.slice (some ⟨w.heap.size, 0, none⟩) 1 1) [g] := Rw.ints_lit w [g] 1 rfl (by omega) (A := #[.int .i64 g]) rfl
set_option maxRecDepth 100000 in
set_option maxHeartbeats 1000000 in
/-- g waits at a place. -/
theorem wait_in (h : Sw W0 W p H Z) {a : Nat} (ha : a < 32) (g : Int) (hno : ∀ j, j < 32 → g ∉ Z j) (hs : (Z a).length < 1000000) : Calls Try.prog 38 #[.pointer (some ⟨p, 0, none⟩), .int .i64 a, .int .i64 g] W (Step (.int .i64 0) W0 W p H (upd Z a (Z a ++ [g]))) := by
  obtain ⟨V, h1, hl, hb0, rfl⟩ := h
  have cp := place_in a ha W
  have cs := seek_no h1 g hno
  have hbA := below_alloc (Below.refl _ W) (.cells #[.int .i64 g] 3)
  have hbB : Below W.heap.size W (W.alloc (.cells #[.int .i64 g] 3)).drew := hbA.drew
  have h2 := h1.below hbB
  have c0 := (h1.cell ha).1
  have hrow := Lib.hid (h2.row a ha)
  have hsrc : Hid (Src Try.prog 1 26 (.slice (some ⟨W.heap.size, 0, none⟩) 1 1) [g].length (cells [g]) (W.alloc (.cells #[.int .i64 g] 3)).drew) := Lib.hid (src_of_ints ((Ri_lit W g).below (Below.refl _ _).drew))
  have hbd : (Z a).length + [g].length ≤ 1000000 := by simp; omega
  have key : Hid (∀ (w3 : World) (v3 : Value), OffRow w3 v3 (Z a ++ [g]) → Wrote (fun k => (V a).ownBlock = some k) (W.alloc (.cells #[.int .i64 g] 3)).drew (fun k => v3.ownBlock = some k) w3 → w3.cell? ⟨p, a, none⟩ = some (V a) ∧ w3.frozen? ⟨p, a, none⟩ = false ∧ (∃ s n c, v3 = .slice s n c) ∧ Hid (∀ e, e = .returned (.int .i64 0) → Step (.int .i64 0) W0 W p (home p V) (upd Z a (Z a ++ [g])) e (w3.setCell ⟨p, a, none⟩ v3))) := Lib.hid fun w3 v3 q1 q2 => by
    obtain ⟨X, hX, x1, x2⟩ := h2.head
    have hd := (q2.block p (block_lt hX) (h2.o1 a ha)).trans hX
    obtain ⟨s, c, e⟩ := q1.slice
    obtain ⟨k1, k2⟩ := h2.put ha q1 q2
    exact ⟨cell_of hd (x2 a ha), frozen_of_row w3 p a _ _ hd, ⟨s, _, c, e⟩, Lib.hid fun e he => Sw.step hl hb0 he k1 ((Wrote.of_below hbB).trans k2)⟩
  have hp := h1.plt
  obtain ⟨sv, cv, hv⟩ := (h1.row a ha).slice
  rw [hv] at c0 hrow key
  clear h1 h2 hl hb0 hbA hbB hno hv
  have i0 : (0 : Int) ≤ (a : Int) := by omega
  have i2 : (a : Int) < 32 := by omega
  go_enter Try.func38, Try.ntmps38
  go_wp2_with fail
  with_reducible refine Calls.mono (cp) ?_
  rintro e w2 ⟨rfl, rfl⟩
  clear cp
  go_wp2_with fail
  with_reducible refine Calls.mono (cs) ?_
  rintro e w2 ⟨rfl, rfl⟩
  clear cs
  go_wp2_with fail
  go_region_law (refine step_append_off rfl (.tmp 30) (.tmp 32) rfl rfl hrow.out rfl rfl hsrc.out hbd ?_; intro v3 w3 q1 q2; have hk := key.out w3 v3 q1 q2; obtain ⟨f4, f5, ⟨s3, n3, c3, rfl⟩, hfin⟩ := hk; clear key q1 q2 hrow hsrc)
  all_goals
    go_wp2_with fail
    go_ret
    exact hfin.out _ rfl
end Wt
end Go.Proofs.Ytmngaedcckjfoab
