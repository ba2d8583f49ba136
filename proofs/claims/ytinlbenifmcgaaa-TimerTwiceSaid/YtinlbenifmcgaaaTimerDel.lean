/- Package timer: seek, Del. -/
import Derived.Test.YtinlbenifmcgaaaRemT
import Derived.Test.YtinlbenifmcgaaaTimerTold
import Derived.Deep.LoopGhost
import Derived.Test.YtinlbenifmcgaaaMinMax
import Derived.Laws.Cover1
namespace Go.Proofs.Ytinlbenifmcgaaa
open Go.RowKit Go.Lib Fx Ho Gr
set_option linter.unusedVariables false
namespace Pt
open Hm
variable {w w' B : World} {p : Nat} {v : Value} {L C M ys : List Sl} {n : Nat} {H H' : Home} {x : Sl}
/-- Of the first i of L: where the first one of that g stands. -/
def Sk (L : List Sl) (g : Int) (i : Nat) (at_ : Int) : Prop := (at_ = -1 ∧ ∀ j, j < i → (L.getD j Sl.sl0).2.1 ≠ g) ∨ ∃ k : Nat, k < i ∧ at_ = k ∧ (L.getD k Sl.sl0).2.1 = g ∧ ∀ j, j < i → (L.getD j Sl.sl0).2.1 = g → Sl.ahead (L.getD j Sl.sl0) (L.getD k Sl.sl0) = false
theorem sk_start (L : List Sl) (g : Int) : Sk L g 0 (-1) := Or.inl ⟨rfl, fun j h => by omega⟩
theorem Sk.other {g at_ : Int} {i : Nat} (h : Sk L g i at_) (hx : (L.getD i Sl.sl0).2.1 ≠ g) : Sk L g (i + 1) at_ := by
  rcases h with ⟨h1, h2⟩ | ⟨k, h1, h2, h3, h4⟩
  · exact Or.inl ⟨h1, fun j hj => by
      rcases Nat.lt_or_ge j i with h | h
      · exact h2 j h
      · obtain rfl : j = i := by omega
        exact hx⟩
  · refine Or.inr ⟨k, by omega, h2, h3, fun j hj hg => ?_⟩
    rcases Nat.lt_or_ge j i with h | h
    · exact h4 j h hg
    · obtain rfl : j = i := by omega
      exact absurd hg hx
theorem Sk.first {g : Int} {i : Nat} (h : Sk L g i (-1)) (hx : (L.getD i Sl.sl0).2.1 = g) : Sk L g (i + 1) i := by
  rcases h with ⟨_, h2⟩ | ⟨k, h1, h2, h3, h4⟩
  · refine Or.inr ⟨i, by omega, rfl, hx, fun j hj hg => ?_⟩
    rcases Nat.lt_or_ge j i with h | h
    · exact absurd hg (h2 j h)
    · obtain rfl : j = i := by omega
      exact irrefl Sl.ahead_ord _
  · omega
theorem Sk.turn {g : Int} {i k : Nat} (h : Sk L g i k) (hx : (L.getD i Sl.sl0).2.1 = g) (ha : Sl.ahead (L.getD i Sl.sl0) (L.getD k Sl.sl0) = true) : Sk L g (i + 1) i := by
  rcases h with ⟨h1, _⟩ | ⟨k2, h1, h2, h3, h4⟩
  · omega
  · obtain rfl : k2 = k := by omega
    refine Or.inr ⟨i, by omega, rfl, hx, fun j hj hg => ?_⟩
    rcases Nat.lt_or_ge j i with h | h
    · have h5 := h4 j h hg
      unfold Sl.ahead at *
      rw [decide_eq_true_iff] at ha
      rw [decide_eq_false_iff_not] at *
      omega
    · obtain rfl : j = i := by omega
      exact irrefl Sl.ahead_ord _
theorem Sk.keep {g : Int} {i k : Nat} (h : Sk L g i k) (ha : Sl.ahead (L.getD i Sl.sl0) (L.getD k Sl.sl0) = false) : Sk L g (i + 1) k := by
  rcases h with ⟨h1, _⟩ | ⟨k2, h1, h2, h3, h4⟩
  · omega
  · obtain rfl : k2 = k := by omega
    refine Or.inr ⟨k2, by omega, rfl, h3, fun j hj hg => ?_⟩
    rcases Nat.lt_or_ge j i with h | h
    · exact h4 j h hg
    · obtain rfl : j = i := by omega
      exact ha
/-- What seek tells. -/
def Sought (w : World) (L : List Sl) (g : Int) (e : Ending) (w' : World) : Prop := ∃ at_, e = .returned (.int .i64 at_) ∧ Sk L g L.length at_ ∧ Below w.heap.size w w'
set_option maxRecDepth 100000 in
set_option maxHeartbeats 1000000 in
theorem seek_any (h : IsP w p v L) (g : Int) : Calls Try.prog 23 #[.pointer (some ⟨p, 0, none⟩), .int .i64 g] w (Sought w L g) := by
  have hp := h.cell
  have hpl := h.lt
  have hrow := Lib.hid h.row
  have hs := h.small
  obtain ⟨s0, c0, rfl⟩ := h.row.slice
  go_enter Try.func23, Try.ntmps23
  go_wp2_with fail
  go_loopg [5, 13] L.length (fun g0 u5 u13 wr => ∃ (at_ : Int) (i : Nat), u5 = .int .i64 at_ ∧ u13 = .int .i64 i ∧ i + g0 = L.length ∧ Hid (Sk L g i at_) ∧ Below w.heap.size w wr)
  case atStart => exact ⟨-1, 0, rfl, rfl, by omega, Lib.hid (sk_start L g), Below.refl _ _⟩
  case round =>
    obtain ⟨at_, i, rfl, rfl, hig, hst, hbw⟩ := hrel
    have hp1 := cell_then hbw hp
    by_cases hi : i < L.length
    · obtain ⟨b, off, cap, e0, hle, hm, hbl, hc⟩ := at_i ((h.below hbw).row) hi
      cases e0
      obtain ⟨⟨q0, q1, q2⟩, _⟩ := hc i hi
      have nx1 := fun h => Lib.hid (hst.out.other h)
      have nx2 := fun (e : at_ = -1) h => Lib.hid (Sk.first (L := L) (by rw [← e]; exact hst.out) h)
      have nx3 := fun (k : Nat) (e : at_ = k) h h2 => Lib.hid (Sk.turn (L := L) (k := k) (by rw [← e]; exact hst.out) h h2)
      have nx4 := fun (k : Nat) (e : at_ = k) h2 => Lib.hid (Sk.keep (L := L) (k := k) (by rw [← e]; exact hst.out) h2)
      have hat : at_ = -1 ∨ ∃ k : Nat, k < L.length ∧ at_ = k := by
        rcases hst.out with ⟨h1, _⟩ | ⟨k, h1, h2, _⟩
        · exact Or.inl h1
        · exact Or.inr ⟨k, by omega, h2⟩
      obtain ⟨x, hx⟩ : ∃ x, L.getD i Sl.sl0 = x := ⟨_, rfl⟩
      rw [hx] at q0 q1 q2 nx1 nx2 nx3 nx4
      obtain ⟨x0, x1, x2⟩ := x
      simp only at q0 q1 q2 nx1 nx2 nx3 nx4
      have o3 : (wr.alloc (.cells #[.int .i64 x0, .int .i64 x1, .int .i64 x2] 59)).heap[wr.heap.size]? = some (.cells #[.int .i64 x0, .int .i64 x1, .int .i64 x2] 59 (0, 0)) := heap_alloc_new _ _
      have g0 := cell_of o3 (j := 0) rfl
      have g1 := cell_of o3 (j := 1) rfl
      have g2 := cell_of o3 (j := 2) rfl
      have hba := below_alloc (Below.refl _ wr) (.cells #[.int .i64 x0, .int .i64 x1, .int .i64 x2] 59)
      have hp2 := cell_then hba hp1
      by_cases hg : x1 = g
      · subst hg
        rcases hat with rfl | ⟨k, hk, rfl⟩
        · have nx := nx2 rfl rfl
          have hneg : decide ((-1 : Int) < 0) = true := rfl
          have hneg2 : (-1 : Int) < 0 := by omega
          have hbq : (x1 == x1) = true := by simp
          clear nx1 nx2 nx3 nx4 hc hst
          go_wp2_with fail
          generalize wr.alloc (.cells #[.int .i64 x0, .int .i64 x1, .int .i64 x2] 59) = wa at *
          have hbd : Below wa.heap.size wa wa.drew := (Below.refl _ _).drew
          go_region
          all_goals
            have hbz := below_then hbw (below_then hba hbd)
            go_wp2_with fail
            go_roundg (L.length - (i + 1))
            case measure => omega
            case rel => exact ⟨i, i + 1, by simp, by simp, by omega, nx, hbz⟩
        · have hneg : decide ((k : Int) < 0) = false := by rw [decide_eq_false_iff_not]; omega
          have hneg2 : ¬ (k : Int) < 0 := by omega
          obtain ⟨⟨r0, r1, r2⟩, _⟩ := hc k hk
          have n3 := nx3 k rfl rfl
          have n4 := nx4 k rfl
          obtain ⟨y, hy⟩ : ∃ y, L.getD k Sl.sl0 = y := ⟨_, rfl⟩
          rw [hy] at r0 r1 r2 n3 n4
          obtain ⟨y0, y1, y2⟩ := y
          simp only at r0 r1 r2 n3 n4
          have cb := fun W => before_any (x0, x1, x2) (y0, y1, y2) W
          unfold sv at cb
          clear nx1 nx2 nx3 nx4 hc hst hx hy
          replace r0 := cell_then hba r0
          replace r1 := cell_then hba r1
          replace r2 := cell_then hba r2
          go_wp2_with fail
          generalize wr.alloc (.cells #[.int .i64 x0, .int .i64 x1, .int .i64 x2] 59) = wa at *
          have hbd : Below wa.heap.size wa wa.drew := (Below.refl _ _).drew
          go_region_held3 (fun W' => Below wa.heap.size wa W' ∧ W'.cell? ⟨wr.heap.size, 0, none⟩ = some (.int .i64 x0) ∧ W'.cell? ⟨wr.heap.size, 1, none⟩ = some (.int .i64 x1) ∧ W'.cell? ⟨wr.heap.size, 2, none⟩ = some (.int .i64 x2) ∧ W'.cell? ⟨p, 0, none⟩ = some (.slice (some ⟨b, off, none⟩) L.length c0) ∧ W'.cell? ⟨b, off + k * 3, none⟩ = some (.int .i64 y0) ∧ W'.cell? ⟨b, off + k * 3 + 1, none⟩ = some (.int .i64 y1) ∧ W'.cell? ⟨b, off + k * 3 + 2, none⟩ = some (.int .i64 y2)) (first | exact ⟨hbd, g0, g1, g2, hp2, r0, r1, r2⟩ | go_keep | (go_split_ands; exact ⟨below_then (by assumption) (by assumption), cell_then (by assumption) (by assumption), cell_then (by assumption) (by assumption), cell_then (by assumption) (by assumption), cell_then (by assumption) (by assumption), cell_then (by assumption) (by assumption), cell_then (by assumption) (by assumption), cell_then (by assumption) (by assumption)⟩)) (first | (go_at_call 29; ((with_reducible refine (cb _).mono ?_); rintro e w' ⟨rfl, hb⟩)))
          all_goals
            have hbz := below_then hbw (below_then hba (below_then hbd hb))
            cases ha : Sl.ahead (x0, x1, x2) (y0, y1, y2) with
            | true =>
              have nx := n3 ha
              clear n3 n4 cb
              go_wp2_with fail
              go_roundg (L.length - (i + 1))
              case measure => omega
              case rel => exact ⟨i, i + 1, by simp, by simp, by omega, nx, hbz⟩
            | false =>
              have nx := n4 ha
              clear n3 n4 cb
              go_wp2_with fail
              go_roundg (L.length - (i + 1))
              case measure => omega
              case rel => exact ⟨k, i + 1, by simp, by simp, by omega, nx, hbz⟩
      · have nx := nx1 hg
        have hbq : (x1 == g) = false := by simp [hg]
        clear nx1 nx2 nx3 nx4 hc hst
        go_wp2_with fail
        generalize wr.alloc (.cells #[.int .i64 x0, .int .i64 x1, .int .i64 x2] 59) = wa at *
        have hbd : Below wa.heap.size wa wa.drew := (Below.refl _ _).drew
        go_region
        all_goals
          have hbz := below_then hbw (below_then hba hbd)
          go_wp2_with fail
          go_roundg (L.length - (i + 1))
          case measure => omega
          case rel => exact ⟨at_, i + 1, by simp, by simp, by omega, nx, hbz⟩
    · have hfin : Hid (∀ W, Below wr.heap.size wr W → Sought w L g (.returned (.int .i64 at_)) W) := Lib.hid fun W hW => ⟨at_, rfl, by
        have : i = L.length := by omega
        rw [← this]
        exact hst.out, hbw.trans (hW.mono hbw.size)⟩
      clear hst
      go_wp2_with fail
      go_ret
      exact hfin.out _ (by repeat (first | assumption | exact Below.refl _ _ | refine below_drewN ?_ _ | refine below_alloc ?_ _ | refine below_then ?_ (by assumption)))
/-- What Del leaves. -/
def Deld (B : World) (p : Nat) (C : List Sl) (n : Nat) (g : Int) (e : Ending) (w' : World) : Prop :=
  (e = .returned (.bool false) ∧ (∀ y ∈ C, y.2.1 ≠ g) ∧ Tl B w' p C n) ∨ (e = .returned (.bool true) ∧ ∃ x M, (x :: M).Perm C ∧ x.2.1 = g ∧ (∀ y ∈ C, y.2.1 = g → Sl.ahead y x = false) ∧ Tl B w' p M n)
set_option maxRecDepth 100000 in
set_option maxHeartbeats 1000000 in
theorem tl_del (h : Tl B w p C n) (g : Int) : Calls Try.prog 12 #[.pointer (some ⟨p, 0, none⟩), .int .i64 g] w (Deld B p C n g) := by
  have h0 := Lib.hid h
  obtain ⟨v, M, h1, h2, h3, h4⟩ := h
  have cs := seek_any h1.tm.pile g
  have hs := h1.tm.pile.small
  have hno : Hid (∀ W, (∀ j, j < M.length → (M.getD j Sl.sl0).2.1 ≠ g) → Below w.heap.size w W → Deld B p C n g (.returned (.bool false)) W) := Lib.hid fun W hj hb => Or.inl ⟨rfl, fun y hy => by
    obtain ⟨c, hc, rfl⟩ := List.getElem_of_mem (h2.mem_iff.2 hy)
    rw [← getD_at (d := Sl.sl0) hc]
    exact hj c hc, h0.out.below hb⟩
  have hre : Hid (∀ W (k : Nat), Below w.heap.size w W → k < M.length → (M.getD k Sl.sl0).2.1 = g → (∀ j, j < M.length → (M.getD j Sl.sl0).2.1 = g → Sl.ahead (M.getD j Sl.sl0) (M.getD k Sl.sl0) = false) → Calls Try.prog 24 #[.iface 57 (.pointer (some ⟨p, 0, none⟩)), .int .i64 k] W fun e w' => e = .returned (.iface 59 (sv (M.getD k Sl.sl0))) ∧ Hid (Deld B p C n g (.returned (.bool true)) w')) := Lib.hid fun W k hb hk hg ha => by
    have t := h1.below hb
    refine (remove_any t.tm t.ok (i := k) (k := M.length - 1) (by omega) (by omega)).mono fun e w' ⟨k1, v', M2, k2, k3, k4, k5⟩ => ⟨k1, Lib.hid (Or.inr ⟨rfl, M.getD k Sl.sl0, M2, k4.trans h2, hg, fun y hy hyg => ?_, v', M2, ⟨k2, k3⟩, .refl _, ?_, ?_⟩)⟩
    · obtain ⟨c, hc, rfl⟩ := List.getElem_of_mem (h2.mem_iff.2 hy)
      rw [← getD_at (d := Sl.sl0) hc] at hyg ⊢
      exact ha c hc hyg
    · exact k5.low h3 (h4.trans (hb.mono h4.size)).size
    · exact k5.below h3 (h4.trans (hb.mono h4.size))
  clear h0 h1 h2 h3 h4
  go_enter Try.func12, Try.ntmps12
  go_wp2_with fail
  with_reducible refine Calls.mono (cs) ?_
  rintro e w2 ⟨at_, rfl, hsk, hb⟩
  clear cs
  rcases hsk with ⟨rfl, hj⟩ | ⟨k, hk, rfl, hg, ha⟩
  · have hq := Lib.hid (hno.out w2 hj hb)
    clear hno hre hj
    go_wp2_with fail
    go_ret
    exact hq.out
  · have cr := hre.out w2 k hb hk hg ha
    have hneg : ¬ (k : Int) < 0 := by omega
    clear hno hre hg ha
    generalize sv (M.getD k Sl.sl0) = vx at *
    go_wp2_with fail
    with_reducible refine Calls.mono (cr) ?_
    rintro e w3 ⟨rfl, hq⟩
    go_wp2_with fail
    go_ret
    exact hq.out
end Pt
end Go.Proofs.Ytinlbenifmcgaaa
