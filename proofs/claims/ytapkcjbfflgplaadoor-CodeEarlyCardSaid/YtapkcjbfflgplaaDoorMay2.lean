/- Which programs may be: code.May, told. -/
import Derived.Test.YtapkcjbfflgplaaDoorMay
namespace Go.Proofs.YtapkcjbfflgplaaDoor
open Go.RowKit Go.Lib Fx Ho
set_option linter.unusedVariables false
namespace Cd
variable {w w' W : World} {v fv : Value} {G nf len n : Int} {fs : List (List Ins)}
/-- All but its instructions may be. -/
def CntOk (G : Int) (fs : List (List Ins)) : Prop := 1 ≤ fs.length ∧ fs.length ≤ 16 ∧ 0 ≤ G ∧ G ≤ 32 ∧ ∀ i, i < fs.length → 1 ≤ (fs.getD i []).length ∧ (fs.getD i []).length ≤ 64
theorem FRow.at_ (h : FRow w v fs) : ∃ sp cap, v = .slice sp fs.length cap ∧ ∀ wr, Below w.heap.size w wr → ∀ i, i < fs.length → ∃ b off sv cp, sp = some ⟨b, off, none⟩ ∧ wr.cell? ⟨b, off + i, none⟩ = some (.slice sv (fs.getD i []).length cp) ∧ IRow wr (.slice sv (fs.getD i []).length cp) (fs.getD i []) := by
  obtain ⟨sp, cap, e, h1, h2⟩ := h
  refine ⟨sp, cap, e, fun wr hb i hi => ?_⟩
  obtain ⟨b, off, fv, e2, c0, c1⟩ := h2 i hi
  obtain ⟨sv, cp, e3, _⟩ := id c1
  subst e3
  exact ⟨b, off, sv, cp, e2, cell_then hb c0, c1.below hb⟩
theorem IRow.at_ {l : List Ins} {sv : Option Addr} {cp : Nat} (h : IRow w (.slice sv l.length cp) l) : ∀ wr, Below w.heap.size w wr → ∀ i, i < l.length → ∃ b off op a b' c, sv = some ⟨b, off, none⟩ ∧ l.getD i zi = (op, a, b', c) ∧ wr.cell? ⟨b, off + i * 4, none⟩ = some (.int .i64 op) ∧ wr.cell? ⟨b, off + i * 4 + 1, none⟩ = some (.int .i64 a) ∧ wr.cell? ⟨b, off + i * 4 + 2, none⟩ = some (.int .i64 b') ∧ wr.cell? ⟨b, off + i * 4 + 3, none⟩ = some (.int .i64 c) := by
  obtain ⟨sp, cap, e, h1, h2⟩ := h
  cases e
  intro wr hb i hi
  obtain ⟨b, off, e2, c0, c1, c2, c3⟩ := h2 i hi
  exact ⟨b, off, _, _, _, _, e2, rfl, cell_then hb c0, cell_then hb c1, cell_then hb c2, cell_then hb c3⟩
def CountsR (G : Int) (fs : List (List Ins)) (w : World) (e : Ending) (w' : World) : Prop := ∃ r : Bool, e = .returned (.bool r) ∧ (r = true ↔ CntOk G fs) ∧ Below w.heap.size w w'
set_option maxRecDepth 100000 in
set_option maxHeartbeats 2000000 in
theorem counts_any (h : FRow w v fs) (G : Int) : Calls Tryd.prog 71 #[.agg #[.int .i64 G, v]] w (CountsR G fs w) := by
  obtain ⟨sp, cap, rfl, hat⟩ := h.at_
  obtain ⟨m, hm⟩ : ∃ m, fs.length = m := ⟨_, rfl⟩
  have hat : Hid (∀ wr, Below w.heap.size w wr → ∀ i, i < m → ∃ b off sv cp, sp = some ⟨b, off, none⟩ ∧ wr.cell? ⟨b, off + i, none⟩ = some (.slice sv (fs.getD i []).length cp)) := Lib.hid fun wr hb i hi => by
    obtain ⟨b, off, sv, cp, e, c0, _⟩ := hat wr hb i (by omega)
    exact ⟨b, off, sv, cp, e, c0⟩
  have hfin : Hid (∀ r : Bool, (r = true ↔ (1 ≤ m ∧ m ≤ 16 ∧ 0 ≤ G ∧ G ≤ 32 ∧ ∀ i, i < m → 1 ≤ (fs.getD i []).length ∧ (fs.getD i []).length ≤ 64)) → (r = true ↔ CntOk G fs)) := Lib.hid fun r hr => by unfold CntOk; rw [hm]; exact hr
  clear h
  rw [hm]
  replace hm := Lib.hid hm
  have no : ∀ (p : Prop), ¬ p → (false = true ↔ p) := fun p hp => ⟨fun e => (by cases e), fun h => absurd h hp⟩
  by_cases h1 : m < 1
  · have e1 : (m : Int) < 1 := by omega
    have e2 : decide ((m : Int) < 1) = true := decide_eq_true e1
    have hr := hfin.out false (no _ (by omega))
    clear hat hfin
    go_enter Tryd.func71, Tryd.ntmps71
    go_wp2_with fail
    go_ret
    exact ⟨false, rfl, hr, (by repeat (first | assumption | exact Below.refl _ _ | refine below_drewN ?_ _ | refine below_alloc ?_ _ | refine below_then ?_ (by assumption)))⟩
  have e1 : ¬ (m : Int) < 1 := by omega
  have e2 : decide ((m : Int) < 1) = false := decide_eq_false e1
  by_cases h2 : 16 < m
  · have e3 : (16 : Int) < (m : Int) := by omega
    have e4 : decide ((16 : Int) < (m : Int)) = true := decide_eq_true e3
    have hr := hfin.out false (no _ (by omega))
    clear hat hfin
    go_enter Tryd.func71, Tryd.ntmps71
    go_wp2_with fail
    go_ret
    exact ⟨false, rfl, hr, (by repeat (first | assumption | exact Below.refl _ _ | refine below_drewN ?_ _ | refine below_alloc ?_ _ | refine below_then ?_ (by assumption)))⟩
  have e3 : ¬ (16 : Int) < (m : Int) := by omega
  have e4 : decide ((16 : Int) < (m : Int)) = false := decide_eq_false e3
  by_cases h3 : G < 0
  · have e5 : decide (G < 0) = true := decide_eq_true h3
    have hr := hfin.out false (no _ (by omega))
    clear hat hfin
    go_enter Tryd.func71, Tryd.ntmps71
    go_wp2_with fail
    go_ret
    exact ⟨false, rfl, hr, (by repeat (first | assumption | exact Below.refl _ _ | refine below_drewN ?_ _ | refine below_alloc ?_ _ | refine below_then ?_ (by assumption)))⟩
  have e5 : decide (G < 0) = false := decide_eq_false h3
  by_cases h4 : 32 < G
  · have e6 : decide (32 < G) = true := decide_eq_true h4
    have hr := hfin.out false (no _ (by omega))
    clear hat hfin
    go_enter Tryd.func71, Tryd.ntmps71
    go_wp2_with fail
    go_ret
    exact ⟨false, rfl, hr, (by repeat (first | assumption | exact Below.refl _ _ | refine below_drewN ?_ _ | refine below_alloc ?_ _ | refine below_then ?_ (by assumption)))⟩
  have e6 : decide (32 < G) = false := decide_eq_false h4
  obtain ⟨N, hN⟩ : ∃ N, w.heap.size = N := ⟨_, rfl⟩
  have hbU : Hid (Below w.heap.size w (w.alloc (.cells #[.int .i64 G, .slice sp m cap] 49))) := Lib.hid (below_alloc (Below.refl _ _) _)
  have c0 : (w.alloc (.cells #[.int .i64 G, .slice sp m cap] 49)).cell? ⟨w.heap.size, 0, none⟩ = some (.int .i64 G) := cell_of (heap_alloc_new _ _) rfl
  have c1 : (w.alloc (.cells #[.int .i64 G, .slice sp m cap] 49)).cell? ⟨w.heap.size, 1, none⟩ = some (.slice sp m cap) := cell_of (heap_alloc_new _ _) rfl
  rw [hN] at c0 c1
  go_enter Tryd.func71, Tryd.ntmps71
  go_wp2_with fail
  obtain ⟨U, hU⟩ : ∃ U, w.alloc (.cells #[.int .i64 G, .slice sp m cap] 49) = U := ⟨_, rfl⟩
  rw [hU] at hbU c0 c1 ⊢
  clear hU
  go_loopw [4, 28] (fun u4 u28 wr => ∃ j : Nat, u28 = .int .i64 j ∧ j ≤ m ∧ Hid (∀ i, i < j → 1 ≤ (fs.getD i []).length ∧ (fs.getD i []).length ≤ 64) ∧ wr = U) (fun _ y _ => (m - (RowKit.intOf y).toNat))
  case atStart => exact ⟨0, rfl, by omega, Lib.hid (fun i h => by omega), rfl⟩
  case round =>
    obtain ⟨j, rfl, jm, hL, ew⟩ := hrel
    have ew := ew.symm
    subst ew
    have j0 : (0 : Int) ≤ (j : Int) := by omega
    by_cases hj : j < m
    · have j1 : (j : Int) < (m : Int) := by omega
      obtain ⟨b, off, sv, cp, rfl, d0⟩ := hat.out U hbU.out j hj
      obtain ⟨l, hl⟩ : ∃ l, (fs.getD j []).length = l := ⟨_, rfl⟩
      rw [hl] at d0
      replace hl := Lib.hid hl
      by_cases h5 : l < 1
      · have f1 : (l : Int) < 1 := by omega
        have f2 : decide ((l : Int) < 1) = true := decide_eq_true f1
        have hr := hfin.out false (no _ (fun h => by have := h.2.2.2.2 j hj; have := hl.out; omega))
        clear hat hfin hL
        go_wp2_with fail
        go_ret
        exact ⟨false, rfl, hr, hbU.out⟩
      · have f1 : ¬ (l : Int) < 1 := by omega
        have f2 : decide ((l : Int) < 1) = false := decide_eq_false f1
        by_cases h6 : 64 < l
        · have f3 : (64 : Int) < (l : Int) := by omega
          have f4 : decide ((64 : Int) < (l : Int)) = true := decide_eq_true f3
          have hr := hfin.out false (no _ (fun h => by have := h.2.2.2.2 j hj; have := hl.out; omega))
          clear hat hfin hL
          go_wp2_with fail
          go_ret
          exact ⟨false, rfl, hr, hbU.out⟩
        · have f3 : ¬ (64 : Int) < (l : Int) := by omega
          have f4 : decide ((64 : Int) < (l : Int)) = false := decide_eq_false f3
          have hL2 : Hid (∀ i, i < j + 1 → 1 ≤ (fs.getD i []).length ∧ (fs.getD i []).length ≤ 64) := Lib.hid fun i hi => by
            rcases Nat.lt_or_ge i j with q | q
            · exact hL.out i q
            · rw [show i = j by omega]; have := hl.out; omega
          clear hL
          go_wp2_with fail
          go_roundw
          case rel => exact ⟨j + 1, by go_num, by omega, hL2, by first | rfl | trivial⟩
          case measure => simp [RowKit.intOf]; omega
    · obtain rfl : j = m := by omega
      have j1 : ¬ (j : Int) < (j : Int) := by omega
      have hr : Hid (CntOk G fs) := Lib.hid ((hfin.out true ⟨fun _ => ⟨by omega, by omega, by omega, by omega, hL.out⟩, fun _ => rfl⟩).1 rfl)
      clear hat hfin hL
      go_wp2_with fail
      go_ret
      exact ⟨true, rfl, ⟨fun _ => hr.out, fun _ => rfl⟩, hbU.out⟩
end Cd
end Go.Proofs.YtapkcjbfflgplaaDoor
