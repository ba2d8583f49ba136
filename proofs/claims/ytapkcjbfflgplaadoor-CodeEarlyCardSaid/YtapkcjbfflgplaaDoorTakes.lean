/- The program's own table of what an instruction's numbers name: as it is laid; a program in memory. -/
import Derived.Test.YtapkcjbfflgplaaDoorHome
import Derived.Lib.LaidTab
import Derived.LaidMore
namespace Go.Proofs.YtapkcjbfflgplaaDoor
open Go.RowKit Go.Lib Fx Ho
set_option linter.unusedVariables false
namespace Cd
/-- An array of arrays of integers that reads as the rows of a table holds its numbers, cell for cell. -/
theorem cells_of_nest {H : Type} {enc : TypeId × Value → H} {P : Program} {w : World} {base : Nat} {sp : Nat → Bool} {held : Bool} {fuel : Nat} {t u e : TypeId} {n m : Nat} {k : IntKind} {cs : List Value} {zss : List (List Int)} {p : List MemPlace}
    (ht : P.underlying t = some (.array n u)) (hu : P.underlying u = some (.array m e)) (he : P.underlying e = some (.int k)) (hce : P.cellsOf e = 1) (hcu : P.cellsOf u = m)
    (h : DataW.trod enc P w base sp held fuel t cs = some (.agg (zss.map (tabData k)), p)) : ∀ i, i < n → (cs.drop (i * m)).take m = (zss.getD i []).map fun z => Value.int k z := by
  cases fuel with
  | zero => simp [DataW.trod] at h
  | succ fuel =>
    simp only [DataW.trod, ht, hcu] at h
    split at h
    · rename_i hl
      obtain ⟨xs, hm, hx⟩ := Option.map_eq_some_iff.1 h
      have hxs : xs.map (·.1) = zss.map (tabData (H := H) k) := by
        have := congrArg Prod.fst hx
        simpa using this
      intro i hi
      obtain ⟨b, hb, hf⟩ := mapM_at hm i i (by simp [hi])
      obtain ⟨d, q⟩ := b
      have h2 : (xs.map (·.1))[i]? = some d := by simp [hb]
      rw [hxs, List.getElem?_map] at h2
      obtain ⟨zs, hz, rfl⟩ := Option.map_eq_some_iff.1 h2
      rw [List.getD_eq_getElem?_getD, hz]
      exact cells_of_tab hu he hce hcu hf
    · cases h
/-- What A, B and C of each instruction name. -/
def kinds : List (List Int) := [[0, 0, 0], [2, 1, 0], [2, 2, 1], [2, 1, 2], [2, 2, 0], [2, 0, 0], [2, 3, 0], [3, 2, 0], [4, 2, 0], [0, 0, 0], [0, 1, 1], [6, 0, 0], [6, 0, 0], [2, 2, 0], [5, 0, 0], [2, 2, 5], [1, 1, 0], [5, 0, 0]]
def kd (i j : Nat) : Int := (kinds.getD i []).getD j 0
theorem kd_le (i j : Nat) : 0 ≤ kd i j ∧ kd i j < 7 := by
  rcases Nat.lt_or_ge i 18 with h | h
  · rcases Nat.lt_or_ge j 3 with h2 | h2
    · have : ∀ i, i < 18 → ∀ j, j < 3 → 0 ≤ kd i j ∧ kd i j < 7 := by decide
      exact this i h j h2
    · have e : (kinds.getD i []).getD j 0 = 0 := by
        have : ∀ i, i < 18 → (kinds.getD i []).length = 3 := by decide
        rw [List.getD_eq_getElem?_getD, List.getElem?_eq_none (by rw [this i h]; exact h2)]; rfl
      unfold kd; rw [e]; decide
  · have e : kinds.getD i [] = [] := by rw [List.getD_eq_getElem?_getD, List.getElem?_eq_none (by exact h)]; rfl
    unfold kd; rw [e]; have e2 : ([] : List Int).getD j 0 = 0 := rfl
    rw [e2]; decide
/-- The table lies as it is laid. -/
def Tk (W : World) : Prop := ∀ i, i < 18 → W.cell? ⟨0, i * 3, none⟩ = some (.int .i64 (kd i 0)) ∧ W.cell? ⟨0, i * 3 + 1, none⟩ = some (.int .i64 (kd i 1)) ∧ W.cell? ⟨0, i * 3 + 2, none⟩ = some (.int .i64 (kd i 2))
theorem Tk.below {w w' : World} (h : Tk w) (hb : Below w.heap.size w w') : Tk w' := fun i hi => by
  obtain ⟨h1, h2, h3⟩ := h i hi
  exact ⟨cell_then hb h1, cell_then hb h2, cell_then hb h3⟩
theorem Tk.wrote {H H' : Home} {w w' : World} (h : Tk w) (hw : Wrote H w H' w') (hn : ¬ H 0) : Tk w' := fun i hi => by
  obtain ⟨h1, h2, h3⟩ := h i hi
  exact ⟨hw.cell h1 hn, hw.cell h2 hn, hw.cell h3 hn⟩
/-- The row's condition on the table, as the walks ask it. -/
theorem tk_of_laid {W : World} (h : laidMetH Tryd.prog [("treadmill/code.takes", Rows.laid_treadmill_code_takes)] W) : Tk W := by
  rw [MakeChecks.laidMetH_plain _ _ _ (by kernel_rfl)] at h
  obtain ⟨ps, ⟨g', t', cs, fuel, p, q, hg', ht', hvar, hd, _, _⟩, _⟩ := h
  have hg : Tryd.prog.globalNamed "treadmill/code.takes" = some 0 := by kernel_rfl
  obtain rfl := Option.some.inj (hg.symm.trans hg')
  have hty : (Tryd.prog.globals[0]?).map (·.type) = some 149 := by kernel_rfl
  obtain rfl := Option.some.inj (hty.symm.trans ht')
  have hn := cells_of_nest (zss := kinds) (n := 18) (m := 3) Tryd.underlying149 Tryd.underlying148 Tryd.underlying147 (by kernel_rfl) (by kernel_rfl) hd
  intro i hi
  have hrow := hn i hi
  have hk : (kinds.getD i []).map (fun z => Value.int .i64 z) = [.int .i64 (kd i 0), .int .i64 (kd i 1), .int .i64 (kd i 2)] := by
    have h3 : ∀ i, i < 18 → (kinds.getD i []) = [kd i 0, kd i 1, kd i 2] := by decide
    have h4 := congrArg (List.map (fun z => Value.int .i64 z)) (h3 i hi)
    exact h4
  rw [hk] at hrow
  have hcell : ∀ j, j < 3 → cs[i * 3 + j]? = [Value.int .i64 (kd i 0), .int .i64 (kd i 1), .int .i64 (kd i 2)][j]? := fun j hj => by
    rw [← hrow, List.getElem?_take, if_pos hj, List.getElem?_drop, Array.getElem?_toList]
  have hc := fun j => World.var?_cell hg hvar j
  refine ⟨?_, ?_, ?_⟩
  · exact (hc (i * 3)).trans (hcell 0 (by decide))
  · exact (hc (i * 3 + 1)).trans (hcell 1 (by decide))
  · exact (hc (i * 3 + 2)).trans (hcell 2 (by decide))
/-- The heap that the program's own door leaves meets the row's condition. -/
theorem door_met (os : Os) (args : Array Value) : laidMetH Tryd.prog [("treadmill/code.takes", Rows.laid_treadmill_code_takes)] ((World.doorLaid Tryd.prog 400 os).forCall (fun _ _ => 0) ⟨#[], args, []⟩).memory :=
  laidMetH_of_parts3 (fuel := 8) (laidMet_of_run' 8 (by kernel_rfl) (by kernel_rfl)) (by kernel_rfl) (by kernel_rfl)
end Cd
end Go.Proofs.YtapkcjbfflgplaaDoor
