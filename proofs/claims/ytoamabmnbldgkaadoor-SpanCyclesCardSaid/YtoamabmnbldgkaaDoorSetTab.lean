/- A library's table that lies as it is laid; small laws of worlds that a set's calls leave. -/
import Derived.Test.YtoamabmnbldgkaaDoorSetCopy
import Derived.Lib.LaidTab
import Derived.LaidMore
namespace Go.Proofs.YtoamabmnbldgkaaDoor
open Go.RowKit Go.Lib Fx Bm
set_option linter.unusedVariables false

theorem TabAt.keep {w w' : World} {row : Option Nat} (h : TabAt w) (hg : w.grownBy w' row) (hr : row ≠ some 0) : TabAt w' := fun j hj => by
  have hc := h j hj
  rw [World.cell?_of_block (hg.block _ (World.block_lt_of_cell? w _ hc) (Ne.symm hr))]
  exact hc
theorem TabAt.drewN {w : World} (h : TabAt w) (k : Nat) : TabAt (w.drewN k) := h
theorem quiet_at {P : Program} {f : FuncId} {args : Array Value} {w : World} {a n : Nat} {v : Value} (h : Calls P f args (w.drewN (a + n)) (Ans v (w.drewN (a + n)))) :
    Calls P f args (w.drewN (a + n)) fun e w'' => e = .returned v ∧ ∃ m, w'' = w.drewN (a + m) :=
  h.mono fun _ _ ⟨he, m, hm⟩ => ⟨he, n + m, by rw [hm, World.drewN_drewN, Nat.add_assoc]⟩
/-- Behind a call that writes block b at most, a block that is new since w. -/
theorem below_turn {w w1 w2 : World} {b : Nat} (hb : Below w.heap.size w w1) (hg : w1.grownBy w2 (some b)) (hw : w.heap.size ≤ b) : Below w.heap.size w w2 :=
  hb.grown hg hb.size fun k hk => by cases hk; exact hw

/-- The row's condition on the library's table, as the walks ask it. -/
theorem tab_of_laid {W : World} (h : laidMetH Tryd.prog [("math/bits.deBruijn64tab", Rows.laid_math_bits_deBruijn64tab)] W) : TabAt W := by
  rw [MakeChecks.laidMetH_plain _ _ _ (by kernel_rfl)] at h
  have hT := Lib.tabIs_of_head (k := .u8) (zs := Lib.deBruijn64tab.map fun (x : Nat) => (x : Int)) (g := 0) (t := 73) (e := 5) (n := 64) (by kernel_rfl) (by kernel_rfl) Tryd.underlying73 Tryd.underlying5 (by kernel_rfl) (by kernel_rfl) (show laidMet Tryd.prog (("math/bits.deBruijn64tab", Lib.tabData .u8 (Lib.deBruijn64tab.map fun (x : Nat) => (x : Int))) :: []) W from h)
  intro j hj
  have := hT.cell (g := 0) (by kernel_rfl) j (by rw [List.length_map]; exact hj)
  rw [this]
  congr 2
  rw [List.getD_eq_getElem?_getD, List.getD_eq_getElem?_getD, List.getElem?_map]
  cases Lib.deBruijn64tab[j]? <;> rfl
/-- The heap that the program's own door leaves meets the row's condition. -/
theorem door_met (os : Os) (args : Array Value) : laidMetH Tryd.prog [("math/bits.deBruijn64tab", Rows.laid_math_bits_deBruijn64tab)] ((World.doorLaid Tryd.prog 400 os).forCall (fun _ _ => 0) ⟨#[], args, []⟩).memory :=
  laidMetH_of_parts3 (fuel := 8) (laidMet_of_run' 8 (by kernel_rfl) (by kernel_rfl)) (by kernel_rfl) (by kernel_rfl)
end Go.Proofs.YtoamabmnbldgkaaDoor
