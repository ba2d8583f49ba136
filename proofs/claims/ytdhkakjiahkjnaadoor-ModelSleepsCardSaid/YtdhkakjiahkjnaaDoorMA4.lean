import Derived.Test.YtdhkakjiahkjnaaDoorMA1
import Derived.Lib.LaidTab
import Derived.LaidMore
import Derived.LoopTactic
import Derived.LoopN
import Derived.WalkLawsBesides
import Derived.Deep.RegionHeld2
import Derived.Deep.RegionHeld3
import Derived.Deep.RegionWith
import Derived.OwnWalk
import Derived.Deep.RegionLaw
import Derived.Defers
import Derived.Recover
import Derived.Laws.Pointers
import Derived.Laws.BytesString
import Derived.Laws.IdiomStrings
import Derived.Deep.Slices
import Derived.ChangeSame
/- The program's own table of what an instruction's numbers name: as it is laid; a program in memory. -/
namespace Go.Proofs.YtdhkakjiahkjnaaDoor
open Go.RowKit Go.Lib Fx Ho
set_option linter.unusedVariables false
namespace Cd
/-- An array of arrays of integers that reads as the rows of a table holds its numbers, cell for cell. -/
theorem cells_of_nest {H : Type} {enc : TypeId × Value → H} {P : Program} {w : World} {base : Nat} {sp : Nat → Bool} {held : Bool} {fuel : Nat} {t u e : TypeId} {n m : Nat} {k : IntKind} {cs : List Value} {zss : List (List Int)} {p : List MemPlace}
    (ht : P.underlying t = some (.array n u)) (hu : P.underlying u = some (.array m e)) (he : P.underlying e = some (.int k)) (hce : P.cellsOf e = 1) (hcu : P.cellsOf u = m)
    (h : DataW.trod enc P w base sp held fuel t cs = some (.agg (zss.map (tabData k)), p)) : ∀ i, i < n → (cs.drop (i * m)).take m = (zss.getD i []).map fun z => Value.int k z := by
  cases fuel with
  | zero => simp [DataW.trod] at h
  | succ fuel =>
    simp only [DataW.trod, ht, hcu] at h
    split at h
    · rename_i hl
      obtain ⟨xs, hm, hx⟩ := Option.map_eq_some_iff.1 h
      have hxs : xs.map (·.1) = zss.map (tabData (H := H) k) := by
        have := congrArg Prod.fst hx
        simpa using this
      intro i hi
      obtain ⟨b, hb, hf⟩ := mapM_at hm i i (by simp [hi])
      obtain ⟨d, q⟩ := b
      have h2 : (xs.map (·.1))[i]? = some d := by simp [hb]
      rw [hxs, List.getElem?_map] at h2
      obtain ⟨zs, hz, rfl⟩ := Option.map_eq_some_iff.1 h2
      rw [List.getD_eq_getElem?_getD, hz]
      exact cells_of_tab hu he hce hcu hf
    · cases h
/-- What A, B and C of each instruction name. -/
def kinds : List (List Int) := [[0, 0, 0], [2, 1, 0], [2, 2, 1], [2, 1, 2], [2, 2, 0], [2, 0, 0], [2, 3, 0], [3, 2, 0], [4, 2, 0], [0, 0, 0], [0, 1, 1], [6, 0, 0], [6, 0, 0], [2, 2, 0], [5, 0, 0], [2, 2, 5], [1, 1, 0], [5, 0, 0]]
def kd (i j : Nat) : Int := (kinds.getD i []).getD j 0
theorem kd_le (i j : Nat) : 0 ≤ kd i j ∧ kd i j < 7 := by
  rcases Nat.lt_or_ge i 18 with h | h
  · rcases Nat.lt_or_ge j 3 with h2 | h2
    · have : ∀ i, i < 18 → ∀ j, j < 3 → 0 ≤ kd i j ∧ kd i j < 7 := by decide
      exact this i h j h2
    · have e : (kinds.getD i []).getD j 0 = 0 := by
        have : ∀ i, i < 18 → (kinds.getD i []).length = 3 := by decide
        rw [List.getD_eq_getElem?_getD, List.getElem?_eq_none (by rw [this i h]; exact h2)]; rfl
      unfold kd; rw [e]; decide
  · have e : kinds.getD i [] = [] := by rw [List.getD_eq_getElem?_getD, List.getElem?_eq_none (by exact h)]; rfl
    unfold kd; rw [e]; have e2 : ([] : List Int).getD j 0 = 0 := rfl
    rw [e2]; decide
/-- The table lies as it is laid. -/
def Tk (W : World) : Prop := ∀ i, i < 18 → W.cell? ⟨0, i * 3, none⟩ = some (.int .i64 (kd i 0)) ∧ W.cell? ⟨0, i * 3 + 1, none⟩ = some (.int .i64 (kd i 1)) ∧ W.cell? ⟨0, i * 3 + 2, none⟩ = some (.int .i64 (kd i 2))
theorem Tk.below {w w' : World} (h : Tk w) (hb : Below w.heap.size w w') : Tk w' := fun i hi => by
  obtain ⟨h1, h2, h3⟩ := h i hi
  exact ⟨cell_then hb h1, cell_then hb h2, cell_then hb h3⟩
theorem Tk.wrote {H H' : Home} {w w' : World} (h : Tk w) (hw : Wrote H w H' w') (hn : ¬ H 0) : Tk w' := fun i hi => by
  obtain ⟨h1, h2, h3⟩ := h i hi
  exact ⟨hw.cell h1 hn, hw.cell h2 hn, hw.cell h3 hn⟩
/-- The row's condition on the table, as the walks ask it. -/
theorem tk_of_laid {W : World} (h : laidMetH Tryd.prog [("treadmill/code.takes", Rows.laid_treadmill_code_takes)] W) : Tk W := by
  rw [MakeChecks.laidMetH_plain _ _ _ (by kernel_rfl)] at h
  obtain ⟨ps, ⟨g', t', cs, fuel, p, q, hg', ht', hvar, hd, _, _⟩, _⟩ := h
  have hg : Tryd.prog.globalNamed "treadmill/code.takes" = some 0 := by kernel_rfl
  obtain rfl := Option.some.inj (hg.symm.trans hg')
  have hty : (Tryd.prog.globals[0]?).map (·.type) = some 118 := by kernel_rfl
  obtain rfl := Option.some.inj (hty.symm.trans ht')
  have hn := cells_of_nest (zss := kinds) (n := 18) (m := 3) Tryd.underlying118 Tryd.underlying117 Tryd.underlying116 (by kernel_rfl) (by kernel_rfl) hd
  intro i hi
  have hrow := hn i hi
  have hk : (kinds.getD i []).map (fun z => Value.int .i64 z) = [.int .i64 (kd i 0), .int .i64 (kd i 1), .int .i64 (kd i 2)] := by
    have h3 : ∀ i, i < 18 → (kinds.getD i []) = [kd i 0, kd i 1, kd i 2] := by decide
    have h4 := congrArg (List.map (fun z => Value.int .i64 z)) (h3 i hi)
    exact h4
  rw [hk] at hrow
  have hcell : ∀ j, j < 3 → cs[i * 3 + j]? = [Value.int .i64 (kd i 0), .int .i64 (kd i 1), .int .i64 (kd i 2)][j]? := fun j hj => by
    rw [← hrow, List.getElem?_take, if_pos hj, List.getElem?_drop, Array.getElem?_toList]
  have hc := fun j => World.var?_cell hg hvar j
  refine ⟨?_, ?_, ?_⟩
  · exact (hc (i * 3)).trans (hcell 0 (by decide))
  · exact (hc (i * 3 + 1)).trans (hcell 1 (by decide))
  · exact (hc (i * 3 + 2)).trans (hcell 2 (by decide))
/-- The heap that the program's own door leaves meets the row's condition. -/
theorem door_met (os : Os) (args : Array Value) : laidMetH Tryd.prog [("treadmill/code.takes", Rows.laid_treadmill_code_takes)] ((World.doorLaid Tryd.prog 400 os).forCall (fun _ _ => 0) ⟨#[], args, []⟩).memory :=
  laidMetH_of_parts3 (fuel := 8) (laidMet_of_run' 8 (by kernel_rfl) (by kernel_rfl)) (by kernel_rfl) (by kernel_rfl)
end Cd
end Go.Proofs.YtdhkakjiahkjnaaDoor
/- Which programs may be: code.May and what it asks. -/
namespace Go.Proofs.YtdhkakjiahkjnaaDoor
open Go.RowKit Go.Lib Fx Ho
set_option linter.unusedVariables false
namespace Cd
variable {w w' W : World} {v fv : Value} {G nf len n : Int}
abbrev Ins := Int × Int × Int × Int
def zi : Ins := (0, 0, 0, 0)
/-- The slice v holds these instructions. -/
def IRow (w : World) (v : Value) (l : List Ins) : Prop := ∃ sp cap, v = .slice sp l.length cap ∧ l.length ≤ 9223372036854775807 ∧ ∀ i, i < l.length → ∃ b off, sp = some ⟨b, off, none⟩ ∧ w.cell? ⟨b, off + i * 4, none⟩ = some (.int .i64 (l.getD i zi).1) ∧ w.cell? ⟨b, off + i * 4 + 1, none⟩ = some (.int .i64 (l.getD i zi).2.1) ∧ w.cell? ⟨b, off + i * 4 + 2, none⟩ = some (.int .i64 (l.getD i zi).2.2.1) ∧ w.cell? ⟨b, off + i * 4 + 3, none⟩ = some (.int .i64 (l.getD i zi).2.2.2)
/-- The slice v holds these functions. -/
def FRow (w : World) (v : Value) (fs : List (List Ins)) : Prop := ∃ sp cap, v = .slice sp fs.length cap ∧ fs.length ≤ 9223372036854775807 ∧ ∀ i, i < fs.length → ∃ b off fv, sp = some ⟨b, off, none⟩ ∧ w.cell? ⟨b, off + i, none⟩ = some fv ∧ IRow w fv (fs.getD i [])
theorem IRow.below {l : List Ins} (h : IRow w v l) (hb : Below w.heap.size w w') : IRow w' v l := by
  obtain ⟨sp, cap, e, h1, h2⟩ := h
  refine ⟨sp, cap, e, h1, fun i hi => ?_⟩
  obtain ⟨b, off, e2, c0, c1, c2, c3⟩ := h2 i hi
  exact ⟨b, off, e2, cell_then hb c0, cell_then hb c1, cell_then hb c2, cell_then hb c3⟩
theorem FRow.below {fs : List (List Ins)} (h : FRow w v fs) (hb : Below w.heap.size w w') : FRow w' v fs := by
  obtain ⟨sp, cap, e, h1, h2⟩ := h
  refine ⟨sp, cap, e, h1, fun i hi => ?_⟩
  obtain ⟨b, off, fv, e2, c0, c1⟩ := h2 i hi
  exact ⟨b, off, fv, e2, cell_then hb c0, c1.below hb⟩
/-- How many numbers there are of each kind. -/
def bnd (G nf len : Int) (k : Int) : Int := if k = 0 then 1 else if k = 1 then 256 else if k = 2 then 16 else if k = 3 then G else if k = 4 then nf else if k = 5 then len else 32
def bv (G nf len : Int) : Value := .agg #[.int .i64 1, .int .i64 256, .int .i64 16, .int .i64 G, .int .i64 nf, .int .i64 len, .int .i64 32]
def hasB (G nf len k n : Int) : Bool := decide (0 ≤ n ∧ n < bnd G nf len k)
set_option maxRecDepth 100000 in
theorem has_any (k n : Int) (k0 : 0 ≤ k) (k7 : k < 7) (w : World) : Calls Tryd.prog 62 #[bv G nf len, .int .i64 k, .int .i64 n] w (AnsB (.bool (hasB G nf len k n)) w) := by
  obtain ⟨q, rfl⟩ : ∃ q : Nat, k = (q : Int) := ⟨k.toNat, by omega⟩
  have hc : (w.alloc (.cells #[.int .i64 1, .int .i64 256, .int .i64 16, .int .i64 G, .int .i64 nf, .int .i64 len, .int .i64 32] 100)).cell? ⟨w.heap.size, q, none⟩ = some (.int .i64 (bnd G nf len q)) := by
    refine cell_of (heap_alloc_new _ _) ?_
    rcases (show q = 0 ∨ q = 1 ∨ q = 2 ∨ q = 3 ∨ q = 4 ∨ q = 5 ∨ q = 6 by omega) with rfl | rfl | rfl | rfl | rfl | rfl | rfl <;> rfl
  have hr : Hid (hasB G nf len q n = decide (0 ≤ n ∧ n < bnd G nf len q)) := Lib.hid rfl
  unfold bv
  generalize bnd G nf len q = m at *
  generalize hasB G nf len q n = r at *
  by_cases h1 : 0 ≤ n
  · have e1 : decide (0 ≤ n) = true := decide_eq_true h1
    by_cases h2 : n < m
    · have e2 : decide (n < m) = true := decide_eq_true h2
      obtain rfl : r = true := by rw [hr.out]; exact decide_eq_true ⟨h1, h2⟩
      go_enter Tryd.func62, Tryd.ntmps62
      go_wp2_with fail
      go_ret
      exact ⟨rfl, below_alloc (Below.refl _ _) _⟩
    · have e2 : decide (n < m) = false := decide_eq_false h2
      obtain rfl : r = false := by rw [hr.out]; exact decide_eq_false (fun h => h2 h.2)
      go_enter Tryd.func62, Tryd.ntmps62
      go_wp2_with fail
      go_ret
      exact ⟨rfl, below_alloc (Below.refl _ _) _⟩
  · have e1 : decide (0 ≤ n) = false := decide_eq_false h1
    obtain rfl : r = false := by rw [hr.out]; exact decide_eq_false (fun h => h1 h.1)
    clear hc
    go_enter Tryd.func62, Tryd.ntmps62
    go_wp2_with fail
    go_ret
    exact ⟨rfl, below_alloc (Below.refl _ _) _⟩
set_option maxRecDepth 100000 in
theorem within_any (G nf len : Int) (w : World) : Calls Tryd.prog 38 #[.int .i64 G, .int .i64 nf, .int .i64 len] w (AnsB (bv G nf len) w) := by
  go_enter Tryd.func38, Tryd.ntmps38
  go_wp2_with fail
  refine bodyPost_ret (results_cell_row (by rfl) _ _ w.heap.size 100 _ (0, 0) _ rfl (heap_alloc_new _ _) Tryd.underlying100 rfl (by kernel_rfl)) rfl ?_
  exact ⟨rfl, below_alloc (Below.refl _ _) _⟩
/-- What may has put aside. -/
structure Box3 (U : World) (N : Nat) (G nf len q a b c k0 k1 k2 : Int) : Prop where
  b0 : U.heap[N]? = some (.cells #[.int .i64 1, .int .i64 256, .int .i64 16, .int .i64 G, .int .i64 nf, .int .i64 len, .int .i64 32] 100 (0, 0))
  b1 : U.heap[N + 1]? = some (.cells #[.int .i64 q, .int .i64 a, .int .i64 b, .int .i64 c] 26 (0, 0))
  b2 : U.heap[N + 2]? = some (.cells #[.int .i64 k0, .int .i64 k1, .int .i64 k2] 117 (0, 0))
theorem Box3.below {U V : World} {N : Nat} {q a b c k0 k1 k2 : Int} (h : Box3 U N G nf len q a b c k0 k1 k2) (hb : Below U.heap.size U V) : Box3 V N G nf len q a b c k0 k1 k2 :=
  ⟨(hb.block _ (block_lt h.b0)).trans h.b0, (hb.block _ (block_lt h.b1)).trans h.b1, (hb.block _ (block_lt h.b2)).trans h.b2⟩
theorem Box3.cells {U : World} {N : Nat} {q a b c k0 k1 k2 : Int} (h : Box3 U N G nf len q a b c k0 k1 k2) : (U.cell? ⟨N, 0, none⟩ = some (.int .i64 1) ∧ U.cell? ⟨N, 1, none⟩ = some (.int .i64 256) ∧ U.cell? ⟨N, 2, none⟩ = some (.int .i64 16) ∧ U.cell? ⟨N, 3, none⟩ = some (.int .i64 G) ∧ U.cell? ⟨N, 4, none⟩ = some (.int .i64 nf) ∧ U.cell? ⟨N, 5, none⟩ = some (.int .i64 len) ∧ U.cell? ⟨N, 6, none⟩ = some (.int .i64 32)) ∧ (U.cell? ⟨N + 1, 0, none⟩ = some (.int .i64 q) ∧ U.cell? ⟨N + 1, 1, none⟩ = some (.int .i64 a) ∧ U.cell? ⟨N + 1, 2, none⟩ = some (.int .i64 b) ∧ U.cell? ⟨N + 1, 3, none⟩ = some (.int .i64 c)) ∧ U.cell? ⟨N + 2, 0, none⟩ = some (.int .i64 k0) ∧ U.cell? ⟨N + 2, 1, none⟩ = some (.int .i64 k1) ∧ U.cell? ⟨N + 2, 2, none⟩ = some (.int .i64 k2) :=
  ⟨⟨cell_of h.b0 rfl, cell_of h.b0 rfl, cell_of h.b0 rfl, cell_of h.b0 rfl, cell_of h.b0 rfl, cell_of h.b0 rfl, cell_of h.b0 rfl⟩, ⟨cell_of h.b1 rfl, cell_of h.b1 rfl, cell_of h.b1 rfl, cell_of h.b1 rfl⟩, cell_of h.b2 rfl, cell_of h.b2 rfl, cell_of h.b2 rfl⟩
theorem box3_new (w : World) (q a b c k0 k1 k2 : Int) : Box3 (((w.alloc (.cells #[.int .i64 1, .int .i64 256, .int .i64 16, .int .i64 G, .int .i64 nf, .int .i64 len, .int .i64 32] 100)).alloc (.cells #[.int .i64 q, .int .i64 a, .int .i64 b, .int .i64 c] 26)).alloc (.cells #[.int .i64 k0, .int .i64 k1, .int .i64 k2] 117)) w.heap.size G nf len q a b c k0 k1 k2 := by
  have s1 : ∀ (u : World) (o : Obj), (u.alloc o).heap.size = u.heap.size + 1 := fun u o => by show (u.heap.push _).size = _; rw [Array.size_push]
  have h0 := heap_alloc_new w (.cells #[.int .i64 1, .int .i64 256, .int .i64 16, .int .i64 G, .int .i64 nf, .int .i64 len, .int .i64 32] 100)
  have h1 := heap_alloc_new (w.alloc (.cells #[.int .i64 1, .int .i64 256, .int .i64 16, .int .i64 G, .int .i64 nf, .int .i64 len, .int .i64 32] 100)) (.cells #[.int .i64 q, .int .i64 a, .int .i64 b, .int .i64 c] 26)
  have h2 := heap_alloc_new ((w.alloc (.cells #[.int .i64 1, .int .i64 256, .int .i64 16, .int .i64 G, .int .i64 nf, .int .i64 len, .int .i64 32] 100)).alloc (.cells #[.int .i64 q, .int .i64 a, .int .i64 b, .int .i64 c] 26)) (.cells #[.int .i64 k0, .int .i64 k1, .int .i64 k2] 117)
  rw [s1] at h1
  rw [s1, s1] at h2
  refine ⟨?_, ?_, h2⟩
  · exact ((below_alloc (below_alloc (Below.refl _ _) _) _).block _ (by rw [s1]; omega)).trans h0
  · exact ((below_alloc (Below.refl _ _) _).block _ (by rw [s1, s1]; omega)).trans h1
/-- May an instruction stand there? -/
def okI (G nf len : Int) (x : Ins) : Bool := decide (0 ≤ x.1 ∧ x.1 < 18) && (hasB G nf len (kd x.1.toNat 0) x.2.1 && (hasB G nf len (kd x.1.toNat 1) x.2.2.1 && hasB G nf len (kd x.1.toNat 2) x.2.2.2))
set_option maxRecDepth 100000 in
theorem may_any (x : Ins) (hT : Tk w) : Calls Tryd.prog 39 #[bv G nf len, .agg #[.int .i64 x.1, .int .i64 x.2.1, .int .i64 x.2.2.1, .int .i64 x.2.2.2]] w (AnsB (.bool (okI G nf len x)) w) := by
  obtain ⟨op, a, b, c⟩ := x
  simp only
  have hr : Hid (okI G nf len (op, a, b, c) = (decide (0 ≤ op ∧ op < 18) && (hasB G nf len (kd op.toNat 0) a && (hasB G nf len (kd op.toNat 1) b && hasB G nf len (kd op.toNat 2) c)))) := Lib.hid rfl
  generalize okI G nf len (op, a, b, c) = r at *
  by_cases h1 : op < 0
  · obtain rfl : r = false := by rw [hr.out, decide_eq_false (fun h => by omega)]; rfl
    have e1 : decide (op < 0) = true := decide_eq_true h1
    unfold bv
    go_enter Tryd.func39, Tryd.ntmps39
    go_wp2_with fail
    go_ret
    exact ⟨rfl, (by repeat (first | assumption | exact Below.refl _ _ | refine below_drewN ?_ _ | refine below_alloc ?_ _ | refine below_then ?_ (by assumption)))⟩
  · have e1 : decide (op < 0) = false := decide_eq_false h1
    by_cases h2 : 18 ≤ op
    · obtain rfl : r = false := by rw [hr.out, decide_eq_false (fun h => by omega)]; rfl
      have e2 : decide (18 ≤ op) = true := decide_eq_true h2
      unfold bv
      go_enter Tryd.func39, Tryd.ntmps39
      go_wp2_with fail
      go_ret
      exact ⟨rfl, (by repeat (first | assumption | exact Below.refl _ _ | refine below_drewN ?_ _ | refine below_alloc ?_ _ | refine below_then ?_ (by assumption)))⟩
    · have e2 : decide (18 ≤ op) = false := decide_eq_false h2
      obtain ⟨q, rfl⟩ : ∃ q : Nat, op = (q : Int) := ⟨op.toNat, by omega⟩
      have q18 : q < 18 := by omega
      have q0 : (0 : Int) ≤ (q : Int) := by omega
      have q1 : (q : Int) < 18 := by omega
      obtain ⟨t0, t1, t2⟩ := hT q q18
      have c0 : Hid (∀ V, Calls Tryd.prog 62 #[bv G nf len, .int .i64 (kd q 0), .int .i64 a] V (AnsB (.bool (hasB G nf len (kd q 0) a)) V)) := Lib.hid fun V => has_any _ _ (kd_le q 0).1 (kd_le q 0).2 V
      have c1 : Hid (∀ V, Calls Tryd.prog 62 #[bv G nf len, .int .i64 (kd q 1), .int .i64 b] V (AnsB (.bool (hasB G nf len (kd q 1) b)) V)) := Lib.hid fun V => has_any _ _ (kd_le q 1).1 (kd_le q 1).2 V
      have c2 : Hid (∀ V, Calls Tryd.prog 62 #[bv G nf len, .int .i64 (kd q 2), .int .i64 c] V (AnsB (.bool (hasB G nf len (kd q 2) c)) V)) := Lib.hid fun V => has_any _ _ (kd_le q 2).1 (kd_le q 2).2 V
      rw [decide_eq_true (show 0 ≤ (q : Int) ∧ (q : Int) < 18 from ⟨q0, q1⟩), Int.toNat_natCast, Bool.true_and] at hr
      generalize hasB G nf len (kd q 0) a = x0 at *
      generalize hasB G nf len (kd q 1) b = x1 at *
      generalize hasB G nf len (kd q 2) c = x2 at *
      generalize kd q 0 = k0 at *
      generalize kd q 1 = k1 at *
      generalize kd q 2 = k2 at *
      unfold bv at *
      have h0 : 0 < w.heap.size := World.block_lt_of_cell? w _ t0
      have hB := box3_new (G := G) (nf := nf) (len := len) w (q : Int) a b c k0 k1 k2
      have hbU : Hid (Below w.heap.size w (((w.alloc (.cells #[.int .i64 1, .int .i64 256, .int .i64 16, .int .i64 G, .int .i64 nf, .int .i64 len, .int .i64 32] 100)).alloc (.cells #[.int .i64 q, .int .i64 a, .int .i64 b, .int .i64 c] 26)).alloc (.cells #[.int .i64 k0, .int .i64 k1, .int .i64 k2] 117))) := Lib.hid (by repeat (first | assumption | exact Below.refl _ _ | refine below_drewN ?_ _ | refine below_alloc ?_ _ | refine below_then ?_ (by assumption)))
      obtain ⟨N, hN⟩ : ∃ N, w.heap.size = N := ⟨_, rfl⟩
      have h00 : 0 < N := by omega
      rw [hN] at hB
      replace hB := Lib.hid hB
      go_enter Tryd.func39, Tryd.ntmps39
      go_wp2_with fail
      obtain ⟨U, hU⟩ : ∃ U, (((w.alloc (.cells #[.int .i64 1, .int .i64 256, .int .i64 16, .int .i64 G, .int .i64 nf, .int .i64 len, .int .i64 32] 100)).alloc (.cells #[.int .i64 q, .int .i64 a, .int .i64 b, .int .i64 c] 26)).alloc (.cells #[.int .i64 k0, .int .i64 k1, .int .i64 k2] 117)) = U := ⟨_, rfl⟩
      rw [hU] at hB hbU
      rw [hU]
      have d0 := c0.out U
      clear hU t0 t1 t2 c0 h0
      with_reducible refine Calls.mono d0 ?_
      rintro e w3 ⟨rfl, hb3⟩
      clear d0
      cases x0
      · obtain rfl : r = false := by rw [hr.out]; rfl
        clear c1 c2 hB
        go_wp2_with fail
        go_ret
        exact ⟨rfl, hbU.out.trans (hb3.mono hbU.out.size)⟩
      · have hb3U := Lib.hid (hbU.out.trans (hb3.mono hbU.out.size))
        replace hB := Lib.hid (hB.out.below hb3)
        obtain ⟨⟨a0, a1, a2, a3, a4, a5, a6⟩, ⟨i0, i1, i2, i3⟩, j0, j1, j2⟩ := hB.out.cells
        have d1 := c1.out w3
        clear hbU hb3 c1
        go_wp2_with fail
        with_reducible refine Calls.mono d1 ?_
        rintro e w4 ⟨rfl, hb4⟩
        clear d1 a0 a1 a2 a3 a4 a5 a6 i0 i1 i2 i3 j0 j1 j2
        have hb4U := Lib.hid (hb3U.out.trans (hb4.mono (by have := hb3U.out.size; omega)))
        cases x1
        · obtain rfl : r = false := by rw [hr.out]; rfl
          clear c2 hB
          go_wp2_with fail
          go_ret
          exact ⟨rfl, hb4U.out⟩
        · replace hB := Lib.hid (hB.out.below hb4)
          obtain ⟨⟨a0, a1, a2, a3, a4, a5, a6⟩, ⟨i0, i1, i2, i3⟩, j0, j1, j2⟩ := hB.out.cells
          have d2 := c2.out w4
          obtain rfl : r = x2 := by rw [hr.out]; simp
          clear hb4 c2
          go_wp2_with fail
          with_reducible refine Calls.mono d2 ?_
          rintro e w5 ⟨rfl, hb5⟩
          clear d2 a0 a1 a2 a3 a4 a5 a6 i0 i1 i2 i3 j0 j1 j2
          have hb5U := hb4U.out.trans (hb5.mono (by have := hb4U.out.size; omega))
          go_wp2_with fail
          go_ret
          exact ⟨rfl, hb5U⟩
end Cd
end Go.Proofs.YtdhkakjiahkjnaaDoor
/- Which programs may be: code.May, told. -/
namespace Go.Proofs.YtdhkakjiahkjnaaDoor
open Go.RowKit Go.Lib Fx Ho
set_option linter.unusedVariables false
namespace Cd
variable {w w' W : World} {v fv : Value} {G nf len n : Int} {fs : List (List Ins)}
/-- All but its instructions may be. -/
def CntOk (G : Int) (fs : List (List Ins)) : Prop := 1 ≤ fs.length ∧ fs.length ≤ 16 ∧ 0 ≤ G ∧ G ≤ 32 ∧ ∀ i, i < fs.length → 1 ≤ (fs.getD i []).length ∧ (fs.getD i []).length ≤ 64
theorem FRow.at_ (h : FRow w v fs) : ∃ sp cap, v = .slice sp fs.length cap ∧ ∀ wr, Below w.heap.size w wr → ∀ i, i < fs.length → ∃ b off sv cp, sp = some ⟨b, off, none⟩ ∧ wr.cell? ⟨b, off + i, none⟩ = some (.slice sv (fs.getD i []).length cp) ∧ IRow wr (.slice sv (fs.getD i []).length cp) (fs.getD i []) := by
  obtain ⟨sp, cap, e, h1, h2⟩ := h
  refine ⟨sp, cap, e, fun wr hb i hi => ?_⟩
  obtain ⟨b, off, fv, e2, c0, c1⟩ := h2 i hi
  obtain ⟨sv, cp, e3, _⟩ := id c1
  subst e3
  exact ⟨b, off, sv, cp, e2, cell_then hb c0, c1.below hb⟩
theorem IRow.at_ {l : List Ins} {sv : Option Addr} {cp : Nat} (h : IRow w (.slice sv l.length cp) l) : ∀ wr, Below w.heap.size w wr → ∀ i, i < l.length → ∃ b off op a b' c, sv = some ⟨b, off, none⟩ ∧ l.getD i zi = (op, a, b', c) ∧ wr.cell? ⟨b, off + i * 4, none⟩ = some (.int .i64 op) ∧ wr.cell? ⟨b, off + i * 4 + 1, none⟩ = some (.int .i64 a) ∧ wr.cell? ⟨b, off + i * 4 + 2, none⟩ = some (.int .i64 b') ∧ wr.cell? ⟨b, off + i * 4 + 3, none⟩ = some (.int .i64 c) := by
  obtain ⟨sp, cap, e, h1, h2⟩ := h
  cases e
  intro wr hb i hi
  obtain ⟨b, off, e2, c0, c1, c2, c3⟩ := h2 i hi
  exact ⟨b, off, _, _, _, _, e2, rfl, cell_then hb c0, cell_then hb c1, cell_then hb c2, cell_then hb c3⟩
def CountsR (G : Int) (fs : List (List Ins)) (w : World) (e : Ending) (w' : World) : Prop := ∃ r : Bool, e = .returned (.bool r) ∧ (r = true ↔ CntOk G fs) ∧ Below w.heap.size w w'
set_option maxRecDepth 100000 in
set_option maxHeartbeats 2000000 in
theorem counts_any (h : FRow w v fs) (G : Int) : Calls Tryd.prog 37 #[.agg #[.int .i64 G, v]] w (CountsR G fs w) := by
  obtain ⟨sp, cap, rfl, hat⟩ := h.at_
  obtain ⟨m, hm⟩ : ∃ m, fs.length = m := ⟨_, rfl⟩
  have hat : Hid (∀ wr, Below w.heap.size w wr → ∀ i, i < m → ∃ b off sv cp, sp = some ⟨b, off, none⟩ ∧ wr.cell? ⟨b, off + i, none⟩ = some (.slice sv (fs.getD i []).length cp)) := Lib.hid fun wr hb i hi => by
    obtain ⟨b, off, sv, cp, e, c0, _⟩ := hat wr hb i (by omega)
    exact ⟨b, off, sv, cp, e, c0⟩
  have hfin : Hid (∀ r : Bool, (r = true ↔ (1 ≤ m ∧ m ≤ 16 ∧ 0 ≤ G ∧ G ≤ 32 ∧ ∀ i, i < m → 1 ≤ (fs.getD i []).length ∧ (fs.getD i []).length ≤ 64)) → (r = true ↔ CntOk G fs)) := Lib.hid fun r hr => by unfold CntOk; rw [hm]; exact hr
  clear h
  rw [hm]
  replace hm := Lib.hid hm
  have no : ∀ (p : Prop), ¬ p → (false = true ↔ p) := fun p hp => ⟨fun e => (by cases e), fun h => absurd h hp⟩
  by_cases h1 : m < 1
  · have e1 : (m : Int) < 1 := by omega
    have e2 : decide ((m : Int) < 1) = true := decide_eq_true e1
    have hr := hfin.out false (no _ (by omega))
    clear hat hfin
    go_enter Tryd.func37, Tryd.ntmps37
    go_wp2_with fail
    go_ret
    exact ⟨false, rfl, hr, (by repeat (first | assumption | exact Below.refl _ _ | refine below_drewN ?_ _ | refine below_alloc ?_ _ | refine below_then ?_ (by assumption)))⟩
  have e1 : ¬ (m : Int) < 1 := by omega
  have e2 : decide ((m : Int) < 1) = false := decide_eq_false e1
  by_cases h2 : 16 < m
  · have e3 : (16 : Int) < (m : Int) := by omega
    have e4 : decide ((16 : Int) < (m : Int)) = true := decide_eq_true e3
    have hr := hfin.out false (no _ (by omega))
    clear hat hfin
    go_enter Tryd.func37, Tryd.ntmps37
    go_wp2_with fail
    go_ret
    exact ⟨false, rfl, hr, (by repeat (first | assumption | exact Below.refl _ _ | refine below_drewN ?_ _ | refine below_alloc ?_ _ | refine below_then ?_ (by assumption)))⟩
  have e3 : ¬ (16 : Int) < (m : Int) := by omega
  have e4 : decide ((16 : Int) < (m : Int)) = false := decide_eq_false e3
  by_cases h3 : G < 0
  · have e5 : decide (G < 0) = true := decide_eq_true h3
    have hr := hfin.out false (no _ (by omega))
    clear hat hfin
    go_enter Tryd.func37, Tryd.ntmps37
    go_wp2_with fail
    go_ret
    exact ⟨false, rfl, hr, (by repeat (first | assumption | exact Below.refl _ _ | refine below_drewN ?_ _ | refine below_alloc ?_ _ | refine below_then ?_ (by assumption)))⟩
  have e5 : decide (G < 0) = false := decide_eq_false h3
  by_cases h4 : 32 < G
  · have e6 : decide (32 < G) = true := decide_eq_true h4
    have hr := hfin.out false (no _ (by omega))
    clear hat hfin
    go_enter Tryd.func37, Tryd.ntmps37
    go_wp2_with fail
    go_ret
    exact ⟨false, rfl, hr, (by repeat (first | assumption | exact Below.refl _ _ | refine below_drewN ?_ _ | refine below_alloc ?_ _ | refine below_then ?_ (by assumption)))⟩
  have e6 : decide (32 < G) = false := decide_eq_false h4
  obtain ⟨N, hN⟩ : ∃ N, w.heap.size = N := ⟨_, rfl⟩
  have hbU : Hid (Below w.heap.size w (w.alloc (.cells #[.int .i64 G, .slice sp m cap] 42))) := Lib.hid (below_alloc (Below.refl _ _) _)
  have c0 : (w.alloc (.cells #[.int .i64 G, .slice sp m cap] 42)).cell? ⟨w.heap.size, 0, none⟩ = some (.int .i64 G) := cell_of (heap_alloc_new _ _) rfl
  have c1 : (w.alloc (.cells #[.int .i64 G, .slice sp m cap] 42)).cell? ⟨w.heap.size, 1, none⟩ = some (.slice sp m cap) := cell_of (heap_alloc_new _ _) rfl
  rw [hN] at c0 c1
  go_enter Tryd.func37, Tryd.ntmps37
  go_wp2_with fail
  obtain ⟨U, hU⟩ : ∃ U, w.alloc (.cells #[.int .i64 G, .slice sp m cap] 42) = U := ⟨_, rfl⟩
  rw [hU] at hbU c0 c1 ⊢
  clear hU
  go_loopw [4, 28] (fun u4 u28 wr => ∃ j : Nat, u28 = .int .i64 j ∧ j ≤ m ∧ Hid (∀ i, i < j → 1 ≤ (fs.getD i []).length ∧ (fs.getD i []).length ≤ 64) ∧ wr = U) (fun _ y _ => (m - (RowKit.intOf y).toNat))
  case atStart => exact ⟨0, rfl, by omega, Lib.hid (fun i h => by omega), rfl⟩
  case round =>
    obtain ⟨j, rfl, jm, hL, ew⟩ := hrel
    have ew := ew.symm
    subst ew
    have j0 : (0 : Int) ≤ (j : Int) := by omega
    by_cases hj : j < m
    · have j1 : (j : Int) < (m : Int) := by omega
      obtain ⟨b, off, sv, cp, rfl, d0⟩ := hat.out U hbU.out j hj
      obtain ⟨l, hl⟩ : ∃ l, (fs.getD j []).length = l := ⟨_, rfl⟩
      rw [hl] at d0
      replace hl := Lib.hid hl
      by_cases h5 : l < 1
      · have f1 : (l : Int) < 1 := by omega
        have f2 : decide ((l : Int) < 1) = true := decide_eq_true f1
        have hr := hfin.out false (no _ (fun h => by have := h.2.2.2.2 j hj; have := hl.out; omega))
        clear hat hfin hL
        go_wp2_with fail
        go_ret
        exact ⟨false, rfl, hr, hbU.out⟩
      · have f1 : ¬ (l : Int) < 1 := by omega
        have f2 : decide ((l : Int) < 1) = false := decide_eq_false f1
        by_cases h6 : 64 < l
        · have f3 : (64 : Int) < (l : Int) := by omega
          have f4 : decide ((64 : Int) < (l : Int)) = true := decide_eq_true f3
          have hr := hfin.out false (no _ (fun h => by have := h.2.2.2.2 j hj; have := hl.out; omega))
          clear hat hfin hL
          go_wp2_with fail
          go_ret
          exact ⟨false, rfl, hr, hbU.out⟩
        · have f3 : ¬ (64 : Int) < (l : Int) := by omega
          have f4 : decide ((64 : Int) < (l : Int)) = false := decide_eq_false f3
          have hL2 : Hid (∀ i, i < j + 1 → 1 ≤ (fs.getD i []).length ∧ (fs.getD i []).length ≤ 64) := Lib.hid fun i hi => by
            rcases Nat.lt_or_ge i j with q | q
            · exact hL.out i q
            · rw [show i = j by omega]; have := hl.out; omega
          clear hL
          go_wp2_with fail
          go_roundw
          case rel => exact ⟨j + 1, by go_num, by omega, hL2, by first | rfl | trivial⟩
          case measure => simp [RowKit.intOf]; omega
    · obtain rfl : j = m := by omega
      have j1 : ¬ (j : Int) < (j : Int) := by omega
      have hr : Hid (CntOk G fs) := Lib.hid ((hfin.out true ⟨fun _ => ⟨by omega, by omega, by omega, by omega, hL.out⟩, fun _ => rfl⟩).1 rfl)
      clear hat hfin hL
      go_wp2_with fail
      go_ret
      exact ⟨true, rfl, ⟨fun _ => hr.out, fun _ => rfl⟩, hbU.out⟩
end Cd
end Go.Proofs.YtdhkakjiahkjnaaDoor
/- code.May: 0, 1, or which instruction is the first that may not be. -/
namespace Go.Proofs.YtdhkakjiahkjnaaDoor
open Go.RowKit Go.Lib Fx Ho
set_option linter.unusedVariables false
namespace Cd
variable {w w' W : World} {v fv : Value} {G nf len n : Int} {fs : List (List Ins)}
def pos (fs : List (List Ins)) : Nat → Nat
  | 0 => 0
  | i + 1 => pos fs i + (fs.getD i []).length
/-- May the j-th of function i stand there? -/
def okAt (G : Int) (fs : List (List Ins)) (i j : Nat) : Bool := okI G fs.length (fs.getD i []).length ((fs.getD i []).getD j zi)
/-- What May answers. -/
def MayIs (G : Int) (fs : List (List Ins)) (r : Int) : Prop :=
  (¬ CntOk G fs ∧ r = 1) ∨ (CntOk G fs ∧ (∀ i, i < fs.length → ∀ j, j < (fs.getD i []).length → okAt G fs i j = true) ∧ r = 0) ∨
  (CntOk G fs ∧ ∃ i j, i < fs.length ∧ j < (fs.getD i []).length ∧ (∀ i', i' < i → ∀ j', j' < (fs.getD i' []).length → okAt G fs i' j' = true) ∧ (∀ j', j' < j → okAt G fs i j' = true) ∧ okAt G fs i j = false ∧ r = 2 + (pos fs i : Int) + j)
theorem MayIs.one {r r' : Int} (h : MayIs G fs r) (h' : MayIs G fs r') : r = r' := by
  rcases h with ⟨h1, h2⟩ | ⟨h1, h2, h3⟩ | ⟨h1, i, j, hi, hj, ha, hb, hc, he⟩
  · rcases h' with ⟨g1, g2⟩ | ⟨g1, _⟩ | ⟨g1, _⟩
    · omega
    · exact absurd g1 h1
    · exact absurd g1 h1
  · rcases h' with ⟨g1, g2⟩ | ⟨g1, g2, g3⟩ | ⟨g1, i', j', hi', hj', ha', hb', hc', he'⟩
    · exact absurd h1 g1
    · omega
    · rw [h2 i' hi' j' hj'] at hc'; cases hc'
  · rcases h' with ⟨g1, g2⟩ | ⟨g1, g2, g3⟩ | ⟨g1, i', j', hi', hj', ha', hb', hc', he'⟩
    · exact absurd h1 g1
    · rw [g2 i hi j hj] at hc; cases hc
    · have e1 : i = i' := by
        rcases Nat.lt_trichotomy i i' with q | q | q
        · rw [ha' i q j hj] at hc; cases hc
        · exact q
        · rw [ha i' q j' hj'] at hc'; cases hc'
      subst e1
      have e2 : j = j' := by
        rcases Nat.lt_trichotomy j j' with q | q | q
        · rw [hb' j q] at hc; cases hc
        · exact q
        · rw [hb j' q] at hc'; cases hc'
      subst e2
      omega
theorem pos_le (h : CntOk G fs) : ∀ i, i ≤ fs.length → pos fs i ≤ 64 * i
  | 0, _ => by simp [pos]
  | i + 1, hi => by
    have ih := pos_le h i (by omega)
    have := (h.2.2.2.2 i (by omega)).2
    show pos fs i + _ ≤ _
    omega
def MayR (G : Int) (fs : List (List Ins)) (w : World) (e : Ending) (w' : World) : Prop := ∃ r : Int, e = .returned (.int .i64 r) ∧ MayIs G fs r ∧ Below w.heap.size w w'
set_option maxRecDepth 100000 in
set_option maxHeartbeats 4000000 in
theorem codemay_any (hT : Tk w) (h : FRow w v fs) (G : Int) : Calls Tryd.prog 21 #[.agg #[.int .i64 G, v]] w (MayR G fs w) := by
  obtain ⟨sp, cap, rfl, hat⟩ := h.at_
  obtain ⟨m, hm⟩ : ∃ m, fs.length = m := ⟨_, rfl⟩
  rw [hm] at hat ⊢
  have hbU : Hid (Below w.heap.size w (w.alloc (.cells #[.int .i64 G, .slice sp m cap] 42))) := Lib.hid (below_alloc (Below.refl _ _) _)
  have hC := heap_alloc_new w (.cells #[.int .i64 G, .slice sp m cap] 42)
  have c0 : (w.alloc (.cells #[.int .i64 G, .slice sp m cap] 42)).cell? ⟨w.heap.size, 0, none⟩ = some (.int .i64 G) := cell_of hC rfl
  have c1 : (w.alloc (.cells #[.int .i64 G, .slice sp m cap] 42)).cell? ⟨w.heap.size, 1, none⟩ = some (.slice sp m cap) := cell_of hC rfl
  have hP : Hid (∀ V, Below (w.alloc (.cells #[.int .i64 G, .slice sp m cap] 42)).heap.size (w.alloc (.cells #[.int .i64 G, .slice sp m cap] 42)) V → V.cell? ⟨w.heap.size, 0, none⟩ = some (.int .i64 G) ∧ V.cell? ⟨w.heap.size, 1, none⟩ = some (.slice sp m cap)) := Lib.hid fun V hb => ⟨cell_then hb c0, cell_then hb c1⟩
  have cc := counts_any (h.below hbU.out) G
  rw [hm] at cc
  have hat2 : Hid (∀ V, Below w.heap.size w V → Tk V ∧ ∀ i, i < m → ∃ b off sv cp, sp = some ⟨b, off, none⟩ ∧ V.cell? ⟨b, off + i, none⟩ = some (.slice sv (fs.getD i []).length cp) ∧ IRow V (.slice sv (fs.getD i []).length cp) (fs.getD i [])) := Lib.hid fun V hV => ⟨hT.below hV, fun i hi => hat V hV i hi⟩
  clear hat h hT hC
  obtain ⟨N, hN⟩ : ∃ N, w.heap.size = N := ⟨_, rfl⟩
  rw [hN] at c0 c1 hP
  replace hm := Lib.hid hm
  go_enter Tryd.func21, Tryd.ntmps21
  go_wp2_with fail
  obtain ⟨U, hU⟩ : ∃ U, w.alloc (.cells #[.int .i64 G, .slice sp m cap] 42) = U := ⟨_, rfl⟩
  rw [hU] at hbU c0 c1 hP cc ⊢
  clear hU
  with_reducible refine Calls.mono cc ?_
  rintro e w3 ⟨r, rfl, hr, hb3⟩
  have hb3U := Lib.hid (hbU.out.trans (hb3.mono hbU.out.size))
  have hP3 : Hid (∀ V, Below w3.heap.size w3 V → V.cell? ⟨N, 0, none⟩ = some (.int .i64 G) ∧ V.cell? ⟨N, 1, none⟩ = some (.slice sp m cap)) := Lib.hid fun V hV => hP.out V (hb3.trans (hV.mono hb3.size))
  obtain ⟨c0, c1⟩ := hP3.out w3 (Below.refl _ _)
  clear cc hP
  by_cases hr1 : ¬ CntOk G fs
  · obtain rfl : r = false := by
      cases r
      · rfl
      · exact absurd (hr.1 rfl) hr1
    have hfin : Hid (MayIs G fs 1) := Lib.hid (.inl ⟨hr1, rfl⟩)
    clear hat2 hP3 hr hr1
    go_wp2_with fail
    go_ret
    exact ⟨1, rfl, hfin.out, hb3U.out⟩
  have hr1 := Classical.byContradiction hr1
  obtain rfl : r = true := hr.2 hr1
  have hk := Lib.hid hr1
  have hm16 : m ≤ 16 := by have := hr1.2.1; have := hm.out; omega
  clear hr hr1 hb3 hbU c0
  go_wp2_with fail
  clear c1
  go_loopw [3, 5, 6, 8, 15] (fun u3 u5 u6 u8 u15 wr => ∃ i : Nat, u15 = .int .i64 i ∧ u3 = .int .i64 (1 + pos fs i : Nat) ∧ i ≤ m ∧ Hid (∀ i', i' < i → ∀ j', j' < (fs.getD i' []).length → okAt G fs i' j' = true) ∧ Hid (Below w3.heap.size w3 wr)) (fun _ _ _ _ y _ => (m - (RowKit.intOf y).toNat))
  case atStart => exact ⟨0, rfl, rfl, by omega, Lib.hid (fun i h => by omega), Lib.hid (Below.refl _ _)⟩
  case round =>
    obtain ⟨i, rfl, rfl, im, hok, hB⟩ := hrel
    have i0 : (0 : Int) ≤ (i : Int) := by omega
    have hpl := pos_le hk.out i (by have := hm.out; omega)
    have hps : Hid (pos fs (i + 1) = pos fs i + (fs.getD i []).length) := Lib.hid rfl
    obtain ⟨p, hp⟩ : ∃ p, pos fs i = p := ⟨_, rfl⟩
    rw [hp] at hpl hps ⊢
    replace hp := Lib.hid hp
    have hbw := Lib.hid (hb3U.out.trans (hB.out.mono hb3U.out.size))
    by_cases hi : i < m
    · have i1 : (i : Int) < (m : Int) := by omega
      obtain ⟨b, off, sv, cp, rfl, d0, hrow⟩ := (hat2.out wr hbw.out).2 i hi
      have hrow := Lib.hid hrow
      obtain ⟨p0, p1⟩ := hP3.out wr hB.out
      obtain ⟨l, hl⟩ : ∃ l, (fs.getD i []).length = l := ⟨_, rfl⟩
      have hl64 := (hk.out.2.2.2.2 i (by have := hm.out; omega)).2
      rw [hl] at d0 hps hl64
      replace hl := Lib.hid hl
      have cw := within_any G (m : Int) (l : Int) wr
      unfold bv at cw
      go_wp2_with fail
      with_reducible refine Calls.mono cw ?_
      rintro e w4 ⟨rfl, hb4⟩
      clear cw p0 p1
      have hbw4 := Lib.hid (hbw.out.trans (hb4.mono hbw.out.size))
      have hB4 := Lib.hid (hB.out.trans (hb4.mono hB.out.size))
      have hcells := heap_alloc_new w4 (.cells #[.int .i64 1, .int .i64 256, .int .i64 16, .int .i64 G, .int .i64 m, .int .i64 l, .int .i64 32] 100)
      have hQ : Hid (∀ V, Below (w4.alloc (.cells #[.int .i64 1, .int .i64 256, .int .i64 16, .int .i64 G, .int .i64 m, .int .i64 l, .int .i64 32] 100)).heap.size (w4.alloc (.cells #[.int .i64 1, .int .i64 256, .int .i64 16, .int .i64 G, .int .i64 m, .int .i64 l, .int .i64 32] 100)) V → V.cell? ⟨w4.heap.size, 0, none⟩ = some (.int .i64 1) ∧ V.cell? ⟨w4.heap.size, 1, none⟩ = some (.int .i64 256) ∧ V.cell? ⟨w4.heap.size, 2, none⟩ = some (.int .i64 16) ∧ V.cell? ⟨w4.heap.size, 3, none⟩ = some (.int .i64 G) ∧ V.cell? ⟨w4.heap.size, 4, none⟩ = some (.int .i64 m) ∧ V.cell? ⟨w4.heap.size, 5, none⟩ = some (.int .i64 l) ∧ V.cell? ⟨w4.heap.size, 6, none⟩ = some (.int .i64 32)) := Lib.hid fun V hb => ⟨cell_then hb (cell_of hcells rfl), cell_then hb (cell_of hcells rfl), cell_then hb (cell_of hcells rfl), cell_then hb (cell_of hcells rfl), cell_then hb (cell_of hcells rfl), cell_then hb (cell_of hcells rfl), cell_then hb (cell_of hcells rfl)⟩
      have hbw5 := Lib.hid (below_alloc hbw4.out (.cells #[.int .i64 1, .int .i64 256, .int .i64 16, .int .i64 G, .int .i64 m, .int .i64 l, .int .i64 32] 100))
      have hB5 := Lib.hid (below_alloc hB4.out (.cells #[.int .i64 1, .int .i64 256, .int .i64 16, .int .i64 G, .int .i64 m, .int .i64 l, .int .i64 32] 100))
      have hrow5 : Hid (IRow (w4.alloc (.cells #[.int .i64 1, .int .i64 256, .int .i64 16, .int .i64 G, .int .i64 m, .int .i64 l, .int .i64 32] 100)) (.slice sv (fs.getD i []).length cp) (fs.getD i [])) := Lib.hid (hrow.out.below (below_alloc hb4 _))
      clear hcells hrow hbw hbw4 hB4 hb4
      obtain ⟨K, hK⟩ : ∃ K, w4.heap.size = K := ⟨_, rfl⟩
      rw [hK] at hQ
      go_wp2_with fail
      obtain ⟨w5, hw5⟩ : ∃ w5, w4.alloc (.cells #[.int .i64 1, .int .i64 256, .int .i64 16, .int .i64 G, .int .i64 m, .int .i64 l, .int .i64 32] 100) = w5 := ⟨_, rfl⟩
      rw [hw5] at hQ hbw5 hB5 hrow5 ⊢
      clear hw5 hK d0
      go_loopw [3, 8, 29] (fun u3 u8 u29 wx => ∃ j : Nat, u29 = .int .i64 j ∧ u3 = .int .i64 (1 + p + j : Nat) ∧ j ≤ l ∧ Hid (∀ j', j' < j → okAt G fs i j' = true) ∧ Hid (Below w5.heap.size w5 wx)) (fun _ _ y _ => (l - (RowKit.intOf y).toNat))
      case atStart => exact ⟨0, rfl, rfl, by omega, Lib.hid (fun i h => by omega), Lib.hid (Below.refl _ _)⟩
      case round =>
        obtain ⟨j, rfl, rfl, jl, hokj, hBj⟩ := hrel
        have j0 : (0 : Int) ≤ (j : Int) := by omega
        have hbwj := Lib.hid (hbw5.out.trans (hBj.out.mono hbw5.out.size))
        by_cases hj : j < l
        · have j1 : (j : Int) < (l : Int) := by omega
          obtain ⟨g, o, op, a, b', c, rfl, hins, d0, d1, d2, d3⟩ := hrow5.out.at_ wr hBj.out j (by have := hl.out; omega)
          have hokE : Hid (okAt G fs i j = okI G m l (op, a, b', c)) := Lib.hid (by unfold okAt; rw [hm.out, hl.out, hins])
          have hin := heap_alloc_new wr (.cells #[.int .i64 op, .int .i64 a, .int .i64 b', .int .i64 c] 26)
          have e0 : (wr.alloc (.cells #[.int .i64 op, .int .i64 a, .int .i64 b', .int .i64 c] 26)).cell? ⟨wr.heap.size, 0, none⟩ = some (.int .i64 op) := cell_of hin rfl
          have e1 : (wr.alloc (.cells #[.int .i64 op, .int .i64 a, .int .i64 b', .int .i64 c] 26)).cell? ⟨wr.heap.size, 1, none⟩ = some (.int .i64 a) := cell_of hin rfl
          have e2 : (wr.alloc (.cells #[.int .i64 op, .int .i64 a, .int .i64 b', .int .i64 c] 26)).cell? ⟨wr.heap.size, 2, none⟩ = some (.int .i64 b') := cell_of hin rfl
          have e3 : (wr.alloc (.cells #[.int .i64 op, .int .i64 a, .int .i64 b', .int .i64 c] 26)).cell? ⟨wr.heap.size, 3, none⟩ = some (.int .i64 c) := cell_of hin rfl
          have hBa := Lib.hid (below_alloc hBj.out (.cells #[.int .i64 op, .int .i64 a, .int .i64 b', .int .i64 c] 26))
          have hbwa := Lib.hid (below_alloc hbwj.out (.cells #[.int .i64 op, .int .i64 a, .int .i64 b', .int .i64 c] 26))
          obtain ⟨q0, q1, q2, q3, q4, q5, q6⟩ := hQ.out _ hBa.out
          have cm := may_any (G := G) (nf := m) (len := l) (op, a, b', c) (hat2.out _ hbwa.out).1
          unfold bv at cm
          simp only at cm
          clear hin hbwj
          have z1 : (p : Int) ≤ 2000 := by omega
          have z2 : ((1 + p + j : Nat) : Int) + 1 = ((1 + p + (j + 1) : Nat) : Int) := by omega
          have z3 : IntKind.i64.wrap (((1 + p + j : Nat) : Int) + 1) = ((1 + p + (j + 1) : Nat) : Int) := by rw [IntKind.wrap_i64]; omega
          obtain ⟨J, hJ⟩ : ∃ J, wr.heap.size = J := ⟨_, rfl⟩
          rw [hJ] at e0 e1 e2 e3
          go_wp2_with fail
          obtain ⟨w6, hw6⟩ : ∃ w6, wr.alloc (.cells #[.int .i64 op, .int .i64 a, .int .i64 b', .int .i64 c] 26) = w6 := ⟨_, rfl⟩
          rw [hw6] at cm hBa hbwa ⊢
          clear hw6 e0 e1 e2 e3 q0 q1 q2 q3 q4 q5 q6 d0 d1 d2 d3 hBj
          with_reducible refine Calls.mono cm ?_
          rintro e w7 ⟨rfl, hb7⟩
          clear cm
          have hB7 := Lib.hid (hBa.out.trans (hb7.mono hBa.out.size))
          cases hv : okI G m l (op, a, b', c) with
          | true =>
            have hok2 : Hid (∀ j', j' < j + 1 → okAt G fs i j' = true) := Lib.hid fun j' h => by
              rcases Nat.lt_or_ge j' j with q | q
              · exact hokj.out j' q
              · rw [show j' = j by omega, hokE.out]; exact hv
            clear hokj hokE hv hins
            go_wp2_with fail
            go_roundw
            case rel => exact ⟨j + 1, by go_num, rfl, by omega, hok2, hB7⟩
            case measure => simp [RowKit.intOf]; omega
          | false =>
            have hfin : Hid (MayIs G fs ((1 + p + (j + 1) : Nat) : Int)) := Lib.hid (.inr (.inr ⟨hk.out, i, j, by have := hm.out; omega, by have := hl.out; omega, hok.out, hokj.out, by rw [hokE.out]; exact hv, by rw [hp.out]; omega⟩))
            have hbw7 := Lib.hid (hbwa.out.trans (hb7.mono hbwa.out.size))
            clear hokj hokE hv hins hok
            go_wp2_with fail
            go_ret
            exact ⟨_, rfl, hfin.out, hbw7.out⟩
        · obtain rfl : j = l := by omega
          have j1 : ¬ (j : Int) < (j : Int) := by omega
          have hok2 : Hid (∀ i', i' < i + 1 → ∀ j', j' < (fs.getD i' []).length → okAt G fs i' j' = true) := Lib.hid fun i' h j' hj' => by
            rcases Nat.lt_or_ge i' i with q | q
            · exact hok.out i' q j' hj'
            · obtain rfl : i' = i := by omega
              exact hokj.out j' (by have := hl.out; omega)
          have hB8 := Lib.hid (hB5.out.trans (hBj.out.mono hB5.out.size))
          have hps2 : Hid ((1 + p + j : Nat) = 1 + pos fs (i + 1)) := Lib.hid (by rw [hps.out]; omega)
          clear hokj hok hbwj
          go_wp2_with fail
          go_roundw
          case rel => exact ⟨i + 1, by go_num, by rw [hps2.out], by omega, hok2, hB8⟩
          case measure => simp [RowKit.intOf]; omega
    · obtain rfl : i = m := by omega
      have i1 : ¬ (i : Int) < (i : Int) := by omega
      have hfin : Hid (MayIs G fs 0) := Lib.hid (.inr (.inl ⟨hk.out, by rw [hm.out]; exact hok.out, rfl⟩))
      clear hok hat2
      go_wp2_with fail
      go_ret
      exact ⟨0, rfl, hfin.out, hbw.out⟩
end Cd
end Go.Proofs.YtdhkakjiahkjnaaDoor
/- A script's reader: the next byte, in its bounds, or the text's own panic. -/
namespace Go.Proofs.YtdhkakjiahkjnaaDoor
open Go.RowKit Go.Lib Fx Ho
set_option linter.unusedVariables false
namespace Cd
variable {w w' W : World} {v fv : Value} {G nf len n : Int} {fs : List (List Ins)} {R p : Nat} {zs : List Int}
/-- The slice v holds these bytes, in a block of S. -/
def BRow (w : World) (S : Nat → Prop) (v : Value) (zs : List Int) : Prop := ∃ sp cap, v = .slice sp zs.length cap ∧ zs.length ≤ 9223372036854775807 ∧ ∀ i, i < zs.length → ∃ b off, sp = some ⟨b, off, none⟩ ∧ S b ∧ b < w.heap.size ∧ w.cell? ⟨b, off + i, none⟩ = some (.int .u8 (zs.getD i 0)) ∧ 0 ≤ zs.getD i 0 ∧ zs.getD i 0 < 256
theorem BRow.wrote {H H' : Home} {S : Nat → Prop} (h : BRow w S v zs) (hw : Wrote H w H' w') (hn : ∀ k, S k → ¬ H k) : BRow w' S v zs := by
  obtain ⟨sp, cap, e, h1, h2⟩ := h
  refine ⟨sp, cap, e, h1, fun i hi => ?_⟩
  obtain ⟨b, off, e2, hb, hl, c0, c1⟩ := h2 i hi
  exact ⟨b, off, e2, hb, Nat.lt_of_lt_of_le hl hw.size, hw.cell c0 (hn b hb), c1⟩
theorem wrote_new {H H' : Home} {a b : World} {k : Nat} (h : Wrote H w H' a) (g : Wrote (fun j => j = k) a (fun j => j = k) b) (hk : w.heap.size ≤ k) : Wrote H w H' b :=
  ⟨g.os.trans h.os, g.tape.trans h.tape, g.output.trans h.output, Nat.le_trans h.size g.size, fun j hj hn => (g.block j (Nat.lt_of_lt_of_le hj h.size) (fun e => by have e : j = k := e; omega)).trans (h.block j hj hn), h.home⟩
/-- What reading a byte comes to: the number, or where it is wrong. -/
def num (zs : List Int) (p : Nat) (lo hi : Int) : Except Nat Int := if p < zs.length ∧ lo ≤ zs.getD p 0 ∧ zs.getD p 0 ≤ hi then .ok (zs.getD p 0) else .error p
def Panics (e : Ending) : Prop := ∃ v : TypeId × Value, e = .panicked [{ v := .iface v.1 v.2, recovered := false }]
end Cd
end Go.Proofs.YtdhkakjiahkjnaaDoor
/- A script's reader: an instruction. -/
namespace Go.Proofs.YtdhkakjiahkjnaaDoor
open Go.RowKit Go.Lib Fx Ho
set_option linter.unusedVariables false
namespace Cd
variable {w w' W : World} {v fv : Value} {G nf len n : Int} {fs : List (List Ins)} {R p q : Nat} {zs : List Int}
/-- What reading an instruction comes to. -/
def instE (zs : List Int) (p : Nat) (G nf len : Int) : Except Nat Ins :=
  (num zs p 0 17).bind fun op => (num zs (p + 1) 0 (bnd G nf len (kd op.toNat 0) - 1)).bind fun a => (num zs (p + 2) 0 (bnd G nf len (kd op.toNat 1) - 1)).bind fun b => (num zs (p + 3) 0 (bnd G nf len (kd op.toNat 2) - 1)).bind fun c => .ok (op, a, b, c)
def agI (x : Ins) : Value := .agg #[.int .i64 x.1, .int .i64 x.2.1, .int .i64 x.2.2.1, .int .i64 x.2.2.2]
theorem num_ok {lo hi z : Int} (h : num zs p lo hi = .ok z) : p < zs.length ∧ lo ≤ z ∧ z ≤ hi := by
  unfold num at h
  split at h
  · rename_i hh
    cases h
    exact hh
  · cases h
theorem num_err {lo hi : Int} {q : Nat} (h : num zs p lo hi = .error q) : q = p := by
  unfold num at h
  split at h
  · cases h
  · cases h; rfl
theorem bnd_in (h1 : -1000000 ≤ G ∧ G ≤ 1000000) (h2 : -1000000 ≤ nf ∧ nf ≤ 1000000) (h3 : -1000000 ≤ len ∧ len ≤ 1000000) (k : Int) : -9223372036854775808 < bnd G nf len k ∧ bnd G nf len k ≤ 9223372036854775807 := by
  unfold bnd
  repeat' split
  all_goals omega
/-- What inst has put aside. -/
structure IB (V : World) (N M : Nat) (G nf len k0 k1 k2 : Int) : Prop where
  b0 : V.heap[N]? = some (.cells #[.int .i64 1, .int .i64 256, .int .i64 16, .int .i64 G, .int .i64 nf, .int .i64 len, .int .i64 32] 100 (0, 0))
  b1 : V.heap[N + 1]? = some (.cells #[.int .i64 0, .int .i64 0, .int .i64 0, .int .i64 0] 26 (0, 0))
  b2 : V.heap[M]? = some (.cells #[.int .i64 k0, .int .i64 k1, .int .i64 k2] 117 (0, 0))
theorem IB.wrote {H H' : Home} {U V : World} {N M : Nat} {k0 k1 k2 : Int} (h : IB U N M G nf len k0 k1 k2) (hw : Wrote H U H' V) (h1 : ¬ H N) (h2 : ¬ H (N + 1)) (h3 : ¬ H M) : IB V N M G nf len k0 k1 k2 :=
  ⟨(hw.block _ (block_lt h.b0) h1).trans h.b0, (hw.block _ (block_lt h.b1) h2).trans h.b1, (hw.block _ (block_lt h.b2) h3).trans h.b2⟩
theorem IB.bnd {V : World} {N M : Nat} {k0 k1 k2 : Int} (h : IB V N M G nf len k0 k1 k2) {q : Nat} (hq : q < 7) : V.cell? ⟨N, q, none⟩ = some (.int .i64 (Cd.bnd G nf len q)) := by
  refine cell_of h.b0 ?_
  rcases (show q = 0 ∨ q = 1 ∨ q = 2 ∨ q = 3 ∨ q = 4 ∨ q = 5 ∨ q = 6 by omega) with rfl | rfl | rfl | rfl | rfl | rfl | rfl <;> rfl
/-- The cells that the region loads. -/
def IS (V : World) (N M : Nat) (k0 k1 k2 : Nat) (b0 b1 b2 : Int) : Prop := V.cell? ⟨M, 0, none⟩ = some (.int .i64 k0) ∧ V.cell? ⟨M, 1, none⟩ = some (.int .i64 k1) ∧ V.cell? ⟨M, 2, none⟩ = some (.int .i64 k2) ∧ V.cell? ⟨N, k0, none⟩ = some (.int .i64 b0) ∧ V.cell? ⟨N, k1, none⟩ = some (.int .i64 b1) ∧ V.cell? ⟨N, k2, none⟩ = some (.int .i64 b2)
theorem IB.is {V : World} {N M k0 k1 k2 : Nat} (h : IB V N M G nf len k0 k1 k2) (h0 : k0 < 7) (h1 : k1 < 7) (h2 : k2 < 7) : IS V N M k0 k1 k2 (Cd.bnd G nf len k0) (Cd.bnd G nf len k1) (Cd.bnd G nf len k2) := ⟨cell_of h.b2 rfl, cell_of h.b2 rfl, cell_of h.b2 rfl, h.bnd h0, h.bnd h1, h.bnd h2⟩
theorem four_cell {V : World} {B : Nat} {a b c d x y z t : Value} {e : TypeId} (h : V.heap[B]? = some (.cells #[a, b, c, d] e (0, 0))) : ((((V.setCell ⟨B, 0, none⟩ x).setCell ⟨B, 1, none⟩ y).setCell ⟨B, 2, none⟩ z).setCell ⟨B, 3, none⟩ t).heap[B]? = some (.cells #[x, y, z, t] e (0, 0)) ∧ Wrote (fun k => k = B) V (fun k => k = B) ((((V.setCell ⟨B, 0, none⟩ x).setCell ⟨B, 1, none⟩ y).setCell ⟨B, 2, none⟩ z).setCell ⟨B, 3, none⟩ t) := by
  have g0 := heap_setCell_same V B 0 _ _ x h
  have g1 := heap_setCell_same _ B 1 _ _ y g0
  have g2 := heap_setCell_same _ B 2 _ _ z g1
  have g3 := heap_setCell_same _ B 3 _ _ t g2
  have w1 : ∀ (U : World) (j : Nat) (u : Value), Wrote (fun k => k = B) U (fun k => k = B) (U.setCell ⟨B, j, none⟩ u) := fun U j u => wrote_setCell (a := ⟨B, j, none⟩) rfl rfl rfl rfl rfl
  exact ⟨g3, (((w1 _ _ _).trans (w1 _ _ _)).trans (w1 _ _ _)).trans (w1 _ _ _)⟩
end Cd
end Go.Proofs.YtdhkakjiahkjnaaDoor
/- A script's reader: a function. -/
namespace Go.Proofs.YtdhkakjiahkjnaaDoor
open Go.RowKit Go.Lib Fx Ho
set_option linter.unusedVariables false
namespace Cd
variable {w w' W : World} {v fv : Value} {G nf len n : Int} {fs : List (List Ins)} {R p q j : Nat} {zs : List Int} {L : List Ins}
def c4 (x : Ins) : List Value := [.int .i64 x.1, .int .i64 x.2.1, .int .i64 x.2.2.1, .int .i64 x.2.2.2]
def ca (L : List Ins) : List Value := L.flatMap c4
theorem ca_cons (x : Ins) (L : List Ins) : ca (x :: L) = .int .i64 x.1 :: .int .i64 x.2.1 :: .int .i64 x.2.2.1 :: .int .i64 x.2.2.2 :: ca L := rfl
theorem ca_len : ∀ L : List Ins, (ca L).length = L.length * 4
  | [] => rfl
  | x :: L => by rw [ca_cons]; simp only [List.length_cons]; rw [ca_len L]; omega
theorem ca_get : ∀ (L : List Ins) (i : Nat), i < L.length → (ca L)[i * 4]? = some (.int .i64 (L.getD i zi).1) ∧ (ca L)[i * 4 + 1]? = some (.int .i64 (L.getD i zi).2.1) ∧ (ca L)[i * 4 + 2]? = some (.int .i64 (L.getD i zi).2.2.1) ∧ (ca L)[i * 4 + 3]? = some (.int .i64 (L.getD i zi).2.2.2)
  | [], i, h => by cases h
  | x :: L, 0, h => ⟨rfl, rfl, rfl, rfl⟩
  | x :: L, i + 1, h => by
    rw [ca_cons, show (i + 1) * 4 = i * 4 + 1 + 1 + 1 + 1 by omega]
    simpa using ca_get L i (by simpa using h)
theorem ca_set : ∀ (L : List Ins) (i : Nat) (x : Ins), ((((ca L).set (i * 4) (.int .i64 x.1)).set (i * 4 + 1) (.int .i64 x.2.1)).set (i * 4 + 2) (.int .i64 x.2.2.1)).set (i * 4 + 3) (.int .i64 x.2.2.2) = ca (L.set i x)
  | [], i, x => by simp [ca]
  | y :: L, 0, x => rfl
  | y :: L, i + 1, x => by
    rw [show (y :: L).set (i + 1) x = y :: L.set i x from rfl, ca_cons, ca_cons, ← ca_set L i x, show (i + 1) * 4 = i * 4 + 1 + 1 + 1 + 1 by omega]
    simp only [List.set_cons_succ, show i * 4 + 1 + 1 + 1 + 1 + 1 = (i * 4 + 1) + 1 + 1 + 1 + 1 by omega, show i * 4 + 1 + 1 + 1 + 1 + 2 = (i * 4 + 2) + 1 + 1 + 1 + 1 by omega, show i * 4 + 1 + 1 + 1 + 1 + 3 = (i * 4 + 3) + 1 + 1 + 1 + 1 by omega]
/-- The block B holds the instructions L. -/
def IBlk (w : World) (B : Nat) (L : List Ins) : Prop := w.heap[B]? = some (.cells (ca L).toArray 26 (0, 0))
theorem IBlk.set {B : Nat} (h : IBlk w B L) (i : Nat) (x : Ins) : IBlk ((((w.setCell ⟨B, i * 4, none⟩ (.int .i64 x.1)).setCell ⟨B, i * 4 + 1, none⟩ (.int .i64 x.2.1)).setCell ⟨B, i * 4 + 2, none⟩ (.int .i64 x.2.2.1)).setCell ⟨B, i * 4 + 3, none⟩ (.int .i64 x.2.2.2)) B (L.set i x) ∧ Wrote (fun k => k = B) w (fun k => k = B) ((((w.setCell ⟨B, i * 4, none⟩ (.int .i64 x.1)).setCell ⟨B, i * 4 + 1, none⟩ (.int .i64 x.2.1)).setCell ⟨B, i * 4 + 2, none⟩ (.int .i64 x.2.2.1)).setCell ⟨B, i * 4 + 3, none⟩ (.int .i64 x.2.2.2)) := by
  have g0 := heap_setCell_same w B (i * 4) _ _ (.int .i64 x.1) h
  have g1 := heap_setCell_same _ B (i * 4 + 1) _ _ (.int .i64 x.2.1) g0
  have g2 := heap_setCell_same _ B (i * 4 + 2) _ _ (.int .i64 x.2.2.1) g1
  have g3 := heap_setCell_same _ B (i * 4 + 3) _ _ (.int .i64 x.2.2.2) g2
  have w1 : ∀ (U : World) (j : Nat) (u : Value), Wrote (fun k => k = B) U (fun k => k = B) (U.setCell ⟨B, j, none⟩ u) := fun U j u => wrote_setCell (a := ⟨B, j, none⟩) rfl rfl rfl rfl rfl
  refine ⟨?_, (((w1 _ _ _).trans (w1 _ _ _)).trans (w1 _ _ _)).trans (w1 _ _ _)⟩
  unfold IBlk
  rw [g3, List.setIfInBounds_toArray, List.setIfInBounds_toArray, List.setIfInBounds_toArray, List.setIfInBounds_toArray, ca_set]
theorem IBlk.cells {B : Nat} (h : IBlk w B L) {i : Nat} (hi : i < L.length) : (w.cell? ⟨B, i * 4, none⟩ = some (.int .i64 (L.getD i zi).1) ∧ w.cell? ⟨B, i * 4 + 1, none⟩ = some (.int .i64 (L.getD i zi).2.1) ∧ w.cell? ⟨B, i * 4 + 2, none⟩ = some (.int .i64 (L.getD i zi).2.2.1) ∧ w.cell? ⟨B, i * 4 + 3, none⟩ = some (.int .i64 (L.getD i zi).2.2.2)) ∧ w.frozen? ⟨B, i * 4, none⟩ = false ∧ w.frozen? ⟨B, i * 4 + 1, none⟩ = false ∧ w.frozen? ⟨B, i * 4 + 2, none⟩ = false ∧ w.frozen? ⟨B, i * 4 + 3, none⟩ = false := by
  obtain ⟨h0, h1, h2, h3⟩ := ca_get L i hi
  have hc : ∀ {j : Nat} {u : Value}, (ca L)[j]? = some u → w.cell? ⟨B, j, none⟩ = some u := fun {j u} hj => cell_of h (by rw [List.getElem?_toArray]; exact hj)
  exact ⟨⟨hc h0, hc h1, hc h2, hc h3⟩, frozen_of_row _ _ _ _ _ h, frozen_of_row _ _ _ _ _ h, frozen_of_row _ _ _ _ _ h, frozen_of_row _ _ _ _ _ h⟩
theorem IBlk.row {B cap : Nat} (h : IBlk w B L) (hl : L.length ≤ 1000000) : IRow w (.slice (some ⟨B, 0, none⟩) L.length cap) L := ⟨_, cap, rfl, by omega, fun i hi => by
  obtain ⟨⟨h0, h1, h2, h3⟩, _⟩ := h.cells hi
  exact ⟨B, 0, rfl, by rw [Nat.zero_add]; exact h0, by rw [Nat.zero_add]; exact h1, by rw [Nat.zero_add]; exact h2, by rw [Nat.zero_add]; exact h3⟩⟩
theorem infoInst : (Tryd.prog.info? 26).map (fun i => (i.zero, i.size, i.bytes)) = some (some (.agg #[.int .i64 0, .int .i64 0, .int .i64 0, .int .i64 0]), 4, 32) := by kernel_rfl
/-- What reading k instructions comes to. -/
def insE (zs : List Int) (p : Nat) (G nf len : Int) : Nat → Except Nat (List Ins)
  | 0 => .ok []
  | k + 1 => (insE zs p G nf len k).bind fun l => (instE zs (p + 4 * k) G nf len).bind fun x => .ok (l ++ [x])
theorem insE_len {G nf len : Int} : ∀ k l, insE zs p G nf len k = .ok l → l.length = k
  | 0, l, h => by cases h; rfl
  | k + 1, l, h => by
    unfold insE at h
    cases e : insE zs p G nf len k with
    | error q => rw [e] at h; cases h
    | ok l' =>
      rw [e] at h
      cases e2 : instE zs (p + 4 * k) G nf len with
      | error q =>
        have h : (instE zs (p + 4 * k) G nf len).bind (fun x => Except.ok (l' ++ [x])) = .ok l := h
        rw [e2] at h; cases h
      | ok x =>
        have h : (instE zs (p + 4 * k) G nf len).bind (fun x => Except.ok (l' ++ [x])) = .ok l := h
        rw [e2] at h
        cases h
        have := insE_len k l' e
        simp; omega
/-- A failure stays. -/
theorem insE_err {G nf len : Int} {q : Nat} : ∀ k m, k ≤ m → insE zs p G nf len k = .error q → insE zs p G nf len m = .error q
  | k, 0, h, e => by
    have hk : k = 0 := by omega
    subst hk
    exact e
  | k, m + 1, h, e => by
    rcases Nat.lt_or_ge k (m + 1) with g | g
    · unfold insE
      rw [insE_err k m (by omega) e]; rfl
    · obtain rfl : k = m + 1 := by omega
      exact e
/-- What reading a function comes to. -/
def fnE (zs : List Int) (p : Nat) (G nf : Int) : Except Nat (List Ins) := (num zs p 1 64).bind fun n => insE zs (p + 1) G nf n n.toNat
theorem made_ins (n : Nat) : (madeCells (Value.agg #[.int .i64 0, .int .i64 0, .int .i64 0, .int .i64 0]).cells (n * 4)).toList = ca (List.replicate n zi) := by
  apply List.ext_getElem?
  intro i
  unfold madeCells
  by_cases h : i < n * 4
  · obtain ⟨k, t, rfl, ht⟩ : ∃ k t, i = k * 4 + t ∧ t < 4 := ⟨i / 4, i % 4, by omega, by omega⟩
    obtain ⟨h0, h1, h2, h3⟩ := ca_get (List.replicate n zi) k (by rw [List.length_replicate]; omega)
    have hz : (List.replicate n zi).getD k zi = zi := by rw [List.getD_eq_getElem?_getD, List.getElem?_replicate]; split <;> rfl
    rw [hz] at h0 h1 h2 h3
    have hm : (k * 4 + t) % 4 = t := by omega
    rcases (show t = 0 ∨ t = 1 ∨ t = 2 ∨ t = 3 by omega) with rfl | rfl | rfl | rfl
    · rw [Nat.add_zero, h0]; simp [Value.cells, show k * 4 < n * 4 by omega, show k * 4 % 4 = 0 by omega, zi]
    · rw [h1]; simp [Value.cells, h, hm, zi]
    · rw [h2]; simp [Value.cells, h, hm, zi]
    · rw [h3]; simp [Value.cells, h, hm, zi]
  · rw [List.getElem?_eq_none (l := ca _) (by rw [ca_len, List.length_replicate]; omega)]
    simp [h]
theorem full_ins {lo cap n N : Nat} {w1 : World} (h : w1.ownsRow lo 26 4 (.slice (some ⟨N, 0, none⟩) n n) n (madeCells (Value.agg #[.int .i64 0, .int .i64 0, .int .i64 0, .int .i64 0]).cells (n * 4)).toList) : IBlk w1 N (List.replicate n zi) := by
  rcases h.2 with ⟨e, _⟩ | ⟨g, cap, cur, e, _, hh, _, _, hs, ht⟩
  · cases e
  · cases e
    rw [made_ins] at ht
    have e1 : cur.toList.take (n * 4) = cur.toList := List.take_of_length_le (by rw [Array.length_toList, hs]; exact Nat.le_refl _)
    rw [e1] at ht
    have e2 : cur = (ca (List.replicate n zi)).toArray := Array.ext' ht
    unfold IBlk
    rw [← e2]; exact hh
end Cd
end Go.Proofs.YtdhkakjiahkjnaaDoor
/- A script's reader: a function, told. -/
namespace Go.Proofs.YtdhkakjiahkjnaaDoor
open Go.RowKit Go.Lib Fx Ho
set_option linter.unusedVariables false
namespace Cd
variable {w w' W : World} {v fv : Value} {G nf len n : Int} {fs : List (List Ins)} {R p q j : Nat} {zs : List Int} {L : List Ins}
theorem list_set {α : Type} (A : List α) (x y : α) (m : Nat) : (A ++ List.replicate (m + 1) x).set A.length y = (A ++ [y]) ++ List.replicate m x := by
  rw [List.set_append_right _ _ (Nat.le_refl _), Nat.sub_self, List.append_assoc]
  rfl
end Cd
end Go.Proofs.YtdhkakjiahkjnaaDoor
/- A script's reader: a program; what lies between two functions. -/
namespace Go.Proofs.YtdhkakjiahkjnaaDoor
open Go.RowKit Go.Lib Fx Ho Gr
set_option linter.unusedVariables false
namespace Cd
variable {w w' W wr : World} {v fv : Value} {G nf len n : Int} {fs : List (List Ins)} {R p q j M : Nat} {zs : List Int} {L l : List Ins} {Bs : List Nat}
/-- What reading k functions comes to, and where it stands then. -/
def fsE (zs : List Int) (G nf : Int) : Nat → Except Nat (List (List Ins) × Nat)
  | 0 => .ok ([], 2)
  | k + 1 => (fsE zs G nf k).bind fun r => (fnE zs r.2 G nf).bind fun l => .ok (r.1 ++ [l], r.2 + 1 + 4 * l.length)
/-- What a script means: a program, or the first byte that is wrong. -/
def progE (zs : List Int) : Except Nat (Int × List (List Ins)) :=
  (num zs 0 1 16).bind fun nf => (num zs 1 0 32).bind fun G => (fsE zs G nf nf.toNat).bind fun r => if r.2 < zs.length then .error r.2 else .ok (G, r.1)
theorem fsE_err {k m : Nat} (h : k ≤ m) (e : fsE zs G nf k = .error q) : fsE zs G nf m = .error q := by
  induction m with
  | zero =>
    have hk : k = 0 := by omega
    subst hk
    exact e
  | succ m ih =>
    rcases Nat.lt_or_ge k (m + 1) with g | g
    · unfold fsE
      rw [ih (by omega)]; rfl
    · have hk : k = m + 1 := by omega
      subst hk
      exact e
theorem fsE_len : ∀ k r, fsE zs G nf k = .ok r → r.1.length = k
  | 0, r, h => by cases h; rfl
  | k + 1, r, h => by
    unfold fsE at h
    cases e : fsE zs G nf k with
    | error q => rw [e] at h; cases h
    | ok s =>
      rw [e] at h
      have h : (fnE zs s.2 G nf).bind (fun l => Except.ok (s.1 ++ [l], s.2 + 1 + 4 * l.length)) = .ok r := h
      cases e2 : fnE zs s.2 G nf with
      | error q => rw [e2] at h; cases h
      | ok l =>
        rw [e2] at h
        cases h
        have := fsE_len k s e
        simp; omega
def hd (Bs : List Nat) (fs : List (List Ins)) : List Value := List.zipWith (fun B l => Value.slice (some ⟨B, 0, none⟩) l.length l.length) Bs fs
theorem hd_app {A : List Nat} {F : List (List Ins)} (h : A.length = F.length) (B : Nat) (l : List Ins) : hd (A ++ [B]) (F ++ [l]) = hd A F ++ [.slice (some ⟨B, 0, none⟩) l.length l.length] := by
  unfold hd
  rw [List.zipWith_append h]; rfl
theorem hd_len (h : Bs.length = fs.length) : (hd Bs fs).length = fs.length := by unfold hd; rw [List.length_zipWith]; omega
theorem hd_get (h : Bs.length = fs.length) {i : Nat} (hi : i < fs.length) : (hd Bs fs)[i]? = some (.slice (some ⟨Bs.getD i 0, 0, none⟩) (fs.getD i []).length (fs.getD i []).length) := by
  unfold hd
  rw [List.getElem?_zipWith, List.getElem?_eq_getElem (show i < Bs.length by omega), List.getElem?_eq_getElem hi, List.getD_eq_getElem?_getD, List.getD_eq_getElem?_getD, List.getElem?_eq_getElem (show i < Bs.length by omega), List.getElem?_eq_getElem hi]
  rfl
/-- The functions that have been read: a row of slices, each with a block of its own; nothing of it at M or below lo. -/
structure Fw (lo M : Nat) (wr : World) (fv : Value) (fs : List (List Ins)) (Bs : List Nat) : Prop where
  len : Bs.length = fs.length
  row : GRow 1 wr fv fs.length (hd Bs fs)
  ins : ∀ i, i < fs.length → IBlk wr (Bs.getD i 0) (fs.getD i []) ∧ (fs.getD i []).length ≤ 64
  sep : ∀ B, B ∈ Bs → B ≠ M ∧ lo ≤ B ∧ fv.ownBlock ≠ some B
  fvs : ∀ k, fv.ownBlock = some k → k ≠ M ∧ lo ≤ k
variable {lo : Nat}
theorem getD_mem {i : Nat} (h : i < Bs.length) : Bs.getD i 0 ∈ Bs := by
  rw [List.getD_eq_getElem?_getD, List.getElem?_eq_getElem h]; exact List.getElem_mem h
theorem Fw.wrote {H H' : Home} (h : Fw lo M wr fv fs Bs) (hw : Wrote H wr H' w') (hn : ∀ k, H k → k = M ∨ k < lo) : Fw lo M w' fv fs Bs := by
  refine ⟨h.len, h.row.wrote hw (fun k hk hh => ?_), fun i hi => ⟨?_, (h.ins i hi).2⟩, h.sep, h.fvs⟩
  · have := h.fvs k hk
    rcases hn k hh with e | e <;> omega
  · have h1 := (h.ins i hi).1
    have h2 := h.sep _ (getD_mem (show i < Bs.length by rw [h.len]; exact hi))
    exact (hw.block _ (block_lt h1) (fun hh => by rcases hn _ hh with e | e <;> omega)).trans h1
theorem Fw.below (h : Fw lo M wr fv fs Bs) (hb : Below wr.heap.size wr w') : Fw lo M w' fv fs Bs := h.wrote (H := fun _ => False) (Wrote.of_below hb) (fun k h => h.elim)
/-- One function more. -/
theorem Fw.more {v8 : Value} {w8 : World} {B : Nat} (h : Fw lo M wr fv fs Bs) (hB : IBlk wr B l) (hl : l.length ≤ 64) (hBM : B ≠ M) (hBl : lo ≤ B) (hBf : fv.ownBlock ≠ some B) (hlo : lo ≤ wr.heap.size) (hM : M < wr.heap.size) (hg : GRow 1 w8 v8 (fs.length + 1) (hd Bs fs ++ [.slice (some ⟨B, 0, none⟩) l.length l.length])) (hw : Wrote (fun k => fv.ownBlock = some k) wr (fun k => v8.ownBlock = some k) w8) : Fw lo M w8 v8 (fs ++ [l]) (Bs ++ [B]) := by
  have hnew : ∀ k, v8.ownBlock = some k → (fv.ownBlock = some k) ∨ wr.heap.size ≤ k := fun k hk => hw.home k hk
  refine ⟨by rw [List.length_append, List.length_append, h.len]; rfl, by rw [hd_app h.len, List.length_append]; exact hg, fun i hi => ?_, fun B' hB' => ?_, fun k hk => ?_⟩
  · rw [List.length_append, List.length_singleton] at hi
    rcases Nat.lt_or_ge i fs.length with e | e
    · have h1 := h.ins i e
      have h2 := h.sep _ (getD_mem (show i < Bs.length by rw [h.len]; exact e))
      have e1 : (Bs ++ [B]).getD i 0 = Bs.getD i 0 := by rw [List.getD_eq_getElem?_getD, List.getD_eq_getElem?_getD, List.getElem?_append_left (by rw [h.len]; exact e)]
      have e2 : (fs ++ [l]).getD i [] = fs.getD i [] := by rw [List.getD_eq_getElem?_getD, List.getD_eq_getElem?_getD, List.getElem?_append_left e]
      rw [e1, e2]
      exact ⟨(hw.block _ (block_lt h1.1) h2.2.2).trans h1.1, h1.2⟩
    · obtain rfl : i = fs.length := by omega
      have e1 : (Bs ++ [B]).getD fs.length 0 = B := by rw [List.getD_eq_getElem?_getD, List.getElem?_append_right (by rw [h.len]; exact Nat.le_refl _), h.len, Nat.sub_self]; rfl
      have e2 : (fs ++ [l]).getD fs.length [] = l := by rw [List.getD_eq_getElem?_getD, List.getElem?_append_right (Nat.le_refl _), Nat.sub_self]; rfl
      rw [e1, e2]
      exact ⟨(hw.block _ (block_lt hB) hBf).trans hB, hl⟩
  · rcases List.mem_append.1 hB' with hm | hm
    · have h2 := h.sep B' hm
      refine ⟨h2.1, h2.2.1, fun e => (hnew B' e).elim h2.2.2 (fun e2 => ?_)⟩
      obtain ⟨i, hi, rfl⟩ := List.getElem_of_mem hm
      have h1 := (h.ins i (by rw [← h.len]; exact hi)).1
      have := block_lt h1
      rw [List.getD_eq_getElem?_getD, List.getElem?_eq_getElem hi] at this
      simp only [Option.getD_some] at this
      omega
    · obtain rfl := List.mem_singleton.1 hm
      have := block_lt hB
      exact ⟨hBM, hBl, fun e => (hnew B' e).elim hBf (fun e2 => by omega)⟩
  · rcases hnew k hk with e | e
    · exact h.fvs k e
    · omega
theorem Fw.frow (h : Fw lo M wr fv fs Bs) (hs : fs.length ≤ 1000000) : FRow wr fv fs := by
  obtain ⟨ao, b, off, cap, rfl, h1, h2, h3, h4⟩ := h.row.cell
  refine ⟨ao, cap, rfl, by omega, fun i hi => ?_⟩
  obtain ⟨rfl, _, _⟩ := h3 (by omega)
  exact ⟨b, off, _, rfl, (h4 i _ (hd_get h.len hi)).1, (h.ins i hi).1.row (by have := (h.ins i hi).2; omega)⟩
theorem eltFn : Elt Tryd.prog 38 24 1 24 (.slice none 0 0) := ⟨Tryd.underlying38, by kernel_rfl, by kernel_rfl, by decide, by decide⟩
theorem src_fn {W : World} {K : Nat} {x : Value} (hx : x.oneCell' = true) (hb : W.heap[K]? = some (.cells #[x] 24 (0, 0))) : Src Tryd.prog 1 38 (.slice (some ⟨K, 0, none⟩) 1 1) 1 [x] W := src_new (s := 1) (A := #[x]) Tryd.underlying38 rfl (by simpa using hx) hb
end Cd
end Go.Proofs.YtdhkakjiahkjnaaDoor
/- code.Encode: a program's bytes. -/
namespace Go.Proofs.YtdhkakjiahkjnaaDoor
open Go.RowKit Go.Lib Fx Ho Gr
set_option linter.unusedVariables false
namespace Cd
variable {w w' W wr : World} {v fv : Value} {G nf len n : Int} {fs : List (List Ins)} {zs A : List Int} {l : List Ins}
def encI (x : Ins) : List Int := [x.1, x.2.1, x.2.2.1, x.2.2.2]
def encF (l : List Ins) : List Int := (l.length : Int) :: l.flatMap encI
def enc (G : Int) (fs : List (List Ins)) : List Int := (fs.length : Int) :: G :: fs.flatMap encF
def u8s (zs : List Int) : List Value := zs.map (Value.int .u8)
theorem u8s_app (A B : List Int) : u8s (A ++ B) = u8s A ++ u8s B := List.map_append
theorem u8s_len : (u8s A).length = A.length := List.length_map _
/-- What stands behind i functions and j instructions of the next. -/
def encP (G : Int) (fs : List (List Ins)) (i : Nat) : List Int := (fs.length : Int) :: G :: (fs.take i).flatMap encF
def encQ (G : Int) (fs : List (List Ins)) (i j : Nat) : List Int := encP G fs i ++ ((fs.getD i []).length : Int) :: ((fs.getD i []).take j).flatMap encI
theorem take_next {α : Type} (L : List α) (d : α) {i : Nat} (hi : i < L.length) : L.take (i + 1) = L.take i ++ [L.getD i d] := by
  rw [List.take_succ_eq_append_getElem hi, List.getD_eq_getElem?_getD, List.getElem?_eq_getElem hi]; rfl
theorem encQ_next (i : Nat) {j : Nat} (hj : j < (fs.getD i []).length) : encQ G fs i (j + 1) = encQ G fs i j ++ encI ((fs.getD i []).getD j zi) := by
  unfold encQ
  rw [take_next _ zi hj, List.flatMap_append]; simp
theorem encQ_all {i : Nat} (hi : i < fs.length) : encQ G fs i (fs.getD i []).length = encP G fs (i + 1) := by
  unfold encQ encP
  rw [List.take_length, take_next _ [] hi, List.flatMap_append]; simp [encF]
theorem encP_all : encP G fs fs.length = enc G fs := by unfold encP enc; rw [List.take_length]
theorem encI_len (L : List Ins) : (L.flatMap encI).length = 4 * L.length := by
  induction L with
  | nil => rfl
  | cons x L ih => rw [List.flatMap_cons, List.length_append, ih]; simp [encI]; omega
theorem encP_len (h : CntOk G fs) : ∀ i, i ≤ fs.length → (encP G fs i).length ≤ 2 + 257 * i
  | 0, _ => by simp [encP]
  | i + 1, hi => by
    have ih := encP_len h i (by omega)
    have := (h.2.2.2.2 i (by omega)).2
    rw [← encQ_all (by omega)]
    unfold encQ
    rw [List.length_append, List.take_length, List.length_cons, encI_len]; omega
theorem encQ_len (h : CntOk G fs) {i j : Nat} (hi : i < fs.length) (hj : j ≤ (fs.getD i []).length) : (encQ G fs i j).length ≤ 4500 := by
  have h1 := encP_len h i (by omega)
  have h2 := h.2.1
  have h3 := (h.2.2.2.2 i (by omega)).2
  unfold encQ
  rw [List.length_append, List.length_cons, encI_len, List.length_take]; omega
theorem bnd_le (h : CntOk G fs) (k : Int) : bnd G fs.length 64 k ≤ 256 := by
  have := h.2.1; have := h.2.2.2.1
  unfold bnd; split <;> (try split) <;> (try split) <;> (try split) <;> (try split) <;> (try split) <;> omega
theorem bnd_small (h : CntOk G fs) {len : Int} (hl : len ≤ 64) (k : Int) : bnd G fs.length len k ≤ 256 := by
  have := h.2.1; have := h.2.2.2.1
  unfold bnd; split <;> (try split) <;> (try split) <;> (try split) <;> (try split) <;> (try split) <;> omega
/-- An instruction that may be is of bytes. -/
theorem ok_bytes (h : CntOk G fs) {i j : Nat} (hi : i < fs.length) (ho : okAt G fs i j = true) {x : Ins} (hx : (fs.getD i []).getD j zi = x) : (0 ≤ x.1 ∧ x.1 ≤ 255) ∧ (0 ≤ x.2.1 ∧ x.2.1 ≤ 255) ∧ (0 ≤ x.2.2.1 ∧ x.2.2.1 ≤ 255) ∧ (0 ≤ x.2.2.2 ∧ x.2.2.2 ≤ 255) := by
  unfold okAt okI hasB at ho
  rw [hx] at ho
  simp only [Bool.and_eq_true, decide_eq_true_eq] at ho
  obtain ⟨h1, h2, h3, h4⟩ := ho
  have hl : ((fs.getD i []).length : Int) ≤ 64 := by have := (h.2.2.2.2 i hi).2; omega
  have b0 := bnd_small h hl (kd x.1.toNat 0)
  have b1 := bnd_small h hl (kd x.1.toNat 1)
  have b2 := bnd_small h hl (kd x.1.toNat 2)
  omega
theorem wu8 {z : Int} (h0 : 0 ≤ z) (h1 : z ≤ 255) : IntKind.u8.wrap z = z := by rw [IntKind.wrap_u8]; omega
theorem grow_blk {W : World} {K : Nat} {zs : List Int} {e : TypeId} (hb : W.heap[K]? = some (.cells (u8s zs).toArray e (0, 0))) (hz : zs.length ≤ 1000000) : GRow 1 W (.slice (some ⟨K, 0, none⟩) zs.length zs.length) zs.length (u8s zs) := by
  have hmx : (1000000 : Nat) ≤ maxLen := by unfold maxLen; omega
  refine ⟨_, K, 0, zs.length, rfl, ⟨Nat.le_refl _, fun _ => rfl, fun _ => block_lt hb, by rw [u8s_len]; omega, fun j u hj => ?_, fun j hj => by omega⟩, ⟨by omega, fun j hj => frozen_of_row _ _ _ _ _ hb⟩, .inl ⟨rfl, block_lt hb⟩⟩
  exact cell_of hb (by rw [← hj]; simp)
theorem FRow.fix (h : FRow w v fs) : ∃ sp cap, v = .slice sp fs.length cap ∧ ∀ i, i < fs.length → ∃ b off sv cp, sp = some ⟨b, off, none⟩ ∧ ∀ wr, Below w.heap.size w wr → wr.cell? ⟨b, off + i, none⟩ = some (.slice sv (fs.getD i []).length cp) ∧ IRow wr (.slice sv (fs.getD i []).length cp) (fs.getD i []) := by
  obtain ⟨sp, cap, e, h1, h2⟩ := h
  refine ⟨sp, cap, e, fun i hi => ?_⟩
  obtain ⟨b, off, fv, e2, c0, c1⟩ := h2 i hi
  obtain ⟨sv, cp, e3, _⟩ := id c1
  subst e3
  exact ⟨b, off, sv, cp, e2, fun wr hb => ⟨cell_then hb c0, c1.below hb⟩⟩
/-- Encode's bytes so far: in a block of its own. -/
structure Eb (w wr : World) (v : Value) (zs : List Int) : Prop where
  row : GRow 1 wr v zs.length (u8s zs)
  own : ∀ k, v.ownBlock = some k → w.heap.size ≤ k
  low : Below w.heap.size w wr
theorem Eb.more {v1 : Value} {wa w1 : World} {ys : List Int} (h : Eb w wr v zs) (hb : Below wr.heap.size wr wa) (hg : GRow 1 w1 v1 (zs.length + ys.length) (u8s zs ++ u8s ys)) (hw : Wrote (fun k => v.ownBlock = some k) wa (fun k => v1.ownBlock = some k) w1) : (∃ sp cap, v1 = .slice sp (zs ++ ys).length cap) ∧ Eb w w1 v1 (zs ++ ys) := by
  have e1 : (zs ++ ys).length = zs.length + ys.length := List.length_append
  have hs := h.low.size
  have hs2 := hb.size
  refine ⟨by rw [e1]; exact hg.slice, ⟨by rw [e1, u8s_app]; exact hg, fun k hk => ?_, ?_⟩⟩
  · rcases hw.home k hk with q | q
    · exact h.own k q
    · omega
  · have h1 := h.low.trans (hb.mono hs)
    exact h1.trans ⟨hw.os, hw.tape, hw.output, hw.size, fun k hk => hw.block k (by omega) (fun e => by have := h.own k e; omega)⟩
def EncR (G : Int) (fs : List (List Ins)) (w : World) (e : Ending) (w' : World) : Prop :=
  (MayIs G fs 0 ∧ ∃ v, e = .returned (.tuple #[v, .int .i64 0]) ∧ Eb w w' v (enc G fs)) ∨
  (∃ r, MayIs G fs r ∧ r ≠ 0 ∧ e = .returned (.tuple #[.slice none 0 0, .int .i64 1]) ∧ Below w.heap.size w w')
end Cd
end Go.Proofs.YtdhkakjiahkjnaaDoor
/- code.Encode, told. -/
namespace Go.Proofs.YtdhkakjiahkjnaaDoor
open Go.RowKit Go.Lib Fx Ho Gr
set_option linter.unusedVariables false
namespace Cd
variable {w w' W wr : World} {v fv : Value} {G nf len n : Int} {fs : List (List Ins)} {zs A : List Int} {l : List Ins}
end Cd
end Go.Proofs.YtdhkakjiahkjnaaDoor
/- A script's reader: a program, told. -/
namespace Go.Proofs.YtdhkakjiahkjnaaDoor
open Go.RowKit Go.Lib Fx Ho Gr
set_option linter.unusedVariables false
namespace Cd
variable {w w' W wr : World} {v fv : Value} {G nf len n : Int} {fs : List (List Ins)} {R p q j M N k : Nat} {zs : List Int} {L l : List Ins} {Bs : List Nat}
end Cd
end Go.Proofs.YtdhkakjiahkjnaaDoor
/- code.Decode: what a script's bytes mean, or the first that is wrong. -/
namespace Go.Proofs.YtdhkakjiahkjnaaDoor
open Go.RowKit Go.Lib Fx Ho Gr
set_option linter.unusedVariables false
namespace Cd
variable {w w' W wr : World} {v fv : Value} {G nf len n : Int} {fs : List (List Ins)} {R p q j M N k : Nat} {zs : List Int} {L l : List Ins} {Bs : List Nat}
theorem below_of_w {H H' : Home} {lo : Nat} (h : Wrote H w H' w') (hl : Low lo H) (hs : lo ≤ w.heap.size) : Below lo w w' := ⟨h.os, h.tape, h.output, h.size, fun k hk => h.block k (by omega) (fun hh => by have := hl k hh; omega)⟩
theorem five_blocks {o0 o1 o2 o3 o4 : Array Value} {t0 t1 t2 t3 t4 : TypeId} (w : World) : let U := ((((w.alloc (.cells o0 t0)).alloc (.cells o1 t1)).alloc (.cells o2 t2)).alloc (.cells o3 t3)).alloc (.cells o4 t4); U.heap[w.heap.size]? = some (.cells o0 t0 (0, 0)) ∧ U.heap[w.heap.size + 1]? = some (.cells o1 t1 (0, 0)) ∧ U.heap[w.heap.size + 1 + 1]? = some (.cells o2 t2 (0, 0)) ∧ U.heap[w.heap.size + 1 + 1 + 1]? = some (.cells o3 t3 (0, 0)) ∧ U.heap[w.heap.size + 1 + 1 + 1 + 1]? = some (.cells o4 t4 (0, 0)) ∧ Below w.heap.size w U := by
  have s1 : ∀ (u : World) (o : Obj), (u.alloc o).heap.size = u.heap.size + 1 := fun u o => by show (u.heap.push _).size = _; rw [Array.size_push]
  have step : ∀ (u : World) (k : Nat) (x : Obj) (a : Array Value) (t : TypeId), u.heap[k]? = some x → (u.alloc (.cells a t)).heap[k]? = some x := fun u k x a t h => ((below_alloc (Below.refl u.heap.size u) _).block k (block_lt h)).trans h
  have h0 := heap_alloc_new w (.cells o0 t0)
  have h1 := heap_alloc_new (w.alloc (.cells o0 t0)) (.cells o1 t1)
  have h2 := heap_alloc_new ((w.alloc (.cells o0 t0)).alloc (.cells o1 t1)) (.cells o2 t2)
  have h3 := heap_alloc_new (((w.alloc (.cells o0 t0)).alloc (.cells o1 t1)).alloc (.cells o2 t2)) (.cells o3 t3)
  have h4 := heap_alloc_new ((((w.alloc (.cells o0 t0)).alloc (.cells o1 t1)).alloc (.cells o2 t2)).alloc (.cells o3 t3)) (.cells o4 t4)
  rw [s1] at h1
  rw [s1, s1] at h2
  rw [s1, s1, s1] at h3
  rw [s1, s1, s1, s1] at h4
  exact ⟨step _ _ _ _ _ (step _ _ _ _ _ (step _ _ _ _ _ (step _ _ _ _ _ h0))), step _ _ _ _ _ (step _ _ _ _ _ (step _ _ _ _ _ h1)), step _ _ _ _ _ (step _ _ _ _ _ h2), step _ _ _ _ _ h3, h4, below_alloc (below_alloc (below_alloc (below_alloc (below_alloc (Below.refl _ _) _) _) _) _) _⟩
/-- What Decode answers. -/
def DecR (w : World) (zs : List Int) (e : Ending) (w' : World) : Prop :=
  (∃ G fs fv, progE zs = .ok (G, fs) ∧ e = .returned (.tuple #[.agg #[.int .i64 G, fv], .int .i64 0, .int .i64 0]) ∧ FRow w' fv fs ∧ Below w.heap.size w w') ∨
  (∃ q : Nat, progE zs = .error q ∧ e = .returned (.tuple #[.agg #[.int .i64 0, .slice none 0 0], .int .i64 6, .int .i64 q]) ∧ Below w.heap.size w w')
end Cd
end Go.Proofs.YtdhkakjiahkjnaaDoor
/- What the statements of code all ask first: told. -/
namespace Go.Proofs.YtdhkakjiahkjnaaDoor
open Go.RowKit Go.Lib Fx Ho Gr
set_option linter.unusedVariables false
namespace Cd
variable {w w' W wr : World} {v fv : Value} {G nf len n : Int} {fs : List (List Ins)} {zs A : List Int} {l : List Ins}
theorem brow_new (w : World) (zs : List Int) (e : TypeId) (hz : ∀ i, i < zs.length → 0 ≤ zs.getD i 0 ∧ zs.getD i 0 < 256) (hl : zs.length ≤ 1000000) : BRow (w.alloc (.cells (u8s zs).toArray e)) (fun k => k < (w.alloc (.cells (u8s zs).toArray e)).heap.size) (.slice (some ⟨w.heap.size, 0, none⟩) zs.length zs.length) zs := by
  have hb := heap_alloc_new w (.cells (u8s zs).toArray e)
  refine ⟨_, _, rfl, by omega, fun i hi => ⟨_, _, rfl, block_lt hb, block_lt hb, ?_, hz i hi⟩⟩
  rw [Nat.zero_add]
  refine cell_of hb ?_
  rw [List.getElem?_toArray]
  unfold u8s
  rw [List.getElem?_map, List.getElem?_eq_getElem hi, List.getD_eq_getElem?_getD, List.getElem?_eq_getElem hi]; rfl
def byts (zs : List Int) : ByteArray := ⟨(zs.map (fun z => UInt8.ofNat z.toNat)).toArray⟩
theorem prog1 : progE [1, 0, 1, 0, 0, 0, 0] = .ok (0, [[(0, 0, 0, 0)]]) := by rfl
theorem prog2 : progE [1, 0, 1, 14, 1, 0, 0] = .error 4 := by rfl
theorem may1 : MayIs 0 [[(0, 0, 0, 0)]] 0 := by
  refine .inr (.inl ⟨⟨by decide, by decide, by decide, by decide, fun i hi => ?_⟩, fun i hi j hj => ?_, rfl⟩)
  · obtain rfl : i = 0 := by simp at hi; omega
    decide
  · obtain rfl : i = 0 := by simp at hi; omega
    obtain rfl : j = 0 := by simp at hj; omega
    rfl
theorem may2 : MayIs 0 [] 1 := .inl ⟨fun h => by have := h.1; simp at this, rfl⟩
end Cd
end Go.Proofs.YtdhkakjiahkjnaaDoor
/- told, walked. -/
namespace Go.Proofs.YtdhkakjiahkjnaaDoor
open Go.RowKit Go.Lib Fx Ho Gr
set_option linter.unusedVariables false
namespace Cd
variable {w w' W wr : World} {v fv : Value} {G nf len n : Int} {fs : List (List Ins)} {zs A : List Int} {l : List Ins}
theorem lit_ok {zs : List Int} (h : (zs.all fun z => decide (0 ≤ z ∧ z < 256)) = true) : ∀ i, i < zs.length → 0 ≤ zs.getD i 0 ∧ zs.getD i 0 < 256 := fun i hi => by
  have := List.all_eq_true.1 h (zs.getD i 0) (by rw [List.getD_eq_getElem?_getD, List.getElem?_eq_getElem hi]; exact List.getElem_mem hi)
  exact of_decide_eq_true this
end Cd
end Go.Proofs.YtdhkakjiahkjnaaDoor
/- The document's own kinds of an instruction's parts, and which numbers fit. -/
namespace Go.Proofs.YtdhkakjiahkjnaaDoor
open Go.RowKit Go.Lib Fx Ho Gr
set_option linter.unusedVariables false
namespace Cd
variable {w w' W wr : World} {v fv : Value} {G nf len n : Int} {fs : List (List Ins)} {zs A : List Int} {l : List Ins}
def allocs (w : World) (L : List Obj) : World := L.foldl World.alloc w
theorem allocs_heap : ∀ (L : List Obj) (w : World), (allocs w L).heap = w.heap ++ L.toArray
  | [], w => by simp [allocs]
  | o :: L, w => by
    show (allocs (w.alloc o) L).heap = _
    rw [allocs_heap L]
    show w.heap.push o ++ L.toArray = _
    apply Array.ext'
    simp
theorem allocs_at (w : World) (L : List Obj) {i : Nat} (hi : i < L.length) : (allocs w L).heap[w.heap.size + i]? = some L[i] := by
  rw [allocs_heap, Array.getElem?_append_right (by omega)]
  simp [hi]
theorem allocs_below : ∀ (L : List Obj) (w w0 : World), Below w0.heap.size w0 w → Below w0.heap.size w0 (allocs w L)
  | [], _, _, h => h
  | o :: L, w, w0, h => allocs_below L (w.alloc o) w0 (below_alloc h o)
/-- The document's number of a kind. -/
def rk (c : Int) : Int := if c = 2 then 1 else if c = 3 then 2 else if c = 4 then 3 else if c = 6 then 4 else if c = 5 then 5 else if c = 1 then 6 else 0
def kobjs (w : World) : List Obj := [.cells #[.int .i64 0, .int .i64 0, .int .i64 0] 3, .cells #[.int .i64 1, .int .i64 6, .int .i64 0] 3, .cells #[.int .i64 1, .int .i64 1, .int .i64 6] 3, .cells #[.int .i64 1, .int .i64 6, .int .i64 1] 3, .cells #[.int .i64 1, .int .i64 1, .int .i64 0] 3, .cells #[.int .i64 1, .int .i64 0, .int .i64 0] 3, .cells #[.int .i64 1, .int .i64 2, .int .i64 0] 3, .cells #[.int .i64 2, .int .i64 1, .int .i64 0] 3, .cells #[.int .i64 3, .int .i64 1, .int .i64 0] 3, .cells #[.int .i64 0, .int .i64 0, .int .i64 0] 3, .cells #[.int .i64 0, .int .i64 6, .int .i64 6] 3, .cells #[.int .i64 4, .int .i64 0, .int .i64 0] 3, .cells #[.int .i64 4, .int .i64 0, .int .i64 0] 3, .cells #[.int .i64 1, .int .i64 1, .int .i64 0] 3, .cells #[.int .i64 5, .int .i64 0, .int .i64 0] 3, .cells #[.int .i64 1, .int .i64 1, .int .i64 5] 3, .cells #[.int .i64 6, .int .i64 6, .int .i64 0] 3, .cells #[.int .i64 5, .int .i64 0, .int .i64 0] 3, .cells #[.slice (some ⟨w.heap.size, 0, none⟩) 3 3, .slice (some ⟨w.heap.size + 1, 0, none⟩) 3 3, .slice (some ⟨w.heap.size + 1 + 1, 0, none⟩) 3 3, .slice (some ⟨w.heap.size + 1 + 1 + 1, 0, none⟩) 3 3, .slice (some ⟨w.heap.size + 1 + 1 + 1 + 1, 0, none⟩) 3 3, .slice (some ⟨w.heap.size + 1 + 1 + 1 + 1 + 1, 0, none⟩) 3 3, .slice (some ⟨w.heap.size + 1 + 1 + 1 + 1 + 1 + 1, 0, none⟩) 3 3, .slice (some ⟨w.heap.size + 1 + 1 + 1 + 1 + 1 + 1 + 1, 0, none⟩) 3 3, .slice (some ⟨w.heap.size + 1 + 1 + 1 + 1 + 1 + 1 + 1 + 1, 0, none⟩) 3 3, .slice (some ⟨w.heap.size + 1 + 1 + 1 + 1 + 1 + 1 + 1 + 1 + 1, 0, none⟩) 3 3, .slice (some ⟨w.heap.size + 1 + 1 + 1 + 1 + 1 + 1 + 1 + 1 + 1 + 1, 0, none⟩) 3 3, .slice (some ⟨w.heap.size + 1 + 1 + 1 + 1 + 1 + 1 + 1 + 1 + 1 + 1 + 1, 0, none⟩) 3 3, .slice (some ⟨w.heap.size + 1 + 1 + 1 + 1 + 1 + 1 + 1 + 1 + 1 + 1 + 1 + 1, 0, none⟩) 3 3, .slice (some ⟨w.heap.size + 1 + 1 + 1 + 1 + 1 + 1 + 1 + 1 + 1 + 1 + 1 + 1 + 1, 0, none⟩) 3 3, .slice (some ⟨w.heap.size + 1 + 1 + 1 + 1 + 1 + 1 + 1 + 1 + 1 + 1 + 1 + 1 + 1 + 1, 0, none⟩) 3 3, .slice (some ⟨w.heap.size + 1 + 1 + 1 + 1 + 1 + 1 + 1 + 1 + 1 + 1 + 1 + 1 + 1 + 1 + 1, 0, none⟩) 3 3, .slice (some ⟨w.heap.size + 1 + 1 + 1 + 1 + 1 + 1 + 1 + 1 + 1 + 1 + 1 + 1 + 1 + 1 + 1 + 1, 0, none⟩) 3 3, .slice (some ⟨w.heap.size + 1 + 1 + 1 + 1 + 1 + 1 + 1 + 1 + 1 + 1 + 1 + 1 + 1 + 1 + 1 + 1 + 1, 0, none⟩) 3 3] 23]
def KindR (op : Int) (w : World) (e : Ending) (w' : World) : Prop := Below w.heap.size w w' ∧ ((¬ (0 ≤ op ∧ op < 18) ∧ e = .returned (.slice none 0 0)) ∨ (0 ≤ op ∧ op < 18) ∧ ∃ B, e = .returned (.slice (some ⟨B, 0, none⟩) 3 3) ∧ w'.heap[B]? = some (.cells #[.int .i64 (rk (kd op.toNat 0)), .int .i64 (rk (kd op.toNat 1)), .int .i64 (rk (kd op.toNat 2))] 3 (0, 0)))
theorem k18 {p : Nat → Prop} (q : Nat) (h : q < 18) (h0 : p 0) (h1 : p 1) (h2 : p 2) (h3 : p 3) (h4 : p 4) (h5 : p 5) (h6 : p 6) (h7 : p 7) (h8 : p 8) (h9 : p 9) (h10 : p 10) (h11 : p 11) (h12 : p 12) (h13 : p 13) (h14 : p 14) (h15 : p 15) (h16 : p 16) (h17 : p 17) : p q := by
  match q, h with
  | 0, _ => exact h0
  | 1, _ => exact h1
  | 2, _ => exact h2
  | 3, _ => exact h3
  | 4, _ => exact h4
  | 5, _ => exact h5
  | 6, _ => exact h6
  | 7, _ => exact h7
  | 8, _ => exact h8
  | 9, _ => exact h9
  | 10, _ => exact h10
  | 11, _ => exact h11
  | 12, _ => exact h12
  | 13, _ => exact h13
  | 14, _ => exact h14
  | 15, _ => exact h15
  | 16, _ => exact h16
  | 17, _ => exact h17
  | q + 18, h => omega
set_option maxRecDepth 100000 in
theorem kobjs_row (w : World) (q : Nat) (hq : q < 18) : (allocs w (kobjs w)).heap[w.heap.size + q]? = some (.cells #[.int .i64 (rk (kd q 0)), .int .i64 (rk (kd q 1)), .int .i64 (rk (kd q 2))] 3 (0, 0)) := by
  rw [allocs_at w (kobjs w) (i := q) (by show q < 19; omega)]
  revert q hq
  intro q hq
  have : ∀ q, q < 18 → (kobjs w)[q]? = some (.cells #[.int .i64 (rk (kd q 0)), .int .i64 (rk (kd q 1)), .int .i64 (rk (kd q 2))] 3 (0, 0)) := fun q hq => k18 (p := fun q => (kobjs w)[q]? = some (.cells #[.int .i64 (rk (kd q 0)), .int .i64 (rk (kd q 1)), .int .i64 (rk (kd q 2))] 3 (0, 0))) q hq rfl rfl rfl rfl rfl rfl rfl rfl rfl rfl rfl rfl rfl rfl rfl rfl rfl rfl
  have h := this q hq
  rw [List.getElem?_eq_getElem (by show q < 19; omega)] at h
  exact h
set_option maxRecDepth 100000 in
theorem kobjs_last (w : World) (q : Nat) (hq : q < 18) : (allocs w (kobjs w)).cell? ⟨w.heap.size + 18, q, none⟩ = some (.slice (some ⟨w.heap.size + q, 0, none⟩) 3 3) := by
  refine cell_of (allocs_at w (kobjs w) (i := 18) (by show 18 < 19; omega)) ?_
  exact k18 (p := fun q => (#[.slice (some ⟨w.heap.size, 0, none⟩) 3 3, .slice (some ⟨w.heap.size + 1, 0, none⟩) 3 3, .slice (some ⟨w.heap.size + 1 + 1, 0, none⟩) 3 3, .slice (some ⟨w.heap.size + 1 + 1 + 1, 0, none⟩) 3 3, .slice (some ⟨w.heap.size + 1 + 1 + 1 + 1, 0, none⟩) 3 3, .slice (some ⟨w.heap.size + 1 + 1 + 1 + 1 + 1, 0, none⟩) 3 3, .slice (some ⟨w.heap.size + 1 + 1 + 1 + 1 + 1 + 1, 0, none⟩) 3 3, .slice (some ⟨w.heap.size + 1 + 1 + 1 + 1 + 1 + 1 + 1, 0, none⟩) 3 3, .slice (some ⟨w.heap.size + 1 + 1 + 1 + 1 + 1 + 1 + 1 + 1, 0, none⟩) 3 3, .slice (some ⟨w.heap.size + 1 + 1 + 1 + 1 + 1 + 1 + 1 + 1 + 1, 0, none⟩) 3 3, .slice (some ⟨w.heap.size + 1 + 1 + 1 + 1 + 1 + 1 + 1 + 1 + 1 + 1, 0, none⟩) 3 3, .slice (some ⟨w.heap.size + 1 + 1 + 1 + 1 + 1 + 1 + 1 + 1 + 1 + 1 + 1, 0, none⟩) 3 3, .slice (some ⟨w.heap.size + 1 + 1 + 1 + 1 + 1 + 1 + 1 + 1 + 1 + 1 + 1 + 1, 0, none⟩) 3 3, .slice (some ⟨w.heap.size + 1 + 1 + 1 + 1 + 1 + 1 + 1 + 1 + 1 + 1 + 1 + 1 + 1, 0, none⟩) 3 3, .slice (some ⟨w.heap.size + 1 + 1 + 1 + 1 + 1 + 1 + 1 + 1 + 1 + 1 + 1 + 1 + 1 + 1, 0, none⟩) 3 3, .slice (some ⟨w.heap.size + 1 + 1 + 1 + 1 + 1 + 1 + 1 + 1 + 1 + 1 + 1 + 1 + 1 + 1 + 1, 0, none⟩) 3 3, .slice (some ⟨w.heap.size + 1 + 1 + 1 + 1 + 1 + 1 + 1 + 1 + 1 + 1 + 1 + 1 + 1 + 1 + 1 + 1, 0, none⟩) 3 3, .slice (some ⟨w.heap.size + 1 + 1 + 1 + 1 + 1 + 1 + 1 + 1 + 1 + 1 + 1 + 1 + 1 + 1 + 1 + 1 + 1, 0, none⟩) 3 3] : Array Value)[q]? = some (.slice (some ⟨w.heap.size + q, 0, none⟩) 3 3)) q hq rfl rfl rfl rfl rfl rfl rfl rfl rfl rfl rfl rfl rfl rfl rfl rfl rfl rfl
end Cd
end Go.Proofs.YtdhkakjiahkjnaaDoor
/- The document's own: which numbers fit; which part of an instruction is wrong. -/
namespace Go.Proofs.YtdhkakjiahkjnaaDoor
open Go.RowKit Go.Lib Fx Ho Gr
set_option linter.unusedVariables false
namespace Cd
variable {w w' W wr : World} {v fv : Value} {G nf len n : Int} {fs : List (List Ins)} {zs A : List Int} {l : List Ins}
theorem kd_seven (i j : Nat) : kd i j = 0 ∨ kd i j = 1 ∨ kd i j = 2 ∨ kd i j = 3 ∨ kd i j = 4 ∨ kd i j = 5 ∨ kd i j = 6 := by
  have := kd_le i j; omega
/-- Which part is wrong. -/
def wrongN (G nf len : Int) (x : Ins) : Int := if ¬ (0 ≤ x.1 ∧ x.1 < 18) then 0 else if hasB G nf len (kd x.1.toNat 0) x.2.1 = false then 1 else if hasB G nf len (kd x.1.toNat 1) x.2.2.1 = false then 2 else if hasB G nf len (kd x.1.toNat 2) x.2.2.2 = false then 3 else -1
theorem wrong_ok (G nf len : Int) (x : Ins) : okI G nf len x = decide (wrongN G nf len x < 0) := by
  unfold okI wrongN
  by_cases h : 0 ≤ x.1 ∧ x.1 < 18
  · rw [if_neg (fun h2 => h2 h), decide_eq_true h]
    cases hasB G nf len (kd x.1.toNat 0) x.2.1 <;> cases hasB G nf len (kd x.1.toNat 1) x.2.2.1 <;> cases hasB G nf len (kd x.1.toNat 2) x.2.2.2 <;> simp
  · rw [if_pos h, decide_eq_false h]; simp
end Cd
end Go.Proofs.YtdhkakjiahkjnaaDoor
/- The document's own: which part of an instruction is wrong, walked. -/
namespace Go.Proofs.YtdhkakjiahkjnaaDoor
open Go.RowKit Go.Lib Fx Ho Gr
set_option linter.unusedVariables false
namespace Cd
variable {w w' W wr : World} {v fv : Value} {G nf len n : Int} {fs : List (List Ins)} {zs A : List Int} {l : List Ins}
def part (a b c : Int) (i : Nat) : Int := if i = 0 then a else if i = 1 then b else c
theorem wrong_at {op a b c : Int} {q : Nat} (h : op = (q : Int)) (q18 : q < 18) : (∀ i, i < 3 → (∀ i', i' < i → hasB G nf len (kd q i') (part a b c i') = true) → hasB G nf len (kd q i) (part a b c i) = false → wrongN G nf len (op, a, b, c) = (i : Int) + 1) ∧ ((∀ i, i < 3 → hasB G nf len (kd q i) (part a b c i) = true) → wrongN G nf len (op, a, b, c) = -1) := by
  subst h
  have e : wrongN G nf len ((q : Int), a, b, c) = if hasB G nf len (kd q 0) a = false then 1 else if hasB G nf len (kd q 1) b = false then 2 else if hasB G nf len (kd q 2) c = false then 3 else -1 := by
    unfold wrongN
    rw [if_neg (fun h => h (by simp only; omega))]
    simp only [Int.toNat_natCast]
  rw [e]
  refine ⟨fun i hi h1 h2 => ?_, fun h => ?_⟩
  · rcases (show i = 0 ∨ i = 1 ∨ i = 2 by omega) with rfl | rfl | rfl
    · have h2 : hasB G nf len (kd q 0) a = false := h2
      rw [if_pos h2]; rfl
    · have h2 : hasB G nf len (kd q 1) b = false := h2
      have g0 : hasB G nf len (kd q 0) a = true := h1 0 (by omega)
      rw [if_neg (by rw [g0]; simp), if_pos h2]; rfl
    · have h2 : hasB G nf len (kd q 2) c = false := h2
      have g0 : hasB G nf len (kd q 0) a = true := h1 0 (by omega)
      have g1 : hasB G nf len (kd q 1) b = true := h1 1 (by omega)
      rw [if_neg (by rw [g0]; simp), if_neg (by rw [g1]; simp), if_pos h2]; rfl
  · have g0 : hasB G nf len (kd q 0) a = true := h 0 (by omega)
    have g1 : hasB G nf len (kd q 1) b = true := h 1 (by omega)
    have g2 : hasB G nf len (kd q 2) c = true := h 2 (by omega)
    rw [if_neg (by rw [g0]; simp), if_neg (by rw [g1]; simp), if_neg (by rw [g2]; simp)]
end Cd
end Go.Proofs.YtdhkakjiahkjnaaDoor
/- The document's own May. -/
namespace Go.Proofs.YtdhkakjiahkjnaaDoor
open Go.RowKit Go.Lib Fx Ho Gr
set_option linter.unusedVariables false
namespace Cd
variable {w w' W wr : World} {v fv : Value} {G nf len n : Int} {fs : List (List Ins)} {zs A : List Int} {l : List Ins}
end Cd
end Go.Proofs.YtdhkakjiahkjnaaDoor
/- The document's own Encode. -/
namespace Go.Proofs.YtdhkakjiahkjnaaDoor
open Go.RowKit Go.Lib Fx Ho Gr
set_option linter.unusedVariables false
namespace Cd
variable {w w' W wr : World} {v fv : Value} {G nf len n : Int} {fs : List (List Ins)} {zs A : List Int} {l : List Ins}
theorem mem_at {α : Type} {L : List α} {x : α} (h : x ∈ L) (d : α) : ∃ i, i < L.length ∧ L.getD i d = x := by
  obtain ⟨i, hi, e⟩ := List.mem_iff_getElem.1 h
  exact ⟨i, hi, by rw [List.getD_eq_getElem?_getD, List.getElem?_eq_getElem hi]; exact e⟩
theorem enc_bytes (h : MayIs G fs 0) : ∀ i, i < (enc G fs).length → 0 ≤ (enc G fs).getD i 0 ∧ (enc G fs).getD i 0 < 256 := by
  rcases h with ⟨_, hk⟩ | ⟨hk, hok, _⟩ | ⟨_, _, _, _, _, _, _, _, hk⟩
  · cases hk
  case inr.inr => omega
  have key : ∀ z ∈ enc G fs, 0 ≤ z ∧ z < 256 := fun z hz => by
    unfold enc at hz
    rcases List.mem_cons.1 hz with rfl | hz
    · have := hk.2.1; omega
    · rcases List.mem_cons.1 hz with rfl | hz
      · have := hk.2.2.1; have := hk.2.2.2.1; omega
      · obtain ⟨l, hl, hz⟩ := List.mem_flatMap.1 hz
        obtain ⟨i, hi, el⟩ := mem_at hl []
        unfold encF at hz
        rcases List.mem_cons.1 hz with rfl | hz
        · have := (hk.2.2.2.2 i hi).2; rw [el] at this; omega
        · obtain ⟨x, hx, hz⟩ := List.mem_flatMap.1 hz
          obtain ⟨j, hj, ex⟩ := mem_at hx zi
          have := ok_bytes hk hi (hok i hi j (by rw [el]; exact hj)) (x := x) (by rw [el]; exact ex)
          unfold encI at hz
          simp only [List.mem_cons, List.mem_nil_iff, or_false] at hz
          omega
  intro i hi
  exact key _ (by rw [List.getD_eq_getElem?_getD, List.getElem?_eq_getElem hi]; exact List.getElem_mem hi)
/-- What the document's Encode answers. -/
def REncR (G : Int) (fs : List (List Ins)) (w : World) (e : Ending) (w' : World) : Prop :=
  Below w.heap.size w w' ∧ ((MayIs G fs 0 ∧ e = .returned (.tuple #[.string (byts (enc G fs)), .int .i64 0])) ∨ (∃ r, MayIs G fs r ∧ r ≠ 0 ∧ e = .returned (.tuple #[.string ⟨#[]⟩, .int .i64 1])))
end Cd
end Go.Proofs.YtdhkakjiahkjnaaDoor
/- What the bytes of a program that may be mean: the program. -/
namespace Go.Proofs.YtdhkakjiahkjnaaDoor
open Go.RowKit Go.Lib Fx Ho Gr
set_option linter.unusedVariables false
namespace Cd
variable {G nf len n : Int} {fs : List (List Ins)} {zs A : List Int} {l : List Ins} {x : Ins} {i j m p q : Nat}
theorem getD_app (A B : List Int) (t : Nat) : (A ++ B).getD (A.length + t) 0 = B.getD t 0 := by
  rw [List.getD_eq_getElem?_getD, List.getD_eq_getElem?_getD, List.getElem?_append_right (by omega), Nat.add_sub_cancel_left]
/-- The first m bytes are the program's. -/
def Pre (G : Int) (fs : List (List Ins)) (zs : List Int) (m : Nat) : Prop := m ≤ zs.length ∧ m ≤ (enc G fs).length ∧ ∀ t, t < m → zs.getD t 0 = (enc G fs).getD t 0
theorem flat_split {α : Type} (g : α → List Int) (L : List α) (d : α) {i : Nat} (hi : i < L.length) : L.flatMap g = (L.take i).flatMap g ++ (g (L.getD i d) ++ (L.drop (i + 1)).flatMap g) := by
  have e : L = L.take i ++ (L.getD i d :: L.drop (i + 1)) := by
    have h1 : L.drop i = L[i] :: L.drop (i + 1) := List.drop_eq_getElem_cons hi
    rw [List.getD_eq_getElem?_getD, List.getElem?_eq_getElem hi]
    show L = L.take i ++ (L[i] :: L.drop (i + 1))
    rw [← h1, List.take_append_drop]
  conv => lhs; rw [e]
  rw [List.flatMap_append, List.flatMap_cons]
theorem enc_fn (hi : i < fs.length) : enc G fs = encP G fs i ++ (encF (fs.getD i []) ++ (fs.drop (i + 1)).flatMap encF) := by
  unfold enc encP
  rw [flat_split encF fs [] hi]; rfl
theorem enc_in (hi : i < fs.length) (hj : j < (fs.getD i []).length) : ∃ R, enc G fs = encQ G fs i j ++ (encI ((fs.getD i []).getD j zi) ++ R) := by
  refine ⟨((fs.getD i []).drop (j + 1)).flatMap encI ++ (fs.drop (i + 1)).flatMap encF, ?_⟩
  rw [enc_fn hi]
  unfold encQ encF
  rw [flat_split encI (fs.getD i []) zi hj]
  simp only [List.append_assoc, List.cons_append]
theorem encQ_long : (encQ G fs i j).length = (encP G fs i).length + 1 + 4 * (min j (fs.getD i []).length) := by
  unfold encQ
  rw [List.length_append, List.length_cons, encI_len, List.length_take]; omega
theorem enc_le (hi : i < fs.length) : (encP G fs (i + 1)).length ≤ (enc G fs).length := by
  rw [← encQ_all hi, encQ_long, enc_fn hi]
  unfold encF
  rw [List.length_append, List.length_append, List.length_cons, encI_len]; omega
theorem num_is {lo hi z : Int} (h : p < zs.length) (e : zs.getD p 0 = z) (h1 : lo ≤ z) (h2 : z ≤ hi) : num zs p lo hi = .ok z := by
  unfold num; rw [if_pos ⟨h, by rw [e]; exact h1, by rw [e]; exact h2⟩, e]
theorem bind_ok {α β : Type} (a : α) (f : α → Except Nat β) : (Except.ok a).bind f = f a := rfl
/-- The parts of an instruction: as many as stand there are read. -/
theorem inst_parts (hm : MayIs G fs 0) (hi : i < fs.length) (hj : j < (fs.getD i []).length) (hp : Pre G fs zs m) : let q := (encQ G fs i j).length; let x := (fs.getD i []).getD j zi; (q + 1 ≤ m → num zs q 0 17 = .ok x.1) ∧ (q + 2 ≤ m → num zs (q + 1) 0 (bnd G fs.length (fs.getD i []).length (kd x.1.toNat 0) - 1) = .ok x.2.1) ∧ (q + 3 ≤ m → num zs (q + 2) 0 (bnd G fs.length (fs.getD i []).length (kd x.1.toNat 1) - 1) = .ok x.2.2.1) ∧ (q + 4 ≤ m → num zs (q + 3) 0 (bnd G fs.length (fs.getD i []).length (kd x.1.toNat 2) - 1) = .ok x.2.2.2) := by
  intro q x
  rcases hm with ⟨_, hk⟩ | ⟨hk, hok, _⟩ | ⟨_, _, _, _, _, _, _, _, hk⟩
  · cases hk
  case inr.inr => omega
  have ho := hok i hi j hj
  unfold okAt okI hasB at ho
  simp only [Bool.and_eq_true, decide_eq_true_eq] at ho
  obtain ⟨h1, h2, h3, h4⟩ := ho
  obtain ⟨R, hR⟩ := enc_in (G := G) hi hj
  have hx : (fs.getD i []).getD j zi = x := rfl
  rw [hx] at h1 h2 h3 h4 hR
  have at_ : ∀ t, q + t < m → zs.getD (q + t) 0 = (encI x ++ R).getD t 0 := fun t ht => by
    rw [hp.2.2 _ ht, hR, getD_app]
  obtain ⟨hz, _, _⟩ := hp
  refine ⟨fun h => num_is (by omega) (at_ 0 (by omega)) h1.1 (show x.1 ≤ 17 by omega), fun h => num_is (by omega) (at_ 1 (by omega)) h2.1 (show x.2.1 ≤ _ by omega), fun h => num_is (by omega) (at_ 2 (by omega)) h3.1 (show x.2.2.1 ≤ _ by omega), fun h => num_is (by omega) (at_ 3 (by omega)) h4.1 (show x.2.2.2 ≤ _ by omega)⟩
theorem inst_ok (hm : MayIs G fs 0) (hi : i < fs.length) (hj : j < (fs.getD i []).length) (hp : Pre G fs zs m) (h : (encQ G fs i j).length + 4 ≤ m) : instE zs (encQ G fs i j).length G fs.length (fs.getD i []).length = .ok ((fs.getD i []).getD j zi) := by
  obtain ⟨a0, a1, a2, a3⟩ := inst_parts hm hi hj hp
  unfold instE
  rw [a0 (by omega)]
  simp only [bind_ok]
  rw [a1 (by omega)]
  simp only [bind_ok]
  rw [a2 (by omega)]
  simp only [bind_ok]
  rw [a3 (by omega)]
  rfl
theorem ins_ok (hm : MayIs G fs 0) (hi : i < fs.length) (hp : Pre G fs zs m) : ∀ k, k ≤ (fs.getD i []).length → (encQ G fs i k).length ≤ m → insE zs ((encP G fs i).length + 1) G fs.length (fs.getD i []).length k = .ok ((fs.getD i []).take k)
  | 0, _, _ => by simp [insE]
  | k + 1, hk, h => by
    have e1 := encQ_long (G := G) (fs := fs) (i := i) (j := k)
    have e2 := encQ_long (G := G) (fs := fs) (i := i) (j := k + 1)
    rw [Nat.min_eq_left (by omega)] at e1 e2
    unfold insE
    rw [ins_ok hm hi hp k (by omega) (by omega)]
    show (instE zs _ _ _ _).bind _ = _
    have := inst_ok hm hi (j := k) (by omega) hp (by omega)
    rw [e1] at this
    rw [this, take_next _ zi (show k < (fs.getD i []).length by omega)]
    rfl
theorem fn_num (hm : MayIs G fs 0) (hi : i < fs.length) (hp : Pre G fs zs m) (h : (encP G fs i).length + 1 ≤ m) : num zs (encP G fs i).length 1 64 = .ok ((fs.getD i []).length : Int) := by
  rcases hm with ⟨_, hk⟩ | ⟨hk, hok, _⟩ | ⟨_, _, _, _, _, _, _, _, hk⟩
  · cases hk
  case inr.inr => omega
  have hl := hk.2.2.2.2 i hi
  refine num_is (by have := hp.1; omega) ?_ (by omega) (by omega)
  have := hp.2.2 _ (show (encP G fs i).length < m by omega)
  rw [this, enc_fn hi]
  exact getD_app _ _ 0
theorem fn_ok (hm : MayIs G fs 0) (hi : i < fs.length) (hp : Pre G fs zs m) (h : (encP G fs (i + 1)).length ≤ m) : fnE zs (encP G fs i).length G fs.length = .ok (fs.getD i []) := by
  have e1 := encQ_long (G := G) (fs := fs) (i := i) (j := (fs.getD i []).length)
  rw [encQ_all hi] at e1
  unfold fnE
  rw [fn_num hm hi hp (by omega)]
  show insE _ _ _ _ _ (Int.toNat _) = _
  rw [Int.toNat_natCast, ins_ok hm hi hp _ (Nat.le_refl _) (by rw [encQ_all hi]; exact h), List.take_length]
theorem encP_next (hi : i < fs.length) : (encP G fs (i + 1)).length = (encP G fs i).length + 1 + 4 * (fs.getD i []).length := by
  rw [← encQ_all hi, encQ_long, Nat.min_self]
theorem fs_ok (hm : MayIs G fs 0) (hp : Pre G fs zs m) : ∀ i, i ≤ fs.length → (encP G fs i).length ≤ m → fsE zs G fs.length i = .ok (fs.take i, (encP G fs i).length)
  | 0, _, _ => by simp [fsE, encP]
  | i + 1, hi, h => by
    have e := encP_next (G := G) (fs := fs) (i := i) (by omega)
    unfold fsE
    rw [fs_ok hm hp i (by omega) (by omega)]
    show (fnE zs (encP G fs i).length G fs.length).bind _ = _
    rw [fn_ok hm (by omega) hp h]
    show Except.ok (fs.take i ++ [fs.getD i []], (encP G fs i).length + 1 + 4 * (fs.getD i []).length) = _
    rw [← e, take_next _ [] (show i < fs.length by omega)]
theorem two_first (hm : MayIs G fs 0) (hp : Pre G fs zs m) (h : 2 ≤ m) : num zs 0 1 16 = .ok (fs.length : Int) ∧ num zs 1 0 32 = .ok G := by
  rcases hm with ⟨_, hk⟩ | ⟨hk, hok, _⟩ | ⟨_, _, _, _, _, _, _, _, hk⟩
  · cases hk
  case inr.inr => omega
  obtain ⟨h1, h2, h3, h4, _⟩ := hk
  have hz := hp.1
  exact ⟨num_is (by omega) (hp.2.2 0 (by omega)) (show (1 : Int) ≤ (fs.length : Int) by omega) (show (fs.length : Int) ≤ 16 by omega), num_is (by omega) (hp.2.2 1 (by omega)) h3 h4⟩
theorem enc_two : 2 ≤ (enc G fs).length := by unfold enc; simp
/-- All of it, and perhaps more. -/
theorem prog_enc (hm : MayIs G fs 0) (hp : Pre G fs zs (enc G fs).length) : progE zs = if (enc G fs).length < zs.length then .error (enc G fs).length else .ok (G, fs) := by
  obtain ⟨a0, a1⟩ := two_first hm hp enc_two
  unfold progE
  rw [a0]
  simp only [bind_ok]
  rw [a1]
  simp only [bind_ok]
  rw [Int.toNat_natCast, fs_ok hm hp fs.length (Nat.le_refl _) (by rw [encP_all]; exact Nat.le_refl _), encP_all, List.take_length]
  rfl
/-- What is wrong in an instruction is told, whatever stands behind it. -/
theorem prog_early (hm : MayIs G fs 0) (hi : i < fs.length) (hj : j < (fs.getD i []).length) (hp : Pre G fs zs m) (h : (encQ G fs i j).length ≤ m) (he : instE zs (encQ G fs i j).length G fs.length (fs.getD i []).length = .error q) : progE zs = .error q := by
  have e1 := encQ_long (G := G) (fs := fs) (i := i) (j := j)
  rw [Nat.min_eq_left (by omega)] at e1
  have h2 : 2 ≤ (encP G fs i).length := by unfold encP; simp
  obtain ⟨a0, a1⟩ := two_first hm hp (by omega)
  have hin : insE zs ((encP G fs i).length + 1) G fs.length (fs.getD i []).length (j + 1) = .error q := by
    unfold insE
    rw [ins_ok hm hi hp j (by omega) h]
    show (instE zs _ _ _ _).bind _ = _
    rw [← e1, he]; rfl
  have hfn : fnE zs (encP G fs i).length G fs.length = .error q := by
    unfold fnE
    rw [fn_num hm hi hp (by omega)]
    show insE _ _ _ _ _ (Int.toNat _) = _
    rw [Int.toNat_natCast]
    exact insE_err _ _ (by omega) hin
  have hfs : fsE zs G fs.length (i + 1) = .error q := by
    unfold fsE
    rw [fs_ok hm hp i (by omega) (by omega)]
    show (fnE zs (encP G fs i).length G fs.length).bind _ = _
    rw [hfn]; rfl
  unfold progE
  rw [a0]
  simp only [bind_ok]
  rw [a1]
  simp only [bind_ok]
  rw [Int.toNat_natCast, fsE_err (by omega) hfs]; rfl
theorem prog_long (hm : MayIs G fs 0) (c : Int) : progE (enc G fs ++ [c]) = .error (enc G fs).length := by
  rw [prog_enc hm ⟨by rw [List.length_append]; omega, Nat.le_refl _, fun t ht => by rw [List.getD_eq_getElem?_getD, List.getD_eq_getElem?_getD, List.getElem?_append_left ht]⟩, if_pos (by rw [List.length_append]; simp)]
theorem prog_whole (hm : MayIs G fs 0) : progE (enc G fs) = .ok (G, fs) := by
  rw [prog_enc hm ⟨Nat.le_refl _, Nat.le_refl _, fun t ht => rfl⟩, if_neg (Nat.lt_irrefl _)]
theorem prog_short (hm : MayIs G fs 0) : progE ((enc G fs).take ((enc G fs).length - 1)) = .error ((enc G fs).length - 1) := by
  have hk : CntOk G fs := by
    rcases hm with ⟨_, hk⟩ | ⟨hk, hok, _⟩ | ⟨_, _, _, _, _, _, _, _, hk⟩
    · cases hk
    · exact hk
    · omega
  have hn := hk.1
  have hi : fs.length - 1 < fs.length := by omega
  have hl := (hk.2.2.2.2 _ hi).1
  have hj : (fs.getD (fs.length - 1) []).length - 1 < (fs.getD (fs.length - 1) []).length := by omega
  have e1 := encQ_long (G := G) (fs := fs) (i := fs.length - 1) (j := (fs.getD (fs.length - 1) []).length - 1)
  have e2 := encP_next (G := G) (fs := fs) hi
  rw [show fs.length - 1 + 1 = fs.length by omega, encP_all] at e2
  rw [Nat.min_eq_left (by omega)] at e1
  have hzl : ((enc G fs).take ((enc G fs).length - 1)).length = (enc G fs).length - 1 := by rw [List.length_take]; omega
  have hp : Pre G fs ((enc G fs).take ((enc G fs).length - 1)) ((enc G fs).length - 1) := ⟨by rw [hzl]; exact Nat.le_refl _, by omega, fun t ht => by rw [List.getD_eq_getElem?_getD, List.getD_eq_getElem?_getD, List.getElem?_take, if_pos ht]⟩
  refine prog_early hm hi hj hp (by omega) ?_
  obtain ⟨a0, a1, a2, _⟩ := inst_parts hm hi hj hp
  unfold instE
  rw [a0 (by omega)]
  simp only [bind_ok]
  rw [a1 (by omega)]
  simp only [bind_ok]
  rw [a2 (by omega)]
  simp only [bind_ok]
  have : num ((enc G fs).take ((enc G fs).length - 1)) ((encQ G fs (fs.length - 1) ((fs.getD (fs.length - 1) []).length - 1)).length + 3) 0 (bnd G fs.length (fs.getD (fs.length - 1) []).length (kd ((fs.getD (fs.length - 1) []).getD ((fs.getD (fs.length - 1) []).length - 1) zi).1.toNat 2) - 1) = .error ((enc G fs).length - 1) := by
    unfold num
    rw [if_neg (fun h => by have := h.1; rw [hzl] at this; omega)]
    congr 1; omega
  rw [this]; rfl
theorem enc_seven (hm : MayIs G fs 0) : 7 ≤ (enc G fs).length ∧ (enc G fs).length ≤ 5000 := by
  have hk : CntOk G fs := by
    rcases hm with ⟨_, hk⟩ | ⟨hk, hok, _⟩ | ⟨_, _, _, _, _, _, _, _, hk⟩
    · cases hk
    · exact hk
    · omega
  have h1 := encP_len hk fs.length (Nat.le_refl _)
  rw [encP_all] at h1
  have h2 := hk.2.1
  have e2 := encP_next (G := G) (fs := fs) (i := 0) (by have := hk.1; omega)
  have h3 := enc_le (G := G) (fs := fs) (i := 0) (by have := hk.1; omega)
  have h4 := (hk.2.2.2.2 0 (by have := hk.1; omega)).1
  have h5 : (encP G fs 0).length = 2 := by unfold encP; simp
  omega
end Cd
end Go.Proofs.YtdhkakjiahkjnaaDoor
/- The document's own Decode: an instruction, part by part. -/
namespace Go.Proofs.YtdhkakjiahkjnaaDoor
open Go.RowKit Go.Lib Fx Ho Gr
set_option linter.unusedVariables false
namespace Cd
variable {w w' W wr : World} {G nf len n : Int} {fs : List (List Ins)} {zs A : List Int} {p j : Nat}
/-- What stands at the j-th part. -/
def zAt (zs : List Int) (p j : Nat) : Int := zs.getD (p + j) 0
/-- Does the j-th part fit (0: the Op)? -/
def fitJ (G nf len : Int) (zs : List Int) (p j : Nat) : Prop := 0 ≤ zAt zs p j ∧ zAt zs p j < if j = 0 then 18 else bnd G nf len (kd (zAt zs p 0).toNat (j - 1))
/-- The instruction of the first j + 1 parts. -/
def xJ (zs : List Int) (p j : Nat) : Ins := (zAt zs p 0, if 1 ≤ j then zAt zs p 1 else 0, if 2 ≤ j then zAt zs p 2 else 0, if 3 ≤ j then zAt zs p 3 else 0)
theorem has_fit {k : Int} {m : Int} : hasB G nf len k m = true ↔ (0 ≤ m ∧ m < bnd G nf len k) := by unfold hasB; exact decide_eq_true_iff
theorem has_not {k : Int} {m : Int} : hasB G nf len k m = false ↔ ¬ (0 ≤ m ∧ m < bnd G nf len k) := by unfold hasB; exact decide_eq_false_iff_not
theorem wrong_j (hj : j < 4) (hb : ∀ t, t < j → fitJ G nf len zs p t) : (fitJ G nf len zs p j → ¬ (0 ≤ wrongN G nf len (xJ zs p j) ∧ wrongN G nf len (xJ zs p j) ≤ j)) ∧ (¬ fitJ G nf len zs p j → wrongN G nf len (xJ zs p j) = j) := by
  have hx : (xJ zs p j).1 = zAt zs p 0 := rfl
  rcases (show j = 0 ∨ j = 1 ∨ j = 2 ∨ j = 3 by omega) with rfl | rfl | rfl | rfl
  · refine ⟨fun h => ?_, fun h => ?_⟩
    · have h : 0 ≤ zAt zs p 0 ∧ zAt zs p 0 < 18 := h
      unfold wrongN
      rw [hx, if_neg (fun g => g h)]
      split <;> (try split) <;> (try split) <;> omega
    · have h : ¬ (0 ≤ zAt zs p 0 ∧ zAt zs p 0 < 18) := h
      unfold wrongN
      rw [hx, if_pos h]; rfl
  · have h0 : 0 ≤ zAt zs p 0 ∧ zAt zs p 0 < 18 := hb 0 (by omega)
    have e : (xJ zs p 1).2.1 = zAt zs p 1 := rfl
    refine ⟨fun h => ?_, fun h => ?_⟩
    · have h := has_fit.2 (show 0 ≤ zAt zs p 1 ∧ zAt zs p 1 < bnd G nf len (kd (zAt zs p 0).toNat 0) from h)
      unfold wrongN
      rw [hx, e, if_neg (fun g => g h0), if_neg (by rw [h]; simp)]
      split <;> (try split) <;> omega
    · have h := has_not.2 (show ¬ (0 ≤ zAt zs p 1 ∧ zAt zs p 1 < bnd G nf len (kd (zAt zs p 0).toNat 0)) from h)
      unfold wrongN
      rw [hx, e, if_neg (fun g => g h0), if_pos h]; rfl
  · have h0 : 0 ≤ zAt zs p 0 ∧ zAt zs p 0 < 18 := hb 0 (by omega)
    have h1 := has_fit.2 (show 0 ≤ zAt zs p 1 ∧ zAt zs p 1 < bnd G nf len (kd (zAt zs p 0).toNat 0) from hb 1 (by omega))
    have e : (xJ zs p 2).2.1 = zAt zs p 1 := rfl
    have e2 : (xJ zs p 2).2.2.1 = zAt zs p 2 := rfl
    refine ⟨fun h => ?_, fun h => ?_⟩
    · have h := has_fit.2 (show 0 ≤ zAt zs p 2 ∧ zAt zs p 2 < bnd G nf len (kd (zAt zs p 0).toNat 1) from h)
      unfold wrongN
      rw [hx, e, e2, if_neg (fun g => g h0), if_neg (by rw [h1]; simp), if_neg (by rw [h]; simp)]
      split <;> omega
    · have h := has_not.2 (show ¬ (0 ≤ zAt zs p 2 ∧ zAt zs p 2 < bnd G nf len (kd (zAt zs p 0).toNat 1)) from h)
      unfold wrongN
      rw [hx, e, e2, if_neg (fun g => g h0), if_neg (by rw [h1]; simp), if_pos h]; rfl
  · have h0 : 0 ≤ zAt zs p 0 ∧ zAt zs p 0 < 18 := hb 0 (by omega)
    have h1 := has_fit.2 (show 0 ≤ zAt zs p 1 ∧ zAt zs p 1 < bnd G nf len (kd (zAt zs p 0).toNat 0) from hb 1 (by omega))
    have h2 := has_fit.2 (show 0 ≤ zAt zs p 2 ∧ zAt zs p 2 < bnd G nf len (kd (zAt zs p 0).toNat 1) from hb 2 (by omega))
    have e : (xJ zs p 3).2.1 = zAt zs p 1 := rfl
    have e2 : (xJ zs p 3).2.2.1 = zAt zs p 2 := rfl
    have e3 : (xJ zs p 3).2.2.2 = zAt zs p 3 := rfl
    refine ⟨fun h => ?_, fun h => ?_⟩
    · have h := has_fit.2 (show 0 ≤ zAt zs p 3 ∧ zAt zs p 3 < bnd G nf len (kd (zAt zs p 0).toNat 2) from h)
      unfold wrongN
      rw [hx, e, e2, e3, if_neg (fun g => g h0), if_neg (by rw [h1]; simp), if_neg (by rw [h2]; simp), if_neg (by rw [h]; simp)]
      omega
    · have h := has_not.2 (show ¬ (0 ≤ zAt zs p 3 ∧ zAt zs p 3 < bnd G nf len (kd (zAt zs p 0).toNat 2)) from h)
      unfold wrongN
      rw [hx, e, e2, e3, if_neg (fun g => g h0), if_neg (by rw [h1]; simp), if_neg (by rw [h2]; simp), if_pos h]; rfl
theorem num_fit {q : Nat} {z hi : Int} (h : q < zs.length) (e : zs.getD q 0 = z) (h1 : 0 ≤ z ∧ z < hi) : num zs q 0 (hi - 1) = .ok z := num_is h e h1.1 (by omega)
theorem num_not {q : Nat} {hi : Int} (h : ¬ (q < zs.length ∧ 0 ≤ zs.getD q 0 ∧ zs.getD q 0 < hi)) : num zs q 0 (hi - 1) = .error q := by
  unfold num
  rw [if_neg (fun g => h ⟨g.1, g.2.1, by omega⟩)]
/-- What is read of an instruction, as far as it fits. -/
theorem inst_stop (hj : j < 4) (hb : ∀ t, t < j → p + t < zs.length ∧ fitJ G nf len zs p t) (h : ¬ (p + j < zs.length ∧ fitJ G nf len zs p j)) : instE zs p G nf len = .error (p + j) := by
  unfold instE
  rcases (show j = 0 ∨ j = 1 ∨ j = 2 ∨ j = 3 by omega) with rfl | rfl | rfl | rfl
  · rw [show (17 : Int) = 18 - 1 by decide, num_not (q := p) (hi := 18) (fun g => h ⟨g.1, g.2⟩)]; rfl
  · obtain ⟨l0, f0⟩ := hb 0 (by omega)
    rw [show (17 : Int) = 18 - 1 by decide, num_fit (q := p) (z := zAt zs p 0) (hi := 18) l0 rfl f0]
    simp only [bind_ok]
    rw [num_not (q := p + 1) (hi := bnd G nf len (kd (zAt zs p 0).toNat 0)) (fun g => h ⟨g.1, g.2⟩)]; rfl
  · obtain ⟨l0, f0⟩ := hb 0 (by omega)
    obtain ⟨l1, f1⟩ := hb 1 (by omega)
    rw [show (17 : Int) = 18 - 1 by decide, num_fit (q := p) (z := zAt zs p 0) (hi := 18) l0 rfl f0]
    simp only [bind_ok]
    rw [num_fit (q := p + 1) (z := zAt zs p 1) (hi := bnd G nf len (kd (zAt zs p 0).toNat 0)) l1 rfl f1]
    simp only [bind_ok]
    rw [num_not (q := p + 2) (hi := bnd G nf len (kd (zAt zs p 0).toNat 1)) (fun g => h ⟨g.1, g.2⟩)]; rfl
  · obtain ⟨l0, f0⟩ := hb 0 (by omega)
    obtain ⟨l1, f1⟩ := hb 1 (by omega)
    obtain ⟨l2, f2⟩ := hb 2 (by omega)
    rw [show (17 : Int) = 18 - 1 by decide, num_fit (q := p) (z := zAt zs p 0) (hi := 18) l0 rfl f0]
    simp only [bind_ok]
    rw [num_fit (q := p + 1) (z := zAt zs p 1) (hi := bnd G nf len (kd (zAt zs p 0).toNat 0)) l1 rfl f1]
    simp only [bind_ok]
    rw [num_fit (q := p + 2) (z := zAt zs p 2) (hi := bnd G nf len (kd (zAt zs p 0).toNat 1)) l2 rfl f2]
    simp only [bind_ok]
    rw [num_not (q := p + 3) (hi := bnd G nf len (kd (zAt zs p 0).toNat 2)) (fun g => h ⟨g.1, g.2⟩)]; rfl
theorem inst_all (hb : ∀ t, t < 4 → p + t < zs.length ∧ fitJ G nf len zs p t) : instE zs p G nf len = .ok (xJ zs p 3) := by
  unfold instE
  obtain ⟨l0, f0⟩ := hb 0 (by omega)
  obtain ⟨l1, f1⟩ := hb 1 (by omega)
  obtain ⟨l2, f2⟩ := hb 2 (by omega)
  obtain ⟨l3, f3⟩ := hb 3 (by omega)
  rw [show (17 : Int) = 18 - 1 by decide, num_fit (q := p) (z := zAt zs p 0) (hi := 18) l0 rfl f0]
  simp only [bind_ok]
  rw [num_fit (q := p + 1) (z := zAt zs p 1) (hi := bnd G nf len (kd (zAt zs p 0).toNat 0)) l1 rfl f1]
  simp only [bind_ok]
  rw [num_fit (q := p + 2) (z := zAt zs p 2) (hi := bnd G nf len (kd (zAt zs p 0).toNat 1)) l2 rfl f2]
  simp only [bind_ok]
  rw [num_fit (q := p + 3) (z := zAt zs p 3) (hi := bnd G nf len (kd (zAt zs p 0).toNat 2)) l3 rfl f3]
  rfl
end Cd
end Go.Proofs.YtdhkakjiahkjnaaDoor
/- A program that came in, as the walk asks it. -/
namespace Go.Proofs.YtdhkakjiahkjnaaDoor
open Go.ChangeShapes Go.WideShapes Go.WideElems Go.RowKit Go.Lib Go.Deep Fx Ho
set_option linter.unusedVariables false
namespace Cd
section
variable {H : Type} {enc : TypeId × Value → H}
set_option maxRecDepth 100000 in
theorem irow_arg {W : World} {base fuel : Nat} {spare : Nat → Bool} {held : Bool} {cs : List Value} {x : DataW H × List MemPlace} (hf : DataW.trod enc Tryd.prog W base spare held fuel 24 cs = some x) : ∃ v l, cs = [v] ∧ IRow W v l := by
  rcases open_slice Tryd.underlying24 hf with ⟨hcs, _⟩ | ⟨a, len, cap, m, n, D, Plc, hcs, _, hl, hm, hmm, _, hx⟩
  · exact ⟨_, [], hcs, none, 0, rfl, by simp, fun i hi => by simp at hi⟩
  · have hlm : len ≤ m := by rw [hmm]; split <;> omega
    have ce : Tryd.prog.cellsOf 26 = 4 := by kernel_rfl
    have ci : Tryd.prog.cellsOf 3 = 1 := by kernel_rfl
    have each : ∀ i, i < m → ∃ q : Ins, W.cell? (a.add (i * 4)) = some (.int .i64 q.1) ∧ W.cell? (a.add (i * 4 + 1)) = some (.int .i64 q.2.1) ∧ W.cell? (a.add (i * 4 + 2)) = some (.int .i64 q.2.2.1) ∧ W.cell? (a.add (i * 4 + 3)) = some (.int .i64 q.2.2.2) := by
      intro i hi
      obtain ⟨cs', h1, h2⟩ := hx i hi
      rw [ce] at h1
      obtain ⟨_, hlen, hcell⟩ := World.cells?_some h1
      obtain ⟨xs, k, hk, hxy, _, hxl, hf⟩ := DataW.trod_struct Tryd.underlying26 h2
      match xs, hxl, cs', hlen with
      | [y0, y1, y2, y3], _, [v0, v1, v2, v3], _ =>
        have g0 := hf 0 _ rfl
        have g1 := hf 1 _ rfl
        have g2 := hf 2 _ rfl
        have g3 := hf 3 _ rfl
        simp [ci] at g0 g1 g2 g3
        obtain ⟨n0, e0, _, w0⟩ := DataW.trod_int Tryd.underlying3 g0
        obtain ⟨n1, e1, _, w1⟩ := DataW.trod_int Tryd.underlying3 g1
        obtain ⟨n2, e2, _, w2⟩ := DataW.trod_int Tryd.underlying3 g2
        obtain ⟨n3, e3, _, w3⟩ := DataW.trod_int Tryd.underlying3 g3
        simp at e0 e1 e2 e3
        subst e0 e1 e2 e3
        have k0 := hcell 0 (by omega)
        have k1 := hcell 1 (by omega)
        have k2 := hcell 2 (by omega)
        have k3 := hcell 3 (by omega)
        rw [add_add] at k0 k1 k2 k3
        exact ⟨(n0, n1, n2, n3), by simpa using k0, by simpa using k1, by simpa using k2, by simpa using k3⟩
    obtain ⟨q, hq⟩ := choose_lt each
    by_cases h0 : len = 0
    · subst h0; exact ⟨_, [], hcs, some a, cap, rfl, by simp, fun i hi => by simp at hi⟩
    · obtain ⟨b, off, spot⟩ := a
      have c0 := (hq 0 (by omega)).1
      have hspot : spot = none := by simpa [Addr.add] using World.cell?_spot c0
      subst hspot
      have hll : ((List.range len).map q).length = len := by simp
      refine ⟨_, (List.range len).map q, hcs, some ⟨b, off, none⟩, cap, by rw [hll], by rw [hll]; unfold maxLen at hm; omega, fun i hi => ⟨b, off, rfl, ?_⟩⟩
      rw [hll] at hi
      have e : ((List.range len).map q).getD i zi = q i := by simp [List.getD, hi]
      rw [e, Nat.add_assoc, Nat.add_assoc, Nat.add_assoc, ← addr_add, ← addr_add, ← addr_add, ← addr_add]
      exact hq i (by omega)
set_option maxRecDepth 100000 in
theorem frow_arg {W : World} {base fuel : Nat} {spare : Nat → Bool} {held : Bool} {cs : List Value} {x : DataW H × List MemPlace} (hf : DataW.trod enc Tryd.prog W base spare held fuel 38 cs = some x) : ∃ v fs, cs = [v] ∧ FRow W v fs := by
  rcases open_slice1 Tryd.underlying38 (by kernel_rfl) hf with ⟨hcs, _⟩ | ⟨a, len, cap, m, n, V, D, Plc, hcs, _, hl, hm, hmm, _, hx⟩
  · exact ⟨_, [], hcs, none, 0, rfl, by simp, fun i hi => by simp at hi⟩
  · have hlm : len ≤ m := by rw [hmm]; split <;> omega
    have each : ∀ i, i < m → ∃ l : List Ins, W.cell? (a.add i) = some (V i) ∧ IRow W (V i) l := by
      intro i hi
      obtain ⟨h1, h2⟩ := hx i hi
      obtain ⟨v, l, e, h3⟩ := irow_arg h2
      cases e
      exact ⟨l, h1, h3⟩
    obtain ⟨q, hq⟩ := choose_lt each
    by_cases h0 : len = 0
    · subst h0; exact ⟨_, [], hcs, some a, cap, rfl, by simp, fun i hi => by simp at hi⟩
    · obtain ⟨b, off, spot⟩ := a
      have c0 := (hq 0 (by omega)).1
      have hspot : spot = none := by simpa [Addr.add] using World.cell?_spot c0
      subst hspot
      have hll : ((List.range len).map q).length = len := by simp
      refine ⟨_, (List.range len).map q, hcs, some ⟨b, off, none⟩, cap, by rw [hll], by rw [hll]; unfold maxLen at hm; omega, fun i hi => ⟨b, off, V i, rfl, ?_⟩⟩
      rw [hll] at hi
      have e : ((List.range len).map q).getD i [] = q i := by simp [List.getD, hi]
      rw [e, ← addr_add]
      exact hq i (by omega)
set_option maxRecDepth 100000 in
theorem prog_arg {W : World} {base : Nat} {v : Value} {d : DataW H} {p : List MemPlace} (hval : Value.okWide Tryd.prog W .any base 42 v) (h : DataW.Trod enc Tryd.prog W 0 (fun _ => true) true 42 v d p) : ∃ G fv fs, v = .agg #[.int .i64 G, fv] ∧ FRow W fv fs := by
  obtain ⟨cs, rfl, hcs⟩ := okWide_struct Tryd.underlying42 hval
  obtain ⟨fuel, hf⟩ := h
  have c2 : Tryd.prog.cellsOf 42 = 2 := by kernel_rfl
  have ci : Tryd.prog.cellsOf 3 = 1 := by kernel_rfl
  have cf : Tryd.prog.cellsOf 38 = 1 := by kernel_rfl
  rw [c2] at hcs
  obtain ⟨v0, v1, rfl⟩ : ∃ v0 v1, cs = #[v0, v1] := ⟨cs[0], cs[1], by
    apply Array.ext
    · simp [hcs]
    · intro i h1 h2
      rcases (show i = 0 ∨ i = 1 by omega) with rfl | rfl <;> rfl⟩
  obtain ⟨y0, y1, n, _, hl, g0, g1⟩ := trod_struct2 Tryd.underlying42 hf
  simp [Value.cells, ci, cf] at g0 g1
  obtain ⟨z, e0, _, w0⟩ := DataW.trod_int Tryd.underlying3 g0
  obtain ⟨fv, fs, e1, h1⟩ := frow_arg g1
  simp at e0 e1
  subst e0 e1
  exact ⟨z, _, fs, rfl, h1⟩
end
end Cd
end Go.Proofs.YtdhkakjiahkjnaaDoor
/- Is a program more than is asked here? -/
namespace Go.Proofs.YtdhkakjiahkjnaaDoor
open Go.RowKit Go.Lib Fx Ho Gr
set_option linter.unusedVariables false
namespace Cd
variable {w w' W wr : World} {v fv : Value} {G nf len n : Int} {fs : List (List Ins)} {zs A : List Int} {l : List Ins}
def GreatR (w : World) (e : Ending) (w' : World) : Prop := (e = .returned (.bool true) ∨ e = .returned (.bool false)) ∧ Below w.heap.size w w'
end Cd
end Go.Proofs.YtdhkakjiahkjnaaDoor
/- The document's own comparison of two programs, where they hold the same. -/
namespace Go.Proofs.YtdhkakjiahkjnaaDoor
open Go.RowKit Go.Lib Fx Ho Gr
set_option linter.unusedVariables false
namespace Cd
variable {w w' W wr : World} {v v2 fv : Value} {G nf len n : Int} {fs : List (List Ins)} {zs A : List Int} {l : List Ins}
end Cd
end Go.Proofs.YtdhkakjiahkjnaaDoor
/- CodeBack: rows of bytes as Decode and append ask them. -/
namespace Go.Proofs.YtdhkakjiahkjnaaDoor
open Go.RowKit Go.Lib Fx Ho Gr
set_option linter.unusedVariables false
namespace Cd
variable {w w' W wr : World} {v v2 fv : Value} {G nf len n : Int} {fs : List (List Ins)} {zs A : List Int} {l : List Ins}
theorem u8_at {i : Nat} (hi : i < zs.length) : (u8s zs)[i]? = some (.int .u8 (zs.getD i 0)) := by
  unfold u8s
  rw [List.getElem?_map, List.getElem?_eq_getElem hi, List.getD_eq_getElem?_getD, List.getElem?_eq_getElem hi]; rfl
theorem brow_of (h : GRow 1 w v zs.length (u8s zs)) (hz : ∀ i, i < zs.length → 0 ≤ zs.getD i 0 ∧ zs.getD i 0 < 256) : BRow w (fun k => k < w.heap.size) v zs := by
  obtain ⟨ao, b, off, cap, rfl, hle, hm, hc, hcell⟩ := h.cell
  refine ⟨ao, cap, rfl, by unfold maxLen at hm; omega, fun i hi => ?_⟩
  obtain ⟨rfl, hb, _⟩ := hc (by omega)
  exact ⟨b, off, rfl, hb, hb, (hcell i _ (u8_at hi)).1, hz i hi⟩
theorem lit_row {W : World} {K : Nat} (h : K < W.heap.size) : GRow 1 W (.slice (some ⟨K, 0, none⟩) 0 0) 0 [] := ⟨some ⟨K, 0, none⟩, K, 0, 0, rfl, ⟨by decide, fun h => (by omega), fun h => (by omega), by simp, fun j u h => (by simp at h), fun j h => (by omega)⟩, ⟨by decide, fun j h => by omega⟩, .inl ⟨rfl, h⟩⟩
theorem take_bytes {k : Nat} (hz : ∀ i, i < zs.length → 0 ≤ zs.getD i 0 ∧ zs.getD i 0 < 256) : ∀ i, i < (zs.take k).length → 0 ≤ (zs.take k).getD i 0 ∧ (zs.take k).getD i 0 < 256 := fun i hi => by
  rw [List.length_take] at hi
  rw [List.getD_eq_getElem?_getD, List.getElem?_take, if_pos (by omega), ← List.getD_eq_getElem?_getD]
  exact hz i (by omega)
theorem app_bytes {c : Int} (hz : ∀ i, i < zs.length → 0 ≤ zs.getD i 0 ∧ zs.getD i 0 < 256) (hc : 0 ≤ c ∧ c < 256) : ∀ i, i < (zs ++ [c]).length → 0 ≤ (zs ++ [c]).getD i 0 ∧ (zs ++ [c]).getD i 0 < 256 := fun i hi => by
  rw [List.length_append, List.length_singleton] at hi
  rcases Nat.lt_or_ge i zs.length with g | g
  · rw [List.getD_eq_getElem?_getD, List.getElem?_append_left g, ← List.getD_eq_getElem?_getD]; exact hz i g
  · obtain rfl : i = zs.length := by omega
    rw [List.getD_eq_getElem?_getD, List.getElem?_append_right (Nat.le_refl _), Nat.sub_self]; exact hc
theorem brow_take {sp : Option Addr} {cap k : Nat} (h : GRow 1 w (.slice sp zs.length cap) zs.length (u8s zs)) (hk : k ≤ zs.length) (hz : ∀ i, i < zs.length → 0 ≤ zs.getD i 0 ∧ zs.getD i 0 < 256) : BRow w (fun k => k < w.heap.size) (.slice sp k cap) (zs.take k) := by
  have h1 := h.take hk
  have e : (zs.take k).length = k := by rw [List.length_take]; omega
  have e2 : (u8s zs).take (k * 1) = u8s (zs.take k) := by unfold u8s; rw [Nat.mul_one, List.map_take]
  rw [e2] at h1
  exact brow_of (by rw [e]; exact h1) (take_bytes hz)
theorem wf_u8 {a : Int} (h : (Lit.int .u8 a).wf = true) : 0 ≤ a ∧ a < 256 := by
  simp [Lit.wf, IntKind.min, IntKind.max, IntKind.signed, IntKind.bits] at h
  omega
end Cd
end Go.Proofs.YtdhkakjiahkjnaaDoor
/- Functions that lie in rows of any room: what the document's own Decode builds. -/
namespace Go.Proofs.YtdhkakjiahkjnaaDoor
open Go.RowKit Go.Lib Fx Ho Gr
set_option linter.unusedVariables false
namespace Cd
variable {w w' W wr : World} {v fv lv : Value} {fs : List (List Ins)} {L l : List Ins} {hs : List Value} {M lo : Nat}
/-- A row of instructions that grows holds them. -/
theorem irow_grow (h : GRow 4 w v L.length (ca L)) : IRow w v L := by
  obtain ⟨ao, b, off, cap, rfl, hle, hm, hc, hcell⟩ := h.cell
  refine ⟨ao, cap, rfl, by unfold maxLen at hm; omega, fun i hi => ?_⟩
  obtain ⟨rfl, hb, _⟩ := hc (by omega)
  obtain ⟨e0, e1, e2, e3⟩ := ca_get L i hi
  exact ⟨b, off, rfl, (hcell _ _ e0).1, by have := (hcell _ _ e1).1; rw [← Nat.add_assoc] at this; exact this, by have := (hcell _ _ e2).1; rw [← Nat.add_assoc] at this; exact this, by have := (hcell _ _ e3).1; rw [← Nat.add_assoc] at this; exact this⟩
/-- The functions so far: their slices hs, each a row of its own; nothing of it at M or below lo. -/
structure Gw (lo M : Nat) (wr : World) (fv : Value) (fs : List (List Ins)) (hs : List Value) : Prop where
  len : hs.length = fs.length
  row : GRow 1 wr fv fs.length hs
  ins : ∀ i, i < fs.length → GRow 4 wr (hs.getD i .nilFunc) (fs.getD i []).length (ca (fs.getD i []))
  sep : ∀ i, i < fs.length → ∀ k, (hs.getD i .nilFunc).ownBlock = some k → k ≠ M ∧ lo ≤ k ∧ fv.ownBlock ≠ some k
  fvs : ∀ k, fv.ownBlock = some k → k ≠ M ∧ lo ≤ k
theorem Gw.wrote {H H' : Home} (h : Gw lo M wr fv fs hs) (hw : Wrote H wr H' w') (hn : ∀ k, H k → k = M ∨ k < lo) : Gw lo M w' fv fs hs := by
  refine ⟨h.len, h.row.wrote hw (fun k hk hh => ?_), fun i hi => (h.ins i hi).wrote hw (fun k hk hh => ?_), h.sep, h.fvs⟩
  · have := h.fvs k hk
    rcases hn k hh with e | e <;> omega
  · have h2 := h.sep i hi k hk
    rcases hn k hh with e | e <;> omega
theorem Gw.below (h : Gw lo M wr fv fs hs) (hb : Below wr.heap.size wr w') : Gw lo M w' fv fs hs := h.wrote (H := fun _ => False) (Wrote.of_below hb) (fun k h => h.elim)
/-- Blocks that are not of it may be written: a row that grows beside it. -/
theorem Gw.beside {H H' : Home} (h : Gw lo M wr fv fs hs) (hw : Wrote H wr H' w') (hn : ∀ k, H k → fv.ownBlock ≠ some k ∧ ∀ i, i < fs.length → (hs.getD i .nilFunc).ownBlock ≠ some k) : Gw lo M w' fv fs hs :=
  ⟨h.len, h.row.wrote hw (fun k hk hh => (hn k hh).1 hk), fun i hi => (h.ins i hi).wrote hw (fun k hk hh => (hn k hh).2 i hi hk), h.sep, h.fvs⟩
/-- One function more. -/
theorem Gw.more {v8 : Value} {w8 : World} (h : Gw lo M wr fv fs hs) (hl : GRow 4 wr lv l.length (ca l)) (hlv : ∀ k, lv.ownBlock = some k → k ≠ M ∧ lo ≤ k ∧ fv.ownBlock ≠ some k) (hlo : lo ≤ wr.heap.size) (hM : M < wr.heap.size) (hg : GRow 1 w8 v8 (fs.length + 1) (hs ++ [lv])) (hw : Wrote (fun k => fv.ownBlock = some k) wr (fun k => v8.ownBlock = some k) w8) : Gw lo M w8 v8 (fs ++ [l]) (hs ++ [lv]) := by
  have hnew : ∀ k, v8.ownBlock = some k → (fv.ownBlock = some k) ∨ wr.heap.size ≤ k := fun k hk => hw.home k hk
  have old1 : ∀ i, i < fs.length → (hs ++ [lv]).getD i .nilFunc = hs.getD i .nilFunc := fun i hi => by rw [List.getD_eq_getElem?_getD, List.getD_eq_getElem?_getD, List.getElem?_append_left (by rw [h.len]; exact hi)]
  have old2 : ∀ i, i < fs.length → (fs ++ [l]).getD i [] = fs.getD i [] := fun i hi => by rw [List.getD_eq_getElem?_getD, List.getD_eq_getElem?_getD, List.getElem?_append_left hi]
  have new1 : (hs ++ [lv]).getD fs.length .nilFunc = lv := by rw [List.getD_eq_getElem?_getD, List.getElem?_append_right (by rw [h.len]; exact Nat.le_refl _), h.len, Nat.sub_self]; rfl
  have new2 : (fs ++ [l]).getD fs.length [] = l := by rw [List.getD_eq_getElem?_getD, List.getElem?_append_right (Nat.le_refl _), Nat.sub_self]; rfl
  refine ⟨by rw [List.length_append, List.length_append, h.len]; rfl, by rw [List.length_append]; exact hg, fun i hi => ?_, fun i hi k hk => ?_, fun k hk => ?_⟩
  · rw [List.length_append, List.length_singleton] at hi
    rcases Nat.lt_or_ge i fs.length with e | e
    · rw [old1 i e, old2 i e]
      exact (h.ins i e).wrote hw (fun k hk hh => (h.sep i e k hk).2.2 hh)
    · obtain rfl : i = fs.length := by omega
      rw [new1, new2]
      exact hl.wrote hw (fun k hk hh => (hlv k hk).2.2 hh)
  · rw [List.length_append, List.length_singleton] at hi
    rcases Nat.lt_or_ge i fs.length with e | e
    · rw [old1 i e] at hk
      have h2 := h.sep i e k hk
      refine ⟨h2.1, h2.2.1, fun e2 => (hnew k e2).elim h2.2.2 (fun e3 => ?_)⟩
      have := (h.ins i e).lt hk
      omega
    · obtain rfl : i = fs.length := by omega
      rw [new1] at hk
      have h2 := hlv k hk
      refine ⟨h2.1, h2.2.1, fun e2 => (hnew k e2).elim h2.2.2 (fun e3 => ?_)⟩
      have := hl.lt hk
      omega
  · rcases hnew k hk with e | e
    · exact h.fvs k e
    · omega
theorem Gw.frow (h : Gw lo M wr fv fs hs) (hz : fs.length ≤ 1000000) : FRow wr fv fs := by
  obtain ⟨ao, b, off, cap, rfl, h1, h2, h3, h4⟩ := h.row.cell
  refine ⟨ao, cap, rfl, by omega, fun i hi => ?_⟩
  obtain ⟨rfl, _, _⟩ := h3 (by omega)
  have hl := h.len
  refine ⟨b, off, hs.getD i .nilFunc, rfl, (h4 i _ ?_).1, irow_grow (h.ins i hi)⟩
  rw [List.getD_eq_getElem?_getD, List.getElem?_eq_getElem (show i < hs.length by omega)]; rfl
theorem eltIns : Elt Tryd.prog 24 26 4 32 (.agg #[.int .i64 0, .int .i64 0, .int .i64 0, .int .i64 0]) := ⟨Tryd.underlying24, infoInst, by kernel_rfl, by decide, by decide⟩
end Cd
end Go.Proofs.YtdhkakjiahkjnaaDoor
