/- View: a view as it lies in memory; its roots. -/
import Derived.Test.YtneibhcigbfigaaVwNm
namespace Go.Proofs.Ytneibhcigbfigaa
open Go.RowKit Go.Lib Fx Ho Gr
set_option linter.unusedVariables false
namespace Vw
variable {B w w' W : World} {p mb n i : Nat} {v vs lv : Value} {all l zs : List Int} {x y : Int} {gs : List Gor} {os : List Ob}
def g0 : Gor := (0, 0, [])
def o0 : Ob := (0, [], false)
def Any : Home := fun _ => True
/-- Goroutines in a row. -/
def GsRow (w : World) (v : Value) (gs : List Gor) : Prop :=
  ∃ sp cap, v = .slice sp gs.length cap ∧ gs.length ≤ 9223372036854775807 ∧ ∀ i, i < gs.length → ∃ b off sv, sp = some ⟨b, off, none⟩ ∧ b < w.heap.size ∧ w.cell? ⟨b, off + i * 3, none⟩ = some (.int .i64 (gs.getD i g0).1) ∧ w.cell? ⟨b, off + i * 3 + 1, none⟩ = some (.int .i64 (gs.getD i g0).2.1) ∧ w.cell? ⟨b, off + i * 3 + 2, none⟩ = some sv ∧ Ints w Any sv (gs.getD i g0).2.2
/-- Objects in a row. -/
def OsRow (w : World) (v : Value) (os : List Ob) : Prop :=
  ∃ sp cap, v = .slice sp os.length cap ∧ os.length ≤ 9223372036854775807 ∧ ∀ i, i < os.length → ∃ b off sv, sp = some ⟨b, off, none⟩ ∧ b < w.heap.size ∧ w.cell? ⟨b, off + i * 3, none⟩ = some (.int .i64 (os.getD i o0).1) ∧ w.cell? ⟨b, off + i * 3 + 1, none⟩ = some sv ∧ w.cell? ⟨b, off + i * 3 + 2, none⟩ = some (.bool (os.getD i o0).2.2) ∧ Ints w Any sv (os.getD i o0).2.1
structure Vi where
  ph : Int
  cy : Int
  ck : Int
  gl : List Int
  gs : List Gor
  os : List Ob
  gr : Int
  nt : Int
  rt : Int
/-- All its numbers are numbers of 64 bits. -/
structure WfV (V : Vi) : Prop where
  gl : ∀ x ∈ V.gl, WfI x
  gs : ∀ g ∈ V.gs, ∀ x ∈ g.2.2, WfI x
  oa : ∀ o ∈ V.os, WfI o.1
  sl : ∀ o ∈ V.os, ∀ x ∈ o.2.1, WfI x
/-- A view of few. -/
structure Fw (V : Vi) : Prop where
  gl : V.gl.length ≤ 40
  gs : V.gs.length ≤ 40
  os : V.os.length ≤ 40
  st : ∀ g ∈ V.gs, g.2.2.length ≤ 40
  sl : ∀ o ∈ V.os, o.2.1.length ≤ 300
structure IsV (w : World) (V : Vi) (vg vs vo : Value) : Prop where
  gl : Ints w Any vg V.gl
  gs : GsRow w vs V.gs
  os : OsRow w vo V.os
  wf : WfV V
def vv (V : Vi) (vg vs vo : Value) : Value := .agg #[.int .i64 V.ph, .int .i64 V.cy, .int .i64 V.ck, vg, vs, vo, .int .i64 V.gr, .int .i64 V.nt, .int .i64 V.rt]
theorem ints_below {v : Value} (h : Ints w Any v zs) (hb : Below w.heap.size w w') : Ints w' Any v zs := h.below hb
theorem GsRow.below (h : GsRow w v gs) (hb : Below w.heap.size w w') : GsRow w' v gs := by
  obtain ⟨sp, cap, e, hm, h⟩ := h
  refine ⟨sp, cap, e, hm, fun i hi => ?_⟩
  obtain ⟨b, off, sv, e1, e2, e3, e4, e5, e6⟩ := h i hi
  exact ⟨b, off, sv, e1, Nat.lt_of_lt_of_le e2 hb.size, cell_then hb e3, cell_then hb e4, cell_then hb e5, ints_below e6 hb⟩
theorem OsRow.below (h : OsRow w v os) (hb : Below w.heap.size w w') : OsRow w' v os := by
  obtain ⟨sp, cap, e, hm, h⟩ := h
  refine ⟨sp, cap, e, hm, fun i hi => ?_⟩
  obtain ⟨b, off, sv, e1, e2, e3, e4, e5, e6⟩ := h i hi
  exact ⟨b, off, sv, e1, Nat.lt_of_lt_of_le e2 hb.size, cell_then hb e3, cell_then hb e4, cell_then hb e5, ints_below e6 hb⟩
theorem IsV.below {V : Vi} {vg vs vo : Value} (h : IsV w V vg vs vo) (hb : Below w.heap.size w w') : IsV w' V vg vs vo := ⟨ints_below h.gl hb, h.gs.below hb, h.os.below hb, h.wf⟩
/-- A row of its own that holds these. -/
def NewRow (w : World) (zs : List Int) (e : Ending) (w' : World) : Prop := ∃ v', e = .returned v' ∧ Ints w' (fun k => w.heap.size ≤ k) v' zs ∧ Below w.heap.size w w'
theorem ints_grow {lo : Nat} (h : GRow 1 w v zs.length (cells zs)) (hl : zs.length ≤ 1000000) (hlo : ∀ k, v.ownBlock = some k → lo ≤ k) : Ints w (fun k => lo ≤ k) v zs := by
  obtain ⟨ao, b, off, cap, rfl, hle, hm, hc, hcell⟩ := h.cell
  refine ⟨ao, cap, rfl, by omega, fun i hi => ?_⟩
  obtain ⟨rfl, hb, ho⟩ := hc (by omega)
  refine ⟨b, off, rfl, hlo b ho, hb, ?_⟩
  refine (hcell i _ ?_).1
  unfold cells
  rw [List.getElem?_map, List.getElem?_eq_getElem hi, List.getD_eq_getElem?_getD, List.getElem?_eq_getElem hi]; rfl
end Vw
end Go.Proofs.Ytneibhcigbfigaa
