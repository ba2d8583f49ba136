/- Functions that lie in rows of any room: what the document's own Decode builds. -/
import Derived.Test.YtapkcjbfflgplaaDoorRDecMath
import Derived.Test.YtapkcjbfflgplaaDoorBackKit
namespace Go.Proofs.YtapkcjbfflgplaaDoor
open Go.RowKit Go.Lib Fx Ho Gr
set_option linter.unusedVariables false
namespace Cd
variable {w w' W wr : World} {v fv lv : Value} {fs : List (List Ins)} {L l : List Ins} {hs : List Value} {M lo : Nat}
/-- A row of instructions that grows holds them. -/
theorem irow_grow (h : GRow 4 w v L.length (ca L)) : IRow w v L := by
  obtain ⟨ao, b, off, cap, rfl, hle, hm, hc, hcell⟩ := h.cell
  refine ⟨ao, cap, rfl, by unfold maxLen at hm; omega, fun i hi => ?_⟩
  obtain ⟨rfl, hb, _⟩ := hc (by omega)
  obtain ⟨e0, e1, e2, e3⟩ := ca_get L i hi
  exact ⟨b, off, rfl, (hcell _ _ e0).1, by have := (hcell _ _ e1).1; rw [← Nat.add_assoc] at this; exact this, by have := (hcell _ _ e2).1; rw [← Nat.add_assoc] at this; exact this, by have := (hcell _ _ e3).1; rw [← Nat.add_assoc] at this; exact this⟩
/-- The functions so far: their slices hs, each a row of its own; nothing of it at M or below lo. -/
structure Gw (lo M : Nat) (wr : World) (fv : Value) (fs : List (List Ins)) (hs : List Value) : Prop where
  len : hs.length = fs.length
  row : GRow 1 wr fv fs.length hs
  ins : ∀ i, i < fs.length → GRow 4 wr (hs.getD i .nilFunc) (fs.getD i []).length (ca (fs.getD i []))
  sep : ∀ i, i < fs.length → ∀ k, (hs.getD i .nilFunc).ownBlock = some k → k ≠ M ∧ lo ≤ k ∧ fv.ownBlock ≠ some k
  fvs : ∀ k, fv.ownBlock = some k → k ≠ M ∧ lo ≤ k
theorem Gw.wrote {H H' : Home} (h : Gw lo M wr fv fs hs) (hw : Wrote H wr H' w') (hn : ∀ k, H k → k = M ∨ k < lo) : Gw lo M w' fv fs hs := by
  refine ⟨h.len, h.row.wrote hw (fun k hk hh => ?_), fun i hi => (h.ins i hi).wrote hw (fun k hk hh => ?_), h.sep, h.fvs⟩
  · have := h.fvs k hk
    rcases hn k hh with e | e <;> omega
  · have h2 := h.sep i hi k hk
    rcases hn k hh with e | e <;> omega
theorem Gw.below (h : Gw lo M wr fv fs hs) (hb : Below wr.heap.size wr w') : Gw lo M w' fv fs hs := h.wrote (H := fun _ => False) (Wrote.of_below hb) (fun k h => h.elim)
/-- Blocks that are not of it may be written: a row that grows beside it. -/
theorem Gw.beside {H H' : Home} (h : Gw lo M wr fv fs hs) (hw : Wrote H wr H' w') (hn : ∀ k, H k → fv.ownBlock ≠ some k ∧ ∀ i, i < fs.length → (hs.getD i .nilFunc).ownBlock ≠ some k) : Gw lo M w' fv fs hs :=
  ⟨h.len, h.row.wrote hw (fun k hk hh => (hn k hh).1 hk), fun i hi => (h.ins i hi).wrote hw (fun k hk hh => (hn k hh).2 i hi hk), h.sep, h.fvs⟩
/-- One function more. -/
theorem Gw.more {v8 : Value} {w8 : World} (h : Gw lo M wr fv fs hs) (hl : GRow 4 wr lv l.length (ca l)) (hlv : ∀ k, lv.ownBlock = some k → k ≠ M ∧ lo ≤ k ∧ fv.ownBlock ≠ some k) (hlo : lo ≤ wr.heap.size) (hM : M < wr.heap.size) (hg : GRow 1 w8 v8 (fs.length + 1) (hs ++ [lv])) (hw : Wrote (fun k => fv.ownBlock = some k) wr (fun k => v8.ownBlock = some k) w8) : Gw lo M w8 v8 (fs ++ [l]) (hs ++ [lv]) := by
  have hnew : ∀ k, v8.ownBlock = some k → (fv.ownBlock = some k) ∨ wr.heap.size ≤ k := fun k hk => hw.home k hk
  have old1 : ∀ i, i < fs.length → (hs ++ [lv]).getD i .nilFunc = hs.getD i .nilFunc := fun i hi => by rw [List.getD_eq_getElem?_getD, List.getD_eq_getElem?_getD, List.getElem?_append_left (by rw [h.len]; exact hi)]
  have old2 : ∀ i, i < fs.length → (fs ++ [l]).getD i [] = fs.getD i [] := fun i hi => by rw [List.getD_eq_getElem?_getD, List.getD_eq_getElem?_getD, List.getElem?_append_left hi]
  have new1 : (hs ++ [lv]).getD fs.length .nilFunc = lv := by rw [List.getD_eq_getElem?_getD, List.getElem?_append_right (by rw [h.len]; exact Nat.le_refl _), h.len, Nat.sub_self]; rfl
  have new2 : (fs ++ [l]).getD fs.length [] = l := by rw [List.getD_eq_getElem?_getD, List.getElem?_append_right (Nat.le_refl _), Nat.sub_self]; rfl
  refine ⟨by rw [List.length_append, List.length_append, h.len]; rfl, by rw [List.length_append]; exact hg, fun i hi => ?_, fun i hi k hk => ?_, fun k hk => ?_⟩
  · rw [List.length_append, List.length_singleton] at hi
    rcases Nat.lt_or_ge i fs.length with e | e
    · rw [old1 i e, old2 i e]
      exact (h.ins i e).wrote hw (fun k hk hh => (h.sep i e k hk).2.2 hh)
    · obtain rfl : i = fs.length := by omega
      rw [new1, new2]
      exact hl.wrote hw (fun k hk hh => (hlv k hk).2.2 hh)
  · rw [List.length_append, List.length_singleton] at hi
    rcases Nat.lt_or_ge i fs.length with e | e
    · rw [old1 i e] at hk
      have h2 := h.sep i e k hk
      refine ⟨h2.1, h2.2.1, fun e2 => (hnew k e2).elim h2.2.2 (fun e3 => ?_)⟩
      have := (h.ins i e).lt hk
      omega
    · obtain rfl : i = fs.length := by omega
      rw [new1] at hk
      have h2 := hlv k hk
      refine ⟨h2.1, h2.2.1, fun e2 => (hnew k e2).elim h2.2.2 (fun e3 => ?_)⟩
      have := hl.lt hk
      omega
  · rcases hnew k hk with e | e
    · exact h.fvs k e
    · omega
theorem Gw.frow (h : Gw lo M wr fv fs hs) (hz : fs.length ≤ 1000000) : FRow wr fv fs := by
  obtain ⟨ao, b, off, cap, rfl, h1, h2, h3, h4⟩ := h.row.cell
  refine ⟨ao, cap, rfl, by omega, fun i hi => ?_⟩
  obtain ⟨rfl, _, _⟩ := h3 (by omega)
  have hl := h.len
  refine ⟨b, off, hs.getD i .nilFunc, rfl, (h4 i _ ?_).1, irow_grow (h.ins i hi)⟩
  rw [List.getD_eq_getElem?_getD, List.getElem?_eq_getElem (show i < hs.length by omega)]; rfl
theorem eltIns : Elt Tryd.prog 30 29 4 32 (.agg #[.int .i64 0, .int .i64 0, .int .i64 0, .int .i64 0]) := ⟨Tryd.underlying30, infoInst, by kernel_rfl, by decide, by decide⟩
end Cd
end Go.Proofs.YtapkcjbfflgplaaDoor
