/- Less of a view: other globals. -/
import Derived.Test.YtneibhcigbfigaaVwLs
import Derived.Test.YtneibhcigbfigaaVwHas
namespace Go.Proofs.Ytneibhcigbfigaa
open Go.RowKit Go.Lib Fx Ho Gr
set_option linter.unusedVariables false
namespace Vw
variable {B w w' w9 W X : World} {q k t n i N M O : Nat} {v v9 vg vs vo vr gq : Value} {V : Vi} {gl zs : List Int} {xs : List Value} {H H' : Home}
/-- A copy of the globals, one of them made 0. -/
theorem Lw.glob (h : Lw B w V q gq vs vr k t n xs) (hb : Below w.heap.size w w9) (hg : GRow 1 w9 v9 gl.length (cells gl)) (hn : ∀ r, v9.ownBlock = some r → w.heap.size ≤ r) (hi : i < gl.length) (hl : gl.length ≤ 1000000) : w9.cell? ⟨q, 3, none⟩ = some gq ∧ w9.frozen? ⟨q, 3, none⟩ = false ∧ ∃ b off cap, v9 = .slice (some ⟨b, off, none⟩) gl.length cap ∧ (w9.setCell ⟨q, 3, none⟩ v9).cell? ⟨q, 3, none⟩ = some v9 ∧ (w9.setCell ⟨q, 3, none⟩ v9).cell? ⟨b, off + i, none⟩ = some (.int .i64 (gl.getD i 0)) ∧ (w9.setCell ⟨q, 3, none⟩ v9).frozen? ⟨b, off + i, none⟩ = false ∧ Hid (Lw B (((w9.setCell ⟨q, 3, none⟩ v9).setCell ⟨b, off + i, none⟩ (.int .i64 0)).drew) V q v9 vs vr k t n xs ∧ Ints (((w9.setCell ⟨q, 3, none⟩ v9).setCell ⟨b, off + i, none⟩ (.int .i64 0)).drew) Any v9 (gl.set i 0)) := by
  have hq := block_lt h.box
  obtain ⟨a1, a2, a3⟩ := (h.below hb).setG v9
  have hw2 : Wrote (fun r => r = q) w9 (fun r => r = q) (w9.setCell ⟨q, 3, none⟩ v9) := wrote_setCell (a := ⟨q, 3, none⟩) rfl rfl rfl rfl rfl
  have hg2 : GRow 1 (w9.setCell ⟨q, 3, none⟩ v9) v9 gl.length (cells gl) := hg.wrote hw2 (fun r hr e => by have := hn r hr; omega)
  obtain ⟨b, off, cap, e, ho, h1, h2, h3⟩ := grow_zero hg2 hi
  have hbn := hn b ho
  have hw3 : Wrote (fun r => r = b) (w9.setCell ⟨q, 3, none⟩ v9) (fun r => r = b) ((w9.setCell ⟨q, 3, none⟩ v9).setCell ⟨b, off + i, none⟩ (.int .i64 0)) := wrote_setCell (a := ⟨b, off + i, none⟩) rfl rfl rfl rfl rfl
  refine ⟨a1, a2, b, off, cap, e, cell_of a3.box rfl, h1, h2, Lib.hid ⟨Lw.below ⟨a3.bel.setCell (p := ⟨b, off + i, none⟩) (Nat.le_trans h.bel.size hbn) _, a3.lo, (hw3.block q (block_lt a3.box) (fun e2 => by omega)).trans a3.box, a3.row.wrote hw3 (fun r hr e2 => by have := h.row.lt hr; omega), a3.ro, fun j hj => ?_⟩ (Below.refl _ _).drew, ?_⟩⟩
  · obtain ⟨sv, e1, e2, e3, e4⟩ := h.os j hj
    have g1 : Ints w (fun r => r ≠ q ∧ vr.ownBlock ≠ some r ∧ r < w.heap.size) sv (slL k t j (V.os.getD j o0).2.1) := e4.wider fun r hr hlt => ⟨hr.1, hr.2, hlt⟩
    have g2 := (g1.below hb).wrote hw2 (fun r hr e => hr.1 e)
    have g3 := g2.wrote hw3 (fun r hr e => by have := hr.2.2; omega)
    exact ⟨sv, e1, e2, e3, g3.wider fun r hr _ => ⟨hr.1, hr.2.1⟩⟩
  · exact ((ints_grow (lo := 0) h3 (by rw [List.length_set]; exact hl) (fun _ _ => Nat.zero_le _)).wider fun _ _ _ => trivial).below (Below.refl _ _).drew
theorem vvL {f : FuncId} {ex : Array Value} {R : Ending → World → Prop} (h : Calls Try.prog f (#[vv (Lw.less V k t gl) gq vs vr] ++ ex) w R) : Calls Try.prog f (#[.agg #[.int .i64 V.ph, .int .i64 V.cy, .int .i64 V.ck, gq, vs, vr, .int .i64 V.gr, .int .i64 V.nt, .int .i64 V.rt]] ++ ex) w R := h
theorem less_own (V : Vi) (k t : Nat) : Less V (Lw.less V k t V.gl) k t := ⟨rfl, fun x hx _ => hx, rfl, rfl⟩
theorem less_set (V : Vi) (k t i : Nat) : Less V (Lw.less V k t (V.gl.set i 0)) k t := ⟨rfl, fun x hx h0 => (List.mem_or_eq_of_mem_set hx).elim id fun e => absurd e h0, by show (V.gl.set i 0).length = _; rw [List.length_set], rfl⟩
end Vw
end Go.Proofs.Ytneibhcigbfigaa
