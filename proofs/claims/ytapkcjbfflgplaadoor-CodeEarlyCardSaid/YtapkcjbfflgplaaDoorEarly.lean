/- CodeEarly: where an Op stands, and what a byte of 255 there comes to. -/
import Derived.Test.YtapkcjbfflgplaaDoorStr
import Derived.Test.YtapkcjbfflgplaaDoorRDecode
import Derived.OwnWalk
namespace Go.Proofs.YtapkcjbfflgplaaDoor
open Go.RowKit Go.Lib Fx Ho Gr
set_option linter.unusedVariables false
namespace Cd
variable {w w' W wr : World} {v v' fv : Value} {fs : List (List Ins)} {zs A B L : List Int} {G : Int} {i j x lo k : Nat}
/-- An instruction's Op stands there. -/
def OpAt (G : Int) (fs : List (List Ins)) (x : Int) : Prop := ∃ i j, i < fs.length ∧ j < (fs.getD i []).length ∧ x = ((encQ G fs i j).length : Int)
theorem op_lt (hi : i < fs.length) (hj : j < (fs.getD i []).length) : (encQ G fs i j).length + 4 ≤ (enc G fs).length := by
  obtain ⟨R, hR⟩ := enc_in (G := G) hi hj
  rw [hR, List.length_append, List.length_append]
  have : (encI ((fs.getD i []).getD j zi)).length = 4 := rfl
  omega
theorem early_any (hm : MayIs G fs 0) (h : OpAt G fs x) (B : List Int) : progE (((enc G fs).take x ++ [255]) ++ B) = .error x := by
  obtain ⟨i, j, hi, hj, he⟩ := h
  have he : x = (encQ G fs i j).length := by omega
  subst he
  have hl := op_lt (G := G) hi hj
  obtain ⟨q, hq⟩ : ∃ q, (encQ G fs i j).length = q := ⟨_, rfl⟩
  have hlt : ((enc G fs).take q).length = q := by rw [List.length_take]; omega
  have hz : (((enc G fs).take q ++ [255]) ++ B).getD q 0 = 255 := by
    rw [List.append_assoc, List.getD_eq_getElem?_getD, List.getElem?_append_right (by omega), hlt, Nat.sub_self]; rfl
  refine prog_early hm hi hj (m := q) ⟨?_, by omega, fun t ht => ?_⟩ (by omega) ?_
  · rw [hq, List.length_append, List.length_append, hlt]; omega
  · rw [hq, List.append_assoc, List.getD_eq_getElem?_getD, List.getElem?_append_left (by omega), List.getElem?_take, if_pos ht, ← List.getD_eq_getElem?_getD]
  · rw [hq]
    refine inst_stop (p := q) (j := 0) (by omega) (fun t ht => by omega) (fun h => ?_)
    have h2 : 0 ≤ zAt (((enc G fs).take q ++ [255]) ++ B) q 0 ∧ zAt (((enc G fs).take q ++ [255]) ++ B) q 0 < 18 := h.2
    unfold zAt at h2
    rw [Nat.add_zero, hz] at h2
    omega
theorem first_zero (B : List Int) : progE ([0] ++ B) = .error 0 := first_err (fun h => by
  have h2 : 1 ≤ (0 : Int) := h.2.1
  omega)
theorem second_big (hm : MayIs G fs 0) (B : List Int) : progE (((enc G fs).take 1 ++ [33]) ++ B) = .error 1 := by
  have hk : CntOk G fs := by
    rcases hm with ⟨_, hk⟩ | ⟨hk, hok, _⟩ | ⟨_, _, _, _, _, _, _, _, hk⟩
    · cases hk
    · exact hk
    · omega
  have e : ((enc G fs).take 1 ++ [33]) ++ B = (fs.length : Int) :: 33 :: B := rfl
  rw [e]
  have h1 := hk.1
  have h2 := hk.2.1
  refine second_err ⟨by simp, show 1 ≤ (fs.length : Int) by omega, show (fs.length : Int) ≤ 16 by omega⟩ (fun h => ?_)
  have h3 : (33 : Int) ≤ 32 := h.2.2
  omega
/-- The places so far. -/
structure Es (U wr : World) (v : Value) (G : Int) (fs : List (List Ins)) (L : List Int) (k : Nat) : Prop where
  row : GRow 1 wr v L.length (cells L)
  own : ∀ b, v.ownBlock = some b → U.heap.size ≤ b
  low : Below U.heap.size U wr
  at_ : ∀ x ∈ L, OpAt G fs x
  le : L.length ≤ k
theorem eltE : Elt Tryd.prog 36 3 1 8 (.int .i64 0) := ⟨Tryd.underlying36, by kernel_rfl, rfl, by decide, by decide⟩
theorem src_e (g : Int) (w : World) : Src Tryd.prog 1 36 (.slice (some ⟨w.heap.size, 0, none⟩) 1 1) 1 (cells [g]) (w.alloc (.cells #[.int .i64 g] 3)) :=
  src_new (s := 1) (A := #[.int .i64 g]) Tryd.underlying36 rfl (by simp [Value.oneCell']) (heap_alloc_new _ _)
theorem Es.more {U w8 : World} {v8 : Value} {g : Int} (h : Es U wr v G fs L k) (g1 : GRow 1 w8 v8 (L.length + 1) (cells L ++ cells [g])) (g2 : Wrote (fun b => v.ownBlock = some b) (wr.alloc (.cells #[.int .i64 g] 3)) (fun b => v8.ownBlock = some b) w8) (ho : OpAt G fs g) : Es U w8 v8 G fs (L ++ [g]) (k + 1) := by
  have hb := h.low.alloc h.low.size (.cells #[.int .i64 g] 3)
  refine ⟨by rw [List.length_append, cells_app]; exact g1, fun b hb2 => (g2.home b hb2).elim (h.own b) (fun e => Nat.le_trans hb.size e), hb.trans (below_of_w g2 (fun b hb2 => h.own b hb2) hb.size), fun x hx => ?_, by rw [List.length_append, List.length_singleton]; have := h.le; omega⟩
  rcases List.mem_append.1 hx with h1 | h1
  · exact h.at_ x h1
  · rw [List.mem_singleton] at h1; subst h1; exact ho

set_option maxRecDepth 100000 in
theorem row_str {S : Nat → Prop} (h : BRow w S v zs) : (convert 62 9 v).run Tryd.prog w = .ok (.string (byts zs)) w := by
  obtain ⟨sp, cap, rfl, hm, hc⟩ := h
  rcases zs with _ | ⟨z, zs⟩
  · cases sp with
    | none =>
      rw [List.length_nil, run_convert_bytes_string w 62 9 5 none 0 cap Tryd.underlying62 Tryd.underlying5 Tryd.underlying9]; rfl
    | some a => exact run_convert_bytes_back (P := Tryd.prog) w 62 9 5 a cap [] Tryd.underlying62 Tryd.underlying5 Tryd.underlying9 (fun j hj => by simp at hj)
  · obtain ⟨b, off, rfl, _⟩ := hc 0 (by simp)
    generalize hz : z :: zs = ys at *
    have := run_convert_bytes_back (P := Tryd.prog) w 62 9 5 ⟨b, off, none⟩ cap (ys.map (fun z => UInt8.ofNat z.toNat)) Tryd.underlying62 Tryd.underlying5 Tryd.underlying9 (fun j hj => by
      have hj' : j < ys.length := by simpa using hj
      obtain ⟨b', off', e, _, _, c0, hzz⟩ := hc j hj'
      cases e
      rw [addr_add, c0]
      have e1 : ys.getD j 0 = ys[j] := by rw [List.getD_eq_getElem?_getD, List.getElem?_eq_getElem hj']; rfl
      rw [e1] at hzz ⊢
      simp only [List.getElem_map]
      rw [show (UInt8.ofNat ys[j].toNat).toNat = ys[j].toNat % 256 from UInt8.toNat_ofNat']
      congr 2
      omega)
    rw [List.length_map] at this
    exact this
theorem BRow.byt {S : Nat → Prop} (h : BRow w S v zs) : Byt zs := fun i hi => by
  obtain ⟨sp, cap, rfl, hm, hc⟩ := h
  obtain ⟨_, _, _, _, _, _, h0⟩ := hc i hi
  exact h0
theorem BRow.up (h : BRow w (fun k => k < w.heap.size) v zs) (hb : Below w.heap.size w w') : BRow w' (fun k => k < w'.heap.size) v zs := by
  obtain ⟨sp, cap, e, h1, h2⟩ := h
  refine ⟨sp, cap, e, h1, fun i hi => ?_⟩
  obtain ⟨b, off, e2, hb1, hl, c0, c1⟩ := h2 i hi
  have hs := hb.size
  exact ⟨b, off, e2, by omega, by omega, cell_then hb c0, c1⟩
theorem below_two {B b : Nat} {x y : Value} (hb : B ≤ b) (hs : B ≤ w.heap.size) : Below B w ((w.setCell ⟨b, 0, none⟩ x).setCell ⟨b, 1, none⟩ y) := by
  have w0 : Wrote (fun k => k = b) w (fun k => k = b) (w.setCell ⟨b, 0, none⟩ x) := wrote_setCell (a := ⟨b, 0, none⟩) rfl rfl rfl rfl rfl
  have w1 : Wrote (fun k => k = b) (w.setCell ⟨b, 0, none⟩ x) (fun k => k = b) ((w.setCell ⟨b, 0, none⟩ x).setCell ⟨b, 1, none⟩ y) := wrote_setCell (a := ⟨b, 1, none⟩) rfl rfl rfl rfl rfl
  have w2 := w0.trans w1
  exact ⟨w2.os, w2.tape, w2.output, w2.size, fun k hk => w2.block k (by omega) (fun e => by have e : k = b := e; omega)⟩
end Cd
end Go.Proofs.YtapkcjbfflgplaaDoor
