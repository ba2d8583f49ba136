/- code.Encode: a program's bytes. -/
import Derived.Test.YtapkcjbfflgplaaDoorReadP
namespace Go.Proofs.YtapkcjbfflgplaaDoor
open Go.RowKit Go.Lib Fx Ho Gr
set_option linter.unusedVariables false
namespace Cd
variable {w w' W wr : World} {v fv : Value} {G nf len n : Int} {fs : List (List Ins)} {zs A : List Int} {l : List Ins}
def encI (x : Ins) : List Int := [x.1, x.2.1, x.2.2.1, x.2.2.2]
def encF (l : List Ins) : List Int := (l.length : Int) :: l.flatMap encI
def enc (G : Int) (fs : List (List Ins)) : List Int := (fs.length : Int) :: G :: fs.flatMap encF
def u8s (zs : List Int) : List Value := zs.map (Value.int .u8)
theorem u8s_app (A B : List Int) : u8s (A ++ B) = u8s A ++ u8s B := List.map_append
theorem u8s_len : (u8s A).length = A.length := List.length_map _
/-- What stands behind i functions and j instructions of the next. -/
def encP (G : Int) (fs : List (List Ins)) (i : Nat) : List Int := (fs.length : Int) :: G :: (fs.take i).flatMap encF
def encQ (G : Int) (fs : List (List Ins)) (i j : Nat) : List Int := encP G fs i ++ ((fs.getD i []).length : Int) :: ((fs.getD i []).take j).flatMap encI
theorem take_next {α : Type} (L : List α) (d : α) {i : Nat} (hi : i < L.length) : L.take (i + 1) = L.take i ++ [L.getD i d] := by
  rw [List.take_succ_eq_append_getElem hi, List.getD_eq_getElem?_getD, List.getElem?_eq_getElem hi]; rfl
theorem encQ_next (i : Nat) {j : Nat} (hj : j < (fs.getD i []).length) : encQ G fs i (j + 1) = encQ G fs i j ++ encI ((fs.getD i []).getD j zi) := by
  unfold encQ
  rw [take_next _ zi hj, List.flatMap_append]; simp
theorem encQ_all {i : Nat} (hi : i < fs.length) : encQ G fs i (fs.getD i []).length = encP G fs (i + 1) := by
  unfold encQ encP
  rw [List.take_length, take_next _ [] hi, List.flatMap_append]; simp [encF]
theorem encP_all : encP G fs fs.length = enc G fs := by unfold encP enc; rw [List.take_length]
theorem encI_len (L : List Ins) : (L.flatMap encI).length = 4 * L.length := by
  induction L with
  | nil => rfl
  | cons x L ih => rw [List.flatMap_cons, List.length_append, ih]; simp [encI]; omega
theorem encP_len (h : CntOk G fs) : ∀ i, i ≤ fs.length → (encP G fs i).length ≤ 2 + 257 * i
  | 0, _ => by simp [encP]
  | i + 1, hi => by
    have ih := encP_len h i (by omega)
    have := (h.2.2.2.2 i (by omega)).2
    rw [← encQ_all (by omega)]
    unfold encQ
    rw [List.length_append, List.take_length, List.length_cons, encI_len]; omega
theorem encQ_len (h : CntOk G fs) {i j : Nat} (hi : i < fs.length) (hj : j ≤ (fs.getD i []).length) : (encQ G fs i j).length ≤ 4500 := by
  have h1 := encP_len h i (by omega)
  have h2 := h.2.1
  have h3 := (h.2.2.2.2 i (by omega)).2
  unfold encQ
  rw [List.length_append, List.length_cons, encI_len, List.length_take]; omega
theorem bnd_le (h : CntOk G fs) (k : Int) : bnd G fs.length 64 k ≤ 256 := by
  have := h.2.1; have := h.2.2.2.1
  unfold bnd; split <;> (try split) <;> (try split) <;> (try split) <;> (try split) <;> (try split) <;> omega
theorem bnd_small (h : CntOk G fs) {len : Int} (hl : len ≤ 64) (k : Int) : bnd G fs.length len k ≤ 256 := by
  have := h.2.1; have := h.2.2.2.1
  unfold bnd; split <;> (try split) <;> (try split) <;> (try split) <;> (try split) <;> (try split) <;> omega
/-- An instruction that may be is of bytes. -/
theorem ok_bytes (h : CntOk G fs) {i j : Nat} (hi : i < fs.length) (ho : okAt G fs i j = true) {x : Ins} (hx : (fs.getD i []).getD j zi = x) : (0 ≤ x.1 ∧ x.1 ≤ 255) ∧ (0 ≤ x.2.1 ∧ x.2.1 ≤ 255) ∧ (0 ≤ x.2.2.1 ∧ x.2.2.1 ≤ 255) ∧ (0 ≤ x.2.2.2 ∧ x.2.2.2 ≤ 255) := by
  unfold okAt okI hasB at ho
  rw [hx] at ho
  simp only [Bool.and_eq_true, decide_eq_true_eq] at ho
  obtain ⟨h1, h2, h3, h4⟩ := ho
  have hl : ((fs.getD i []).length : Int) ≤ 64 := by have := (h.2.2.2.2 i hi).2; omega
  have b0 := bnd_small h hl (kd x.1.toNat 0)
  have b1 := bnd_small h hl (kd x.1.toNat 1)
  have b2 := bnd_small h hl (kd x.1.toNat 2)
  omega
theorem wu8 {z : Int} (h0 : 0 ≤ z) (h1 : z ≤ 255) : IntKind.u8.wrap z = z := by rw [IntKind.wrap_u8]; omega
theorem eltU8 : Elt Tryd.prog 62 5 1 1 (.int .u8 0) := ⟨Tryd.underlying62, by kernel_rfl, by kernel_rfl, by decide, by decide⟩
theorem src_u8 {W : World} {K : Nat} {zs : List Int} {e : TypeId} (hb : W.heap[K]? = some (.cells (u8s zs).toArray e (0, 0))) : Src Tryd.prog 1 62 (.slice (some ⟨K, 0, none⟩) zs.length zs.length) zs.length (u8s zs) W :=
  Src.ofSlice _ Tryd.underlying62 ⟨K, 0, none⟩ zs.length zs.length (u8s zs) (by rw [u8s_len]; omega) (fun j u hj => by
    rw [addr_add, Nat.zero_add]
    exact cell_of hb (by rw [← hj]; simp)) (fun u hu => by
    obtain ⟨z, _, rfl⟩ := List.mem_map.1 hu
    rfl)
theorem grow_blk {W : World} {K : Nat} {zs : List Int} {e : TypeId} (hb : W.heap[K]? = some (.cells (u8s zs).toArray e (0, 0))) (hz : zs.length ≤ 1000000) : GRow 1 W (.slice (some ⟨K, 0, none⟩) zs.length zs.length) zs.length (u8s zs) := by
  have hmx : (1000000 : Nat) ≤ maxLen := by unfold maxLen; omega
  refine ⟨_, K, 0, zs.length, rfl, ⟨Nat.le_refl _, fun _ => rfl, fun _ => block_lt hb, by rw [u8s_len]; omega, fun j u hj => ?_, fun j hj => by omega⟩, ⟨by omega, fun j hj => frozen_of_row _ _ _ _ _ hb⟩, .inl ⟨rfl, block_lt hb⟩⟩
  exact cell_of hb (by rw [← hj]; simp)
theorem FRow.fix (h : FRow w v fs) : ∃ sp cap, v = .slice sp fs.length cap ∧ ∀ i, i < fs.length → ∃ b off sv cp, sp = some ⟨b, off, none⟩ ∧ ∀ wr, Below w.heap.size w wr → wr.cell? ⟨b, off + i, none⟩ = some (.slice sv (fs.getD i []).length cp) ∧ IRow wr (.slice sv (fs.getD i []).length cp) (fs.getD i []) := by
  obtain ⟨sp, cap, e, h1, h2⟩ := h
  refine ⟨sp, cap, e, fun i hi => ?_⟩
  obtain ⟨b, off, fv, e2, c0, c1⟩ := h2 i hi
  obtain ⟨sv, cp, e3, _⟩ := id c1
  subst e3
  exact ⟨b, off, sv, cp, e2, fun wr hb => ⟨cell_then hb c0, c1.below hb⟩⟩
/-- Encode's bytes so far: in a block of its own. -/
structure Eb (w wr : World) (v : Value) (zs : List Int) : Prop where
  row : GRow 1 wr v zs.length (u8s zs)
  own : ∀ k, v.ownBlock = some k → w.heap.size ≤ k
  low : Below w.heap.size w wr
theorem Eb.more {v1 : Value} {wa w1 : World} {ys : List Int} (h : Eb w wr v zs) (hb : Below wr.heap.size wr wa) (hg : GRow 1 w1 v1 (zs.length + ys.length) (u8s zs ++ u8s ys)) (hw : Wrote (fun k => v.ownBlock = some k) wa (fun k => v1.ownBlock = some k) w1) : (∃ sp cap, v1 = .slice sp (zs ++ ys).length cap) ∧ Eb w w1 v1 (zs ++ ys) := by
  have e1 : (zs ++ ys).length = zs.length + ys.length := List.length_append
  have hs := h.low.size
  have hs2 := hb.size
  refine ⟨by rw [e1]; exact hg.slice, ⟨by rw [e1, u8s_app]; exact hg, fun k hk => ?_, ?_⟩⟩
  · rcases hw.home k hk with q | q
    · exact h.own k q
    · omega
  · have h1 := h.low.trans (hb.mono hs)
    exact h1.trans ⟨hw.os, hw.tape, hw.output, hw.size, fun k hk => hw.block k (by omega) (fun e => by have := h.own k e; omega)⟩
def EncR (G : Int) (fs : List (List Ins)) (w : World) (e : Ending) (w' : World) : Prop :=
  (MayIs G fs 0 ∧ ∃ v, e = .returned (.tuple #[v, .int .i64 0]) ∧ Eb w w' v (enc G fs)) ∨
  (∃ r, MayIs G fs r ∧ r ≠ 0 ∧ e = .returned (.tuple #[.slice none 0 0, .int .i64 1]) ∧ Below w.heap.size w w')
end Cd
end Go.Proofs.YtapkcjbfflgplaaDoor
