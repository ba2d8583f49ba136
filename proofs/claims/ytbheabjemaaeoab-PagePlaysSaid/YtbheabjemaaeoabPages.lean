/- Pages as they lie in memory: which are free, the heap of runs, the map of their ends; what set, last make and answer. -/
import Derived.Test.YtbheabjemaaeoabHeapG
import Derived.Test.YtbheabjemaaeoabMapP
import Derived.LoopTactic
import Derived.LoopN
namespace Go.Proofs.Ytbheabjemaaeoab
open Go.RowKit Go.Lib Fx Ho Gr
set_option linter.unusedVariables false
namespace Pg
open Hm Mp
variable {w w' W : World} {P b0 z n c i j k : Nat} {v fv mv : Value} {L M : List Rn} {H H' : Home} {x : Rn} {F : List Bool} {m m' : Int → Value}
def bs (F : List Bool) : Array Value := (F.map Value.bool).toArray
theorem bs_set (F : List Bool) (i : Nat) (b : Bool) : (bs F).setIfInBounds i (.bool b) = bs (F.set i b) := by
  unfold bs; rw [List.setIfInBounds_toArray, List.map_set]
theorem bs_get {F : List Bool} {i : Nat} (h : i < F.length) : (bs F)[i]? = some (.bool (F.getD i false)) := by
  unfold bs
  rw [List.getElem?_toArray, List.getElem?_map, List.getD_eq_getElem?_getD, List.getElem?_eq_getElem h]; rfl
/-- Pages at P: F tells which are free, L is the heap of runs, m what the map of ends tells. -/
structure Pc (w : World) (P : Nat) (v : Value) (b0 z n c : Nat) (F : List Bool) (L : List Rn) (m : Int → Value) : Prop where
  q : Pq w P (.slice (some ⟨b0, 0, none⟩) n n) v (.map (some z)) L
  fr : w.heap[b0]? = some (.cells (bs F) 4 (0, 0))
  len : F.length = n
  map : IMap RQ (.pointer none) w z c m
  ok : Ok Rn.rn0 Rn.ahead 0 L.length L
  bz : b0 ≠ z
  bP : b0 ≠ P
  zP : z ≠ P
  bh : ¬ home v L b0
  zh : ¬ home v L z
def homeA (P : Nat) (v : Value) (b0 z : Nat) (L : List Rn) : Home := fun k => home2 P v L k ∨ k = b0 ∨ k = z
namespace Pc
theorem lt (h : Pc w P v b0 z n c F L m) {k : Nat} (hk : homeA P v b0 z L k) : k < w.heap.size := by
  rcases hk with hk | rfl | rfl
  · exact h.q.home_lt hk
  · exact block_lt h.fr
  · exact h.map.lt
theorem below (h : Pc w P v b0 z n c F L m) (hb : Below w.heap.size w w') : Pc w' P v b0 z n c F L m :=
  ⟨h.q.below hb, (hb.block b0 (block_lt h.fr)).trans h.fr, h.len, h.map.below hb, h.ok, h.bz, h.bP, h.zP, h.bh, h.zh⟩
theorem wrote (h : Pc w P v b0 z n c F L m) (ht : Wrote H w H' w') (ho : Off (homeA P v b0 z L) H) : Pc w' P v b0 z n c F L m :=
  ⟨h.q.wrote ht (fun hh => ho P (.inl (.inl rfl)) hh) (fun k hk hh => ho k (.inl (.inr hk)) hh), (ht.block b0 (block_lt h.fr) (fun hh => ho b0 (.inr (.inl rfl)) hh)).trans h.fr, h.len, h.map.wrote ht (fun hh => ho z (.inr (.inr rfl)) hh), h.ok, h.bz, h.bP, h.zP, h.bh, h.zh⟩
/-- Other pages are free. -/
theorem free (h : Pc w P v b0 z n c F L m) {F' : List Bool} (hl : F'.length = n) (hf : w'.heap[b0]? = some (.cells (bs F') 4 (0, 0))) (ht : Wrote (fun k => k = b0) w (fun k => k = b0) w') : Pc w' P v b0 z n c F' L m :=
  ⟨h.q.wrote ht (fun e => h.bP e.symm) (fun k hk e => h.bh (by rw [← show k = b0 from e]; exact hk)), hf, hl, h.map.wrote ht (fun e => h.bz e.symm), h.ok, h.bz, h.bP, h.zP, h.bh, h.zh⟩
/-- Other ends are told. -/
theorem ends (h : Pc w P v b0 z n c F L m) {c' : Nat} (hm : IMap RQ (.pointer none) w' z c' m') (ht : Wrote (fun k => k = z) w (fun k => k = z) w') : Pc w' P v b0 z n c' F L m' :=
  ⟨h.q.wrote ht (fun e => h.zP e.symm) (fun k hk e => h.zh (by rw [← show k = z from e]; exact hk)), (ht.block b0 (block_lt h.fr) h.bz).trans h.fr, h.len, hm, h.ok, h.bz, h.bP, h.zP, h.bh, h.zh⟩
theorem cs (h : Pc w P v b0 z n c F L m) : w.cell? ⟨P, 0, none⟩ = some (.slice (some ⟨b0, 0, none⟩) n n) ∧ w.cell? ⟨P, 1, none⟩ = some v ∧ w.cell? ⟨P, 2, none⟩ = some (.map (some z)) := ⟨cell_of h.q.head rfl, cell_of h.q.head rfl, cell_of h.q.head rfl⟩
theorem page (h : Pc w P v b0 z n c F L m) (hi : i < n) : w.cell? ⟨b0, i, none⟩ = some (.bool (F.getD i false)) ∧ w.frozen? ⟨b0, i, none⟩ = false :=
  ⟨cell_of h.fr (bs_get (by rw [h.len]; exact hi)), frozen_of_row w b0 i _ _ h.fr⟩
end Pc
/-- F with the k from a on set to b. -/
def setR (F : List Bool) (a : Nat) (b : Bool) : Nat → List Bool
  | 0 => F
  | k + 1 => (setR F a b k).set (a + k) b
theorem setR_len (F : List Bool) (a : Nat) (b : Bool) : ∀ k, (setR F a b k).length = F.length
  | 0 => rfl
  | k + 1 => by show ((setR F a b k).set (a + k) b).length = _; rw [List.length_set]; exact setR_len F a b k
theorem setR_get (F : List Bool) (a : Nat) (b : Bool) (i : Nat) : ∀ k, a + k ≤ F.length → (setR F a b k).getD i false = if a ≤ i ∧ i < a + k then b else F.getD i false
  | 0, _ => by rw [if_neg (by omega)]; rfl
  | k + 1, h => by
    show ((setR F a b k).set (a + k) b).getD i false = _
    have ih := setR_get F a b i k (by omega)
    simp only [List.getD_eq_getElem?_getD, List.getElem?_set] at ih ⊢
    by_cases e : a + k = i
    · rw [if_pos e, if_pos (by rw [setR_len]; omega), if_pos (by omega)]; rfl
    · rw [if_neg e, ih]
      by_cases e2 : a ≤ i ∧ i < a + k
      · rw [if_pos e2, if_pos (by omega)]
      · rw [if_neg e2, if_neg (by omega)]
set_option maxRecDepth 100000 in
set_option maxHeartbeats 1000000 in
theorem set_any (h : Pc w P v b0 z n c F L m) (a k : Nat) (b : Bool) (hk : a + k ≤ n) (hn : n ≤ 300000) : Calls Try.prog 19 #[.pointer (some ⟨P, 0, none⟩), .int .i64 a, .int .i64 k, .bool b] w fun e w' => e = .returned (.tuple #[]) ∧ Pc w' P v b0 z n c (setR F a b k) L m ∧ Wrote (fun k => k = b0) w (fun k => k = b0) w' := by
  have k0 : (0 : Int) ≤ (k : Int) := by omega
  replace h := Lib.hid h
  go_enter Try.func19, Try.ntmps19
  go_wp2_with fail
  go_loopw [10] (fun u wr => ∃ j : Nat, u = .int .i64 j ∧ j ≤ k ∧ Hid (Pc wr P v b0 z n c (setR F a b j) L m) ∧ Hid (Wrote (fun k => k = b0) w (fun k => k = b0) wr)) (fun u _ => (k - (RowKit.intOf u).toNat))
  case atStart => exact ⟨0, rfl, by omega, h, Lib.hid (Wrote.refl _ _)⟩
  case round =>
    clear h
    obtain ⟨j, rfl, jk, hR, hw⟩ := hrel
    have j0 : (0 : Int) ≤ (j : Int) := by omega
    by_cases hj : j < k
    · have j1 : (j : Int) < (k : Int) := by omega
      obtain ⟨c0, _, _⟩ := hR.out.cs
      obtain ⟨c1, f1⟩ := hR.out.page (i := a + j) (by omega)
      have i0 : (0 : Int) ≤ (a : Int) + (j : Int) := by omega
      have i1 : (a : Int) + (j : Int) < (n : Int) := by omega
      have i2 : ((a : Int) + (j : Int)).toNat = a + j := by omega
      have hnx : Hid (Pc (wr.setCell ⟨b0, a + j, none⟩ (.bool b)) P v b0 z n c (setR F a b (j + 1)) L m) := Lib.hid (hR.out.free (by rw [setR_len, ← hR.out.len, setR_len]) (by rw [heap_setCell_same _ b0 (a + j) _ _ _ hR.out.fr, bs_set]; rfl) (wr1 wr b0 (a + j) (.bool b)))
      have hw2 : Hid (Wrote (fun k => k = b0) w (fun k => k = b0) (wr.setCell ⟨b0, a + j, none⟩ (.bool b))) := Lib.hid (hw.out.trans (wr1 wr b0 (a + j) (.bool b)))
      clear hR hw
      go_wp2_with fail
      go_roundw
      case rel => exact ⟨j + 1, by go_num, by omega, hnx, hw2⟩
      case measure => simp [RowKit.intOf]; omega
    · obtain rfl : j = k := by omega
      have j1 : ¬ (j : Int) < (j : Int) := by omega
      go_wp2_with fail
      go_end0
      exact ⟨rfl, hR.out, hw.out⟩
set_option maxRecDepth 100000 in
theorem last_any {r : Rn} {a : Int} (ho : w.heap[r.2.2]? = some (robj r a)) (h0 : 0 ≤ r.1) (h1 : r.1 ≤ 300000) (h2 : 1 ≤ r.2.1) (h3 : r.2.1 ≤ 300000) : Calls Try.prog 28 #[.pointer (some ⟨r.2.2, 0, none⟩)] w (AnsB (.int .i64 (r.1 + r.2.1 - 1)) w) := by
  obtain ⟨f, p, b⟩ := r
  unfold robj at ho
  simp only at ho h0 h1 h2 h3 ⊢
  have c0 := cell_of ho (j := 0) rfl
  have c1 := cell_of ho (j := 1) rfl
  clear ho
  go_enter Try.func28, Try.ntmps28
  go_wp2_with fail
  go_quiet (fail)
  go_wp2_with fail
  go_ret
  exact ⟨rfl, (by repeat (first | assumption | exact Below.refl _ _ | refine below_drewN ?_ _ | refine below_alloc ?_ _ | refine below_then ?_ (by assumption)))⟩
end Pg
end Go.Proofs.Ytbheabjemaaeoab
