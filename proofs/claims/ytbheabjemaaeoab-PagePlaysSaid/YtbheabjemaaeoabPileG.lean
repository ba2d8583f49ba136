/- The order of runs of pages, and page's heap of them: a row of pointers behind a field, each run with its place in it. -/
import Derived.Test.YtbheabjemaaeoabGRow
import Derived.Test.YtbheabjemaaeoabHeapUp
import Derived.Test.YtbheabjemaaeoabPutNew
import Derived.Deep.RegionLaw
import Derived.Deep.RegionHeld3
import Derived.Deep.RegionWith
import Derived.StillTailTactics
import Derived.RegionTactic
import Derived.BigQuiet
namespace Go.Proofs.Ytbheabjemaaeoab
open Go.RowKit Go.Lib Fx Ho Gr
set_option linter.unusedVariables false
/-- A run: its first page, how many, the block where it lies. -/
abbrev Rn := Int × Int × Nat
namespace Rn
def rn0 : Rn := (0, 0, 0)
/-- Is x to be taken ahead of y: the lesser one; of like ones the one with the lesser first page. -/
def ahead (x y : Rn) : Bool := decide (x.2.1 < y.2.1 ∨ x.2.1 = y.2.1 ∧ x.1 < y.1)
theorem ahead_ord : Hm.Ord ahead := ⟨fun a b h => by unfold ahead at *; rw [decide_eq_true_iff] at h; rw [decide_eq_false_iff_not]; omega, fun a b c h k => by unfold ahead at *; rw [decide_eq_false_iff_not] at *; omega⟩
end Rn
namespace Pg
open Hm
def ptr (r : Rn) : Value := .pointer (some ⟨r.2.2, 0, none⟩)
def ps (L : List Rn) : List Value := L.map ptr
theorem ps_len (L : List Rn) : (ps L).length = L.length := List.length_map ..
theorem ps_get {L : List Rn} {i : Nat} (h : i < L.length) : (ps L)[i]? = some (.pointer (some ⟨(L.getD i Rn.rn0).2.2, 0, none⟩)) := by
  unfold ps
  rw [List.getElem?_map, List.getD_eq_getElem?_getD, List.getElem?_eq_getElem h]; rfl
theorem ps_set (L : List Rn) (i : Nat) (x : Rn) : (ps L).set i (.pointer (some ⟨x.2.2, 0, none⟩)) = ps (L.set i x) := by
  unfold ps; rw [List.map_set]; rfl
set_option maxRecDepth 100000 in
theorem meth_val {nm : String} {f : FuncId} (hf : ∃ m, (∀ w, (typeInfo 62).run Try.prog w = .ok m w) ∧ ∃ r, m.methods.find? (·.name == nm) = some r ∧ r.func = some (f, false) ∧ r.path = #[]) (n : Nat) (a : Addr) (v : Value) (w : World) (h : w.cell? a = some v) : (method (n + 1) 62 (.pointer (some a)) nm).run Try.prog w = .ok (f, v) w := by
  obtain ⟨m, h1, r, h2, h4, h5⟩ := hf
  have u : (underlying 62).run Try.prog w = .ok (.pointer 47) w := rfl
  unfold method
  have hz : ∀ (s1 s2 : String), (Builtin.ssaWrapNilChk_ #[62] 62 #[.pointer (some a), strVal s1, strVal s2]).run Try.prog w = .ok (.pointer (some a)) w := fun s1 s2 => rfl
  simp [h1, h2, h4, h5, follow, receiverAt, Place.get, loadVar, asAddr, hz, u, h]
set_option maxRecDepth 100000 in
theorem meth_len (a : Addr) (v : Value) (w : World) (h : w.cell? a = some v) (n : Nat) (hn : 0 < n) : (method n 62 (.pointer (some a)) "Len").run Try.prog w = .ok (70, v) w := by
  obtain ⟨k, rfl⟩ : ∃ k, n = k + 1 := ⟨n - 1, by omega⟩
  exact meth_val ⟨_, fun _ => rfl, _, rfl, rfl, by kernel_rfl⟩ k a v w h
set_option maxRecDepth 100000 in
theorem meth_less (a : Addr) (v : Value) (w : World) (h : w.cell? a = some v) (n : Nat) (hn : 0 < n) : (method n 62 (.pointer (some a)) "Less").run Try.prog w = .ok (30, v) w := by
  obtain ⟨k, rfl⟩ : ∃ k, n = k + 1 := ⟨n - 1, by omega⟩
  exact meth_val ⟨_, fun _ => rfl, _, rfl, rfl, by kernel_rfl⟩ k a v w h
set_option maxRecDepth 100000 in
theorem meth_swap (a : Addr) (v : Value) (w : World) (h : w.cell? a = some v) (n : Nat) (hn : 0 < n) : (method n 62 (.pointer (some a)) "Swap").run Try.prog w = .ok (71, v) w := by
  obtain ⟨k, rfl⟩ : ∃ k, n = k + 1 := ⟨n - 1, by omega⟩
  exact meth_val ⟨_, fun _ => rfl, _, rfl, rfl, by kernel_rfl⟩ k a v w h
theorem meth_pop (a : Addr) (w : World) (n : Nat) (hn : 0 < n) : (method n 62 (.pointer (some a)) "Pop").run Try.prog w = .ok (72, .pointer (some a)) w := by
  obtain ⟨k, rfl⟩ : ∃ k, n = k + 1 := ⟨n - 1, by omega⟩
  kernel_rfl
theorem meth_push (a : Addr) (w : World) (n : Nat) (hn : 0 < n) : (method n 62 (.pointer (some a)) "Push").run Try.prog w = .ok (73, .pointer (some a)) w := by
  obtain ⟨k, rfl⟩ : ∃ k, n = k + 1 := ⟨n - 1, by omega⟩
  kernel_rfl
/-- The block of a run that stands at i. -/
def robj (r : Rn) (i : Int) : Obj := .cells #[.int .i64 r.1, .int .i64 r.2.1, .int .i64 i] 55 (0, 0)
/-- The heap of runs L, behind the row v in the field of Pages P. -/
structure IsG (w : World) (P : Nat) (v : Value) (L : List Rn) : Prop where
  cell : w.cell? ⟨P, 1, none⟩ = some v
  free : w.frozen? ⟨P, 1, none⟩ = false
  lt : P < w.heap.size
  row : GRow 1 w v L.length (ps L)
  at_ : ∀ i, i < L.length → w.heap[(L.getD i Rn.rn0).2.2]? = some (robj (L.getD i Rn.rn0) i)
  off : v.ownBlock ≠ some P
  offb : ∀ r, r ∈ L → v.ownBlock ≠ some r.2.2 ∧ r.2.2 ≠ P
  one : ∀ i j, i < L.length → j < L.length → (L.getD i Rn.rn0).2.2 = (L.getD j Rn.rn0).2.2 → i = j
  small : L.length ≤ 1000
def home (v : Value) (L : List Rn) : Home := fun k => v.ownBlock = some k ∨ ∃ r, r ∈ L ∧ r.2.2 = k
variable {w w' : World} {P : Nat} {v : Value} {L M : List Rn} {H H' : Home}
theorem mem_at {i : Nat} (h : i < L.length) : L.getD i Rn.rn0 ∈ L := by
  rw [List.getD_eq_getElem?_getD, List.getElem?_eq_getElem h]; exact List.getElem_mem h
theorem at_mem {r : Rn} (h : r ∈ L) : ∃ i, i < L.length ∧ L.getD i Rn.rn0 = r := by
  obtain ⟨i, hi, e⟩ := List.mem_iff_getElem.1 h
  exact ⟨i, hi, by rw [List.getD_eq_getElem?_getD, List.getElem?_eq_getElem hi]; exact e⟩
namespace IsG
theorem blt (h : IsG w P v L) {r : Rn} (hr : r ∈ L) : r.2.2 < w.heap.size := by
  obtain ⟨i, hi, e⟩ := at_mem hr
  have := h.at_ i hi
  rw [e] at this; exact block_lt this
theorem home_lt (h : IsG w P v L) {k : Nat} (hk : home v L k) : k < w.heap.size := by
  rcases hk with hk | ⟨r, hr, rfl⟩
  · exact h.row.lt hk
  · exact h.blt hr
theorem wrote (h : IsG w P v L) (ht : Wrote H w H' w') (hP : ¬ H P) (ho : Off (home v L) H) : IsG w' P v L :=
  ⟨ht.cell h.cell hP, by rw [World.frozen?_of_block (a := ⟨P, 1, none⟩) (ht.block P h.lt hP)]; exact h.free, Nat.lt_of_lt_of_le h.lt ht.size, h.row.wrote ht (fun k hk hh => ho k (.inl hk) hh), fun i hi => (ht.block _ (h.blt (mem_at hi)) (fun hh => ho _ (.inr ⟨_, mem_at hi, rfl⟩) hh)).trans (h.at_ i hi), h.off, h.offb, h.one, h.small⟩
theorem below (h : IsG w P v L) (hb : Below w.heap.size w w') : IsG w' P v L := h.wrote (H := fun _ => False) (Wrote.of_below hb) (fun h => h) (fun _ _ h => h)
/-- Where the i-th lies. -/
theorem place (h : IsG w P v L) {i : Nat} (hi : i < L.length) : ∃ b off cap, v = .slice (some ⟨b, off, none⟩) L.length cap ∧ L.length ≤ cap ∧ cap ≤ 9223372036854775807 ∧ b < w.heap.size ∧ ∀ j, j < L.length → w.cell? ⟨b, off + j, none⟩ = some (.pointer (some ⟨(L.getD j Rn.rn0).2.2, 0, none⟩)) ∧ w.frozen? ⟨b, off + j, none⟩ = false := by
  obtain ⟨ao, b, off, cap, e, hle, hm, ha, hc⟩ := h.row.cell
  unfold maxLen at hm
  obtain ⟨rfl, hb, _⟩ := ha (by omega)
  exact ⟨b, off, cap, e, hle, by omega, hb, fun j hj => hc _ _ (ps_get hj)⟩
theorem cells (h : IsG w P v L) {i : Nat} (hi : i < L.length) : w.cell? ⟨(L.getD i Rn.rn0).2.2, 0, none⟩ = some (.int .i64 (L.getD i Rn.rn0).1) ∧ w.cell? ⟨(L.getD i Rn.rn0).2.2, 1, none⟩ = some (.int .i64 (L.getD i Rn.rn0).2.1) ∧ w.cell? ⟨(L.getD i Rn.rn0).2.2, 2, none⟩ = some (.int .i64 i) ∧ w.frozen? ⟨(L.getD i Rn.rn0).2.2, 2, none⟩ = false := by
  have := h.at_ i hi
  unfold robj at this
  exact ⟨cell_of this rfl, cell_of this rfl, cell_of this rfl, frozen_of_row w _ 2 _ _ this⟩
end IsG
set_option maxRecDepth 100000 in
theorem less_any (h : IsG w P v L) {i j : Nat} (hi : i < L.length) (hj : j < L.length) : Calls Try.prog 30 #[v, .int .i64 i, .int .i64 j] w (AnsB (.bool (Rn.ahead (L.getD i Rn.rn0) (L.getD j Rn.rn0))) w) := by
  obtain ⟨b, off, cap, rfl, hle, hm, hbl, hc⟩ := h.place hi
  obtain ⟨c0, _⟩ := hc i hi
  obtain ⟨d0, _⟩ := hc j hj
  obtain ⟨c1, c2, _, _⟩ := h.cells hi
  obtain ⟨d1, d2, _, _⟩ := h.cells hj
  have ha : Rn.ahead (L.getD i Rn.rn0) (L.getD j Rn.rn0) = if (L.getD i Rn.rn0).2.1 = (L.getD j Rn.rn0).2.1 then decide ((L.getD i Rn.rn0).1 < (L.getD j Rn.rn0).1) else decide ((L.getD i Rn.rn0).2.1 < (L.getD j Rn.rn0).2.1) := by
    unfold Rn.ahead
    by_cases e : (L.getD i Rn.rn0).2.1 = (L.getD j Rn.rn0).2.1
    · rw [if_pos e, decide_eq_decide]; omega
    · rw [if_neg e, decide_eq_decide]; omega
  rw [ha]
  clear ha
  generalize (L.getD i Rn.rn0).1 = x0 at *
  generalize (L.getD i Rn.rn0).2.1 = x1 at *
  generalize (L.getD i Rn.rn0).2.2 = x2 at *
  generalize (L.getD j Rn.rn0).1 = y0 at *
  generalize (L.getD j Rn.rn0).2.1 = y1 at *
  generalize (L.getD j Rn.rn0).2.2 = y2 at *
  generalize L.length = n at *
  have i0 : (0 : Int) ≤ (i : Int) := by omega
  have j0 : (0 : Int) ≤ (j : Int) := by omega
  have i1 : (i : Int) < (n : Int) := by omega
  have j1 : (j : Int) < (n : Int) := by omega
  clear hc h
  by_cases e : x1 = y1
  · rw [if_pos e]
    have e1 : (x1 != y1) = false := by simp [e]
    clear e
    go_enter Try.func30, Try.ntmps30
    go_wp2_with fail
    go_quiet (fail)
    go_wp2_with fail
    go_quiet (fail)
    go_wp2_with fail
    go_ret
    exact ⟨rfl, (by repeat (first | assumption | exact Below.refl _ _ | refine below_drewN ?_ _ | refine below_alloc ?_ _ | refine below_then ?_ (by assumption)))⟩
  · rw [if_neg e]
    have e1 : (x1 != y1) = true := by simp [e]
    clear e
    go_enter Try.func30, Try.ntmps30
    go_wp2_with fail
    go_quiet (fail)
    go_wp2_with fail
    go_quiet (fail)
    go_wp2_with fail
    go_ret
    exact ⟨rfl, (by repeat (first | assumption | exact Below.refl _ _ | refine below_drewN ?_ _ | refine below_alloc ?_ _ | refine below_then ?_ (by assumption)))⟩
set_option maxRecDepth 100000 in
theorem len_any (h : IsG w P v L) : Calls Try.prog 70 #[v] w (Still (.int .i64 L.length) w) := by
  obtain ⟨ao, b, off, cap, rfl, hle, hm, ha, hc⟩ := h.row.cell
  unfold maxLen at hm
  generalize L.length = n at *
  clear ha hc h
  go_enter Try.func70, Try.ntmps70
  go_wp2_with fail
  go_ret
  exact ⟨rfl, rfl⟩
end Pg
end Go.Proofs.Ytbheabjemaaeoab
