/- The order of sleepers, and timer's pile: a row of them behind a pointer. -/
import Derived.Test.YtinlbenifmcgaaaGRow
import Derived.Test.YtinlbenifmcgaaaHeapUp
import Derived.Deep.RegionLaw
import Derived.Deep.RegionHeld3
import Derived.Deep.RegionWith
import Derived.StillTailTactics
import Derived.RegionTactic
namespace Go.Proofs.Ytinlbenifmcgaaa
open Go.RowKit Go.Lib Fx Ho Gr
set_option linter.unusedVariables false
abbrev Sl := Int × Int × Int
namespace Sl
def sl0 : Sl := (0, 0, 0)
/-- Is x ahead of y: an earlier time; of one time, the one that came first. -/
def ahead (x y : Sl) : Bool := decide (x.1 < y.1 ∨ x.1 = y.1 ∧ x.2.2 < y.2.2)
theorem ahead_ord : Hm.Ord ahead := ⟨fun a b h => by unfold ahead at *; rw [decide_eq_true_iff] at h; rw [decide_eq_false_iff_not]; omega, fun a b c h k => by unfold ahead at *; rw [decide_eq_false_iff_not] at *; omega⟩
end Sl
namespace Pt
open Hm
def sc : List Sl → List Value
  | [] => []
  | s :: r => .int .i64 s.1 :: .int .i64 s.2.1 :: .int .i64 s.2.2 :: sc r
theorem sc_len : ∀ L : List Sl, (sc L).length = L.length * 3
  | [] => rfl
  | s :: r => by
    have := sc_len r
    show (sc r).length + 1 + 1 + 1 = (r.length + 1) * 3
    omega
theorem sc_one : ∀ L : List Sl, ∀ u ∈ sc L, u.oneCell' = true
  | [], u, h => by cases h
  | s :: r, u, h => by
    have h2 : u ∈ (Value.int .i64 s.1) :: (Value.int .i64 s.2.1) :: (Value.int .i64 s.2.2) :: sc r := h
    simp only [List.mem_cons] at h2
    rcases h2 with rfl | rfl | rfl | h2
    · rfl
    · rfl
    · rfl
    · exact sc_one r u h2
theorem sc_app : ∀ A B : List Sl, sc (A ++ B) = sc A ++ sc B
  | [], B => rfl
  | s :: r, B => by
    show _ :: _ :: _ :: sc (r ++ B) = _ :: _ :: _ :: (sc r ++ sc B)
    rw [sc_app r B]
theorem sc_take : ∀ (k : Nat) (L : List Sl), (sc L).take (k * 3) = sc (L.take k)
  | 0, L => by simp [sc]
  | k + 1, [] => by simp [sc]
  | k + 1, s :: r => by
    rw [show (k + 1) * 3 = k * 3 + 1 + 1 + 1 by omega]
    show _ :: _ :: _ :: (sc r).take (k * 3) = _ :: _ :: _ :: sc (r.take k)
    rw [sc_take k r]
theorem sc_get : ∀ (L : List Sl) (i : Nat), i < L.length → (sc L)[i * 3]? = some (.int .i64 (L.getD i Sl.sl0).1) ∧ (sc L)[i * 3 + 1]? = some (.int .i64 (L.getD i Sl.sl0).2.1) ∧ (sc L)[i * 3 + 2]? = some (.int .i64 (L.getD i Sl.sl0).2.2)
  | [], i, h => by simp at h
  | s :: r, 0, h => ⟨rfl, rfl, rfl⟩
  | s :: r, i + 1, h => by
    have := sc_get r i (by simpa using h)
    rw [show (i + 1) * 3 = i * 3 + 1 + 1 + 1 by omega]
    exact this
theorem sc_set : ∀ (L : List Sl) (i : Nat) (x : Sl), i < L.length → (((sc L).set (i * 3) (.int .i64 x.1)).set (i * 3 + 1) (.int .i64 x.2.1)).set (i * 3 + 2) (.int .i64 x.2.2) = sc (L.set i x)
  | [], i, x, h => by simp at h
  | s :: r, 0, x, h => rfl
  | s :: r, i + 1, x, h => by
    have := sc_set r i x (by simpa using h)
    rw [show (i + 1) * 3 = i * 3 + 1 + 1 + 1 by omega]
    show _ :: _ :: _ :: (((sc r).set (i * 3) _).set (i * 3 + 1) _).set (i * 3 + 2) _ = _ :: _ :: _ :: sc (r.set i x)
    rw [this]
def sv (x : Sl) : Value := .agg #[.int .i64 x.1, .int .i64 x.2.1, .int .i64 x.2.2]
set_option maxRecDepth 100000 in
theorem before_any (x y : Sl) (w : World) : Calls Try.prog 29 #[sv x, sv y] w fun e w' => e = .returned (.bool (Sl.ahead x y)) ∧ Below w.heap.size w w' := by
  obtain ⟨a, g, o⟩ := x
  obtain ⟨b, h, q⟩ := y
  unfold sv
  by_cases h1 : a = b
  · have e : Sl.ahead (a, g, o) (b, h, q) = decide (o < q) := by
      unfold Sl.ahead
      subst h1
      by_cases h2 : o < q <;> simp [h2]
    rw [e]
    subst h1
    go_enter Try.func29, Try.ntmps29
    go_wp2_with fail
    go_ret
    exact ⟨rfl, (by repeat (first | assumption | exact Below.refl _ _ | refine below_drewN ?_ _ | refine below_alloc ?_ _ | refine below_then ?_ (by assumption)))⟩
  · have e : Sl.ahead (a, g, o) (b, h, q) = decide (a < b) := by
      unfold Sl.ahead
      by_cases h2 : a < b <;> simp [h1, h2]
    rw [e]
    go_enter Try.func29, Try.ntmps29
    go_wp2_with fail
    go_ret
    exact ⟨rfl, (by repeat (first | assumption | exact Below.refl _ _ | refine below_drewN ?_ _ | refine below_alloc ?_ _ | refine below_then ?_ (by assumption)))⟩
theorem meth_emb {nm : String} {f : FuncId} (hf : ∃ m, (∀ w, (typeInfo 57).run Try.prog w = .ok m w) ∧ ∃ r, m.methods.find? (·.name == nm) = some r ∧ r.func = some (f, false) ∧ ∀ (p : Nat) (w : World), (follow r.path.toList 57 (.val (.pointer (some ⟨p, 0, none⟩)))).run Try.prog w = .ok (51, .var ⟨p, 0, none⟩) w) (n : Nat) (p : Nat) (v : Value) (w : World) (h : w.cell? ⟨p, 0, none⟩ = some v) : (method (n + 1) 57 (.pointer (some ⟨p, 0, none⟩)) nm).run Try.prog w = .ok (f, v) w := by
  obtain ⟨m, h1, r, h2, h4, h5⟩ := hf
  have u : (underlying 51).run Try.prog w = .ok (.slice 59) w := rfl
  have g : (isAgg 51).run Try.prog w = .ok false w := rfl
  unfold method
  simp [h1, h2, h4, h5 p w, receiverAt, Place.get, loadVar, u, g, h]
theorem meth_len (p : Nat) (v : Value) (w : World) (h : w.cell? ⟨p, 0, none⟩ = some v) (n : Nat) (hn : 0 < n) : (method n 57 (.pointer (some ⟨p, 0, none⟩)) "Len").run Try.prog w = .ok (21, v) w := by
  obtain ⟨k, rfl⟩ : ∃ k, n = k + 1 := ⟨n - 1, by omega⟩
  exact meth_emb ⟨_, fun _ => rfl, _, rfl, rfl, fun _ _ => by kernel_rfl⟩ k p v w h
theorem meth_less (p : Nat) (v : Value) (w : World) (h : w.cell? ⟨p, 0, none⟩ = some v) (n : Nat) (hn : 0 < n) : (method n 57 (.pointer (some ⟨p, 0, none⟩)) "Less").run Try.prog w = .ok (65, v) w := by
  obtain ⟨k, rfl⟩ : ∃ k, n = k + 1 := ⟨n - 1, by omega⟩
  exact meth_emb ⟨_, fun _ => rfl, _, rfl, rfl, fun _ _ => by kernel_rfl⟩ k p v w h
theorem meth_swap (p : Nat) (v : Value) (w : World) (h : w.cell? ⟨p, 0, none⟩ = some v) (n : Nat) (hn : 0 < n) : (method n 57 (.pointer (some ⟨p, 0, none⟩)) "Swap").run Try.prog w = .ok (66, v) w := by
  obtain ⟨k, rfl⟩ : ∃ k, n = k + 1 := ⟨n - 1, by omega⟩
  exact meth_emb ⟨_, fun _ => rfl, _, rfl, rfl, fun _ _ => by kernel_rfl⟩ k p v w h
theorem meth_pop (a : Addr) (w : World) (n : Nat) (hn : 0 < n) : (method n 57 (.pointer (some a)) "Pop").run Try.prog w = .ok (67, .pointer (some a)) w := by
  obtain ⟨k, rfl⟩ : ∃ k, n = k + 1 := ⟨n - 1, by omega⟩
  kernel_rfl
theorem meth_push (a : Addr) (w : World) (n : Nat) (hn : 0 < n) : (method n 57 (.pointer (some a)) "Push").run Try.prog w = .ok (68, .pointer (some a)) w := by
  obtain ⟨k, rfl⟩ : ∃ k, n = k + 1 := ⟨n - 1, by omega⟩
  kernel_rfl
variable {w w' : World} {p : Nat} {v : Value} {L : List Sl}
/-- Where the i-th lies. -/
theorem at_i (h : GRow 3 w v L.length (sc L)) {i : Nat} (hi : i < L.length) : ∃ b off cap, v = .slice (some ⟨b, off, none⟩) L.length cap ∧ L.length ≤ cap ∧ cap ≤ 9223372036854775807 ∧ b < w.heap.size ∧ ∀ j, j < L.length → (w.cell? ⟨b, off + j * 3, none⟩ = some (.int .i64 (L.getD j Sl.sl0).1) ∧ w.cell? ⟨b, off + j * 3 + 1, none⟩ = some (.int .i64 (L.getD j Sl.sl0).2.1) ∧ w.cell? ⟨b, off + j * 3 + 2, none⟩ = some (.int .i64 (L.getD j Sl.sl0).2.2)) ∧ w.frozen? ⟨b, off + j * 3, none⟩ = false ∧ w.frozen? ⟨b, off + j * 3 + 1, none⟩ = false ∧ w.frozen? ⟨b, off + j * 3 + 2, none⟩ = false := by
  obtain ⟨ao, b, off, cap, rfl, hle, hm, ha, hc⟩ := h.cell
  unfold maxLen at hm
  obtain ⟨rfl, hb, _⟩ := ha (by omega)
  refine ⟨b, off, cap, rfl, hle, by omega, hb, fun j hj => ?_⟩
  obtain ⟨g0, g1, g2⟩ := sc_get L j hj
  have k0 := hc _ _ g0
  have k1 := hc _ _ g1
  have k2 := hc _ _ g2
  rw [← Nat.add_assoc] at k1 k2
  exact ⟨⟨k0.1, k1.1, k2.1⟩, k0.2, k1.2, k2.2⟩
set_option maxRecDepth 100000 in
theorem less_any (h : GRow 3 w v L.length (sc L)) {i j : Nat} (hi : i < L.length) (hj : j < L.length) : Calls Try.prog 65 #[v, .int .i64 i, .int .i64 j] w fun e w' => e = .returned (.bool (Sl.ahead (L.getD i Sl.sl0) (L.getD j Sl.sl0))) ∧ Below w.heap.size w w' := by
  have cb := fun w => before_any (L.getD i Sl.sl0) (L.getD j Sl.sl0) w
  obtain ⟨b, off, cap, rfl, hle, hm, hbl, hc⟩ := at_i h hi
  obtain ⟨⟨c0, c1, c2⟩, _⟩ := hc i hi
  obtain ⟨⟨d0, d1, d2⟩, _⟩ := hc j hj
  generalize Sl.ahead (L.getD i Sl.sl0) (L.getD j Sl.sl0) = r at *
  unfold sv at cb
  generalize (L.getD i Sl.sl0).1 = x0 at *
  generalize (L.getD i Sl.sl0).2.1 = x1 at *
  generalize (L.getD i Sl.sl0).2.2 = x2 at *
  generalize (L.getD j Sl.sl0).1 = y0 at *
  generalize (L.getD j Sl.sl0).2.1 = y1 at *
  generalize (L.getD j Sl.sl0).2.2 = y2 at *
  generalize L.length = n at *
  clear hc h
  have hbd : Below w.heap.size w w.drew := (Below.refl _ _).drew
  go_enter Try.func65, Try.ntmps65
  go_wp2_with fail
  go_region_held3 (fun W' => W'.cell? ⟨b, off + i * 3, none⟩ = some (.int .i64 x0) ∧ W'.cell? ⟨b, off + i * 3 + 1, none⟩ = some (.int .i64 x1) ∧ W'.cell? ⟨b, off + i * 3 + 2, none⟩ = some (.int .i64 x2) ∧ W'.cell? ⟨b, off + j * 3, none⟩ = some (.int .i64 y0) ∧ W'.cell? ⟨b, off + j * 3 + 1, none⟩ = some (.int .i64 y1) ∧ W'.cell? ⟨b, off + j * 3 + 2, none⟩ = some (.int .i64 y2)) (first | exact ⟨c0, c1, c2, d0, d1, d2⟩ | go_keep | assumption | (go_split_ands; exact ⟨cell_then (by assumption) (by assumption), cell_then (by assumption) (by assumption), cell_then (by assumption) (by assumption), cell_then (by assumption) (by assumption), cell_then (by assumption) (by assumption), cell_then (by assumption) (by assumption)⟩)) ((go_at_call 29; ((with_reducible refine (cb _).mono ?_); rintro e wy ⟨rfl, hky⟩)))
  all_goals
    go_wp2_with fail
    go_ret
    exact ⟨rfl, (by repeat (first | assumption | exact Below.refl _ _ | refine below_drewN ?_ _ | refine below_alloc ?_ _ | refine below_then ?_ (by assumption)))⟩
set_option maxRecDepth 100000 in
theorem len_any (h : GRow 3 w v L.length (sc L)) : Calls Try.prog 21 #[v] w (Still (.int .i64 L.length) w) := by
  obtain ⟨ao, b, off, cap, rfl, hle, hm, ha, hc⟩ := h.cell
  unfold maxLen at hm
  generalize L.length = n at *
  clear ha hc h
  go_enter Try.func21, Try.ntmps21
  go_wp2_with fail
  go_ret
  exact ⟨rfl, rfl⟩
end Pt
end Go.Proofs.Ytinlbenifmcgaaa
