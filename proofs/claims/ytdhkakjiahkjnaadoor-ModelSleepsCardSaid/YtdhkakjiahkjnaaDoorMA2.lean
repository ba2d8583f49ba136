import Derived.Test.YtdhkakjiahkjnaaDoorMA1
import Derived.Deep.RegionLaw
import Derived.Deep.RegionHeld3
import Derived.Deep.RegionWith
import Derived.StillTailTactics
import Derived.RegionTactic
import Derived.OwnWalk
import Derived.Deep.LoopGhost
/- The order of sleepers, and timer's pile: a row of them behind a pointer. -/
namespace Go.Proofs.YtdhkakjiahkjnaaDoor
open Go.RowKit Go.Lib Fx Ho Gr
set_option linter.unusedVariables false
abbrev Sl := Int × Int × Int
namespace Sl
def sl0 : Sl := (0, 0, 0)
/-- Is x ahead of y: an earlier time; of one time, the one that came first. -/
def ahead (x y : Sl) : Bool := decide (x.1 < y.1 ∨ x.1 = y.1 ∧ x.2.2 < y.2.2)
theorem ahead_ord : Hm.Ord ahead := ⟨fun a b h => by unfold ahead at *; rw [decide_eq_true_iff] at h; rw [decide_eq_false_iff_not]; omega, fun a b c h k => by unfold ahead at *; rw [decide_eq_false_iff_not] at *; omega⟩
end Sl
namespace Pt
open Hm
def sc : List Sl → List Value
  | [] => []
  | s :: r => .int .i64 s.1 :: .int .i64 s.2.1 :: .int .i64 s.2.2 :: sc r
theorem sc_len : ∀ L : List Sl, (sc L).length = L.length * 3
  | [] => rfl
  | s :: r => by
    have := sc_len r
    show (sc r).length + 1 + 1 + 1 = (r.length + 1) * 3
    omega
theorem sc_one : ∀ L : List Sl, ∀ u ∈ sc L, u.oneCell' = true
  | [], u, h => by cases h
  | s :: r, u, h => by
    have h2 : u ∈ (Value.int .i64 s.1) :: (Value.int .i64 s.2.1) :: (Value.int .i64 s.2.2) :: sc r := h
    simp only [List.mem_cons] at h2
    rcases h2 with rfl | rfl | rfl | h2
    · rfl
    · rfl
    · rfl
    · exact sc_one r u h2
theorem sc_app : ∀ A B : List Sl, sc (A ++ B) = sc A ++ sc B
  | [], B => rfl
  | s :: r, B => by
    show _ :: _ :: _ :: sc (r ++ B) = _ :: _ :: _ :: (sc r ++ sc B)
    rw [sc_app r B]
theorem sc_take : ∀ (k : Nat) (L : List Sl), (sc L).take (k * 3) = sc (L.take k)
  | 0, L => by simp [sc]
  | k + 1, [] => by simp [sc]
  | k + 1, s :: r => by
    rw [show (k + 1) * 3 = k * 3 + 1 + 1 + 1 by omega]
    show _ :: _ :: _ :: (sc r).take (k * 3) = _ :: _ :: _ :: sc (r.take k)
    rw [sc_take k r]
theorem sc_get : ∀ (L : List Sl) (i : Nat), i < L.length → (sc L)[i * 3]? = some (.int .i64 (L.getD i Sl.sl0).1) ∧ (sc L)[i * 3 + 1]? = some (.int .i64 (L.getD i Sl.sl0).2.1) ∧ (sc L)[i * 3 + 2]? = some (.int .i64 (L.getD i Sl.sl0).2.2)
  | [], i, h => by simp at h
  | s :: r, 0, h => ⟨rfl, rfl, rfl⟩
  | s :: r, i + 1, h => by
    have := sc_get r i (by simpa using h)
    rw [show (i + 1) * 3 = i * 3 + 1 + 1 + 1 by omega]
    exact this
theorem sc_set : ∀ (L : List Sl) (i : Nat) (x : Sl), i < L.length → (((sc L).set (i * 3) (.int .i64 x.1)).set (i * 3 + 1) (.int .i64 x.2.1)).set (i * 3 + 2) (.int .i64 x.2.2) = sc (L.set i x)
  | [], i, x, h => by simp at h
  | s :: r, 0, x, h => rfl
  | s :: r, i + 1, x, h => by
    have := sc_set r i x (by simpa using h)
    rw [show (i + 1) * 3 = i * 3 + 1 + 1 + 1 by omega]
    show _ :: _ :: _ :: (((sc r).set (i * 3) _).set (i * 3 + 1) _).set (i * 3 + 2) _ = _ :: _ :: _ :: sc (r.set i x)
    rw [this]
def sv (x : Sl) : Value := .agg #[.int .i64 x.1, .int .i64 x.2.1, .int .i64 x.2.2]
set_option maxRecDepth 100000 in
theorem before_any (x y : Sl) (w : World) : Calls Tryd.prog 95 #[sv x, sv y] w fun e w' => e = .returned (.bool (Sl.ahead x y)) ∧ Below w.heap.size w w' := by
  obtain ⟨a, g, o⟩ := x
  obtain ⟨b, h, q⟩ := y
  unfold sv
  by_cases h1 : a = b
  · have e : Sl.ahead (a, g, o) (b, h, q) = decide (o < q) := by
      unfold Sl.ahead
      subst h1
      by_cases h2 : o < q <;> simp [h2]
    rw [e]
    subst h1
    go_enter Tryd.func95, Tryd.ntmps95
    go_wp2_with fail
    go_ret
    exact ⟨rfl, (by repeat (first | assumption | exact Below.refl _ _ | refine below_drewN ?_ _ | refine below_alloc ?_ _ | refine below_then ?_ (by assumption)))⟩
  · have e : Sl.ahead (a, g, o) (b, h, q) = decide (a < b) := by
      unfold Sl.ahead
      by_cases h2 : a < b <;> simp [h1, h2]
    rw [e]
    go_enter Tryd.func95, Tryd.ntmps95
    go_wp2_with fail
    go_ret
    exact ⟨rfl, (by repeat (first | assumption | exact Below.refl _ _ | refine below_drewN ?_ _ | refine below_alloc ?_ _ | refine below_then ?_ (by assumption)))⟩
set_option maxRecDepth 100000 in
theorem meth_emb {nm : String} {f : FuncId} (hf : ∃ m, (∀ w, (typeInfo 91).run Tryd.prog w = .ok m w) ∧ ∃ r, m.methods.find? (·.name == nm) = some r ∧ r.func = some (f, false) ∧ ∀ (p : Nat) (w : World), (follow r.path.toList 91 (.val (.pointer (some ⟨p, 0, none⟩)))).run Tryd.prog w = .ok (80, .var ⟨p, 0, none⟩) w) (n : Nat) (p : Nat) (v : Value) (w : World) (h : w.cell? ⟨p, 0, none⟩ = some v) : (method (n + 1) 91 (.pointer (some ⟨p, 0, none⟩)) nm).run Tryd.prog w = .ok (f, v) w := by
  obtain ⟨m, h1, r, h2, h4, h5⟩ := hf
  have u : (underlying 80).run Tryd.prog w = .ok (.slice 88) w := rfl
  have g : (isAgg 80).run Tryd.prog w = .ok false w := rfl
  unfold method
  simp [h1, h2, h4, h5 p w, receiverAt, Place.get, loadVar, u, g, h]
set_option maxRecDepth 100000 in
theorem meth_len (p : Nat) (v : Value) (w : World) (h : w.cell? ⟨p, 0, none⟩ = some v) (n : Nat) (hn : 0 < n) : (method n 91 (.pointer (some ⟨p, 0, none⟩)) "Len").run Tryd.prog w = .ok (31, v) w := by
  obtain ⟨k, rfl⟩ : ∃ k, n = k + 1 := ⟨n - 1, by omega⟩
  exact meth_emb ⟨_, fun _ => rfl, _, rfl, rfl, fun _ _ => by kernel_rfl⟩ k p v w h
set_option maxRecDepth 100000 in
theorem meth_less (p : Nat) (v : Value) (w : World) (h : w.cell? ⟨p, 0, none⟩ = some v) (n : Nat) (hn : 0 < n) : (method n 91 (.pointer (some ⟨p, 0, none⟩)) "Less").run Tryd.prog w = .ok (93, v) w := by
  obtain ⟨k, rfl⟩ : ∃ k, n = k + 1 := ⟨n - 1, by omega⟩
  exact meth_emb ⟨_, fun _ => rfl, _, rfl, rfl, fun _ _ => by kernel_rfl⟩ k p v w h
set_option maxRecDepth 100000 in
theorem meth_swap (p : Nat) (v : Value) (w : World) (h : w.cell? ⟨p, 0, none⟩ = some v) (n : Nat) (hn : 0 < n) : (method n 91 (.pointer (some ⟨p, 0, none⟩)) "Swap").run Tryd.prog w = .ok (94, v) w := by
  obtain ⟨k, rfl⟩ : ∃ k, n = k + 1 := ⟨n - 1, by omega⟩
  exact meth_emb ⟨_, fun _ => rfl, _, rfl, rfl, fun _ _ => by kernel_rfl⟩ k p v w h
set_option maxRecDepth 100000 in
theorem meth_pop (a : Addr) (w : World) (n : Nat) (hn : 0 < n) : (method n 91 (.pointer (some a)) "Pop").run Tryd.prog w = .ok (96, .pointer (some a)) w := by
  obtain ⟨k, rfl⟩ : ∃ k, n = k + 1 := ⟨n - 1, by omega⟩
  kernel_rfl
set_option maxRecDepth 100000 in
theorem meth_push (a : Addr) (w : World) (n : Nat) (hn : 0 < n) : (method n 91 (.pointer (some a)) "Push").run Tryd.prog w = .ok (97, .pointer (some a)) w := by
  obtain ⟨k, rfl⟩ : ∃ k, n = k + 1 := ⟨n - 1, by omega⟩
  kernel_rfl
variable {w w' : World} {p : Nat} {v : Value} {L : List Sl}
/-- Where the i-th lies. -/
theorem at_i (h : GRow 3 w v L.length (sc L)) {i : Nat} (hi : i < L.length) : ∃ b off cap, v = .slice (some ⟨b, off, none⟩) L.length cap ∧ L.length ≤ cap ∧ cap ≤ 9223372036854775807 ∧ b < w.heap.size ∧ ∀ j, j < L.length → (w.cell? ⟨b, off + j * 3, none⟩ = some (.int .i64 (L.getD j Sl.sl0).1) ∧ w.cell? ⟨b, off + j * 3 + 1, none⟩ = some (.int .i64 (L.getD j Sl.sl0).2.1) ∧ w.cell? ⟨b, off + j * 3 + 2, none⟩ = some (.int .i64 (L.getD j Sl.sl0).2.2)) ∧ w.frozen? ⟨b, off + j * 3, none⟩ = false ∧ w.frozen? ⟨b, off + j * 3 + 1, none⟩ = false ∧ w.frozen? ⟨b, off + j * 3 + 2, none⟩ = false := by
  obtain ⟨ao, b, off, cap, rfl, hle, hm, ha, hc⟩ := h.cell
  unfold maxLen at hm
  obtain ⟨rfl, hb, _⟩ := ha (by omega)
  refine ⟨b, off, cap, rfl, hle, by omega, hb, fun j hj => ?_⟩
  obtain ⟨g0, g1, g2⟩ := sc_get L j hj
  have k0 := hc _ _ g0
  have k1 := hc _ _ g1
  have k2 := hc _ _ g2
  rw [← Nat.add_assoc] at k1 k2
  exact ⟨⟨k0.1, k1.1, k2.1⟩, k0.2, k1.2, k2.2⟩
set_option maxRecDepth 100000 in
theorem less_any (h : GRow 3 w v L.length (sc L)) {i j : Nat} (hi : i < L.length) (hj : j < L.length) : Calls Tryd.prog 93 #[v, .int .i64 i, .int .i64 j] w fun e w' => e = .returned (.bool (Sl.ahead (L.getD i Sl.sl0) (L.getD j Sl.sl0))) ∧ Below w.heap.size w w' := by
  have cb := fun w => before_any (L.getD i Sl.sl0) (L.getD j Sl.sl0) w
  obtain ⟨b, off, cap, rfl, hle, hm, hbl, hc⟩ := at_i h hi
  obtain ⟨⟨c0, c1, c2⟩, _⟩ := hc i hi
  obtain ⟨⟨d0, d1, d2⟩, _⟩ := hc j hj
  generalize Sl.ahead (L.getD i Sl.sl0) (L.getD j Sl.sl0) = r at *
  unfold sv at cb
  generalize (L.getD i Sl.sl0).1 = x0 at *
  generalize (L.getD i Sl.sl0).2.1 = x1 at *
  generalize (L.getD i Sl.sl0).2.2 = x2 at *
  generalize (L.getD j Sl.sl0).1 = y0 at *
  generalize (L.getD j Sl.sl0).2.1 = y1 at *
  generalize (L.getD j Sl.sl0).2.2 = y2 at *
  generalize L.length = n at *
  clear hc h
  have hbd : Below w.heap.size w w.drew := (Below.refl _ _).drew
  go_enter Tryd.func93, Tryd.ntmps93
  go_wp2_with fail
  go_region_held3 (fun W' => W'.cell? ⟨b, off + i * 3, none⟩ = some (.int .i64 x0) ∧ W'.cell? ⟨b, off + i * 3 + 1, none⟩ = some (.int .i64 x1) ∧ W'.cell? ⟨b, off + i * 3 + 2, none⟩ = some (.int .i64 x2) ∧ W'.cell? ⟨b, off + j * 3, none⟩ = some (.int .i64 y0) ∧ W'.cell? ⟨b, off + j * 3 + 1, none⟩ = some (.int .i64 y1) ∧ W'.cell? ⟨b, off + j * 3 + 2, none⟩ = some (.int .i64 y2)) (first | exact ⟨c0, c1, c2, d0, d1, d2⟩ | go_keep | assumption | (go_split_ands; exact ⟨cell_then (by assumption) (by assumption), cell_then (by assumption) (by assumption), cell_then (by assumption) (by assumption), cell_then (by assumption) (by assumption), cell_then (by assumption) (by assumption), cell_then (by assumption) (by assumption)⟩)) ((go_at_call 95; ((with_reducible refine (cb _).mono ?_); rintro e wy ⟨rfl, hky⟩)))
  all_goals
    go_wp2_with fail
    go_ret
    exact ⟨rfl, (by repeat (first | assumption | exact Below.refl _ _ | refine below_drewN ?_ _ | refine below_alloc ?_ _ | refine below_then ?_ (by assumption)))⟩
set_option maxRecDepth 100000 in
theorem len_any (h : GRow 3 w v L.length (sc L)) : Calls Tryd.prog 31 #[v] w (Still (.int .i64 L.length) w) := by
  obtain ⟨ao, b, off, cap, rfl, hle, hm, ha, hc⟩ := h.cell
  unfold maxLen at hm
  generalize L.length = n at *
  clear ha hc h
  go_enter Tryd.func31, Tryd.ntmps31
  go_wp2_with fail
  go_ret
  exact ⟨rfl, rfl⟩
end Pt
end Go.Proofs.YtdhkakjiahkjnaaDoor
/- Two sleepers in each other's place. -/
namespace Go.Proofs.YtdhkakjiahkjnaaDoor
open Go.RowKit Go.Lib Fx Ho Gr
set_option linter.unusedVariables false
namespace Pt
open Hm
variable {w w' : World} {p : Nat} {v : Value} {L : List Sl}
theorem wr1 (w : World) (b o : Nat) (u : Value) : Wrote (fun k => k = b) w (fun k => k = b) (w.setCell ⟨b, o, none⟩ u) := wrote_setCell (a := ⟨b, o, none⟩) rfl rfl (by simp) rfl rfl
/-- One element is another one. -/
theorem set3 {b off cap n i : Nat} {M : List Sl} (x : Sl) (h : GRow 3 w (.slice (some ⟨b, off, none⟩) n cap) n (sc M)) (hn : M.length = n) (hi : i < n) :
    GRow 3 (((w.setCell ⟨b, off + i * 3, none⟩ (.int .i64 x.1)).setCell ⟨b, off + i * 3 + 1, none⟩ (.int .i64 x.2.1)).setCell ⟨b, off + i * 3 + 2, none⟩ (.int .i64 x.2.2)) (.slice (some ⟨b, off, none⟩) n cap) n (sc (M.set i x)) ∧
    Wrote (fun k => k = b) w (fun k => k = b) (((w.setCell ⟨b, off + i * 3, none⟩ (.int .i64 x.1)).setCell ⟨b, off + i * 3 + 1, none⟩ (.int .i64 x.2.1)).setCell ⟨b, off + i * 3 + 2, none⟩ (.int .i64 x.2.2)) := by
  have h0 := h.set (u := .int .i64 x.1) (j := i * 3) (by omega)
  have h2 := h0.set (u := .int .i64 x.2.1) (j := i * 3 + 1) (by omega)
  have h1 := h2.set (u := .int .i64 x.2.2) (j := i * 3 + 2) (by omega)
  rw [sc_set M i x (by omega)] at h1
  simp only [← Nat.add_assoc] at h1
  exact ⟨h1, ((wr1 w b (off + i * 3) (.int .i64 x.1)).trans (wr1 _ b (off + i * 3 + 1) (.int .i64 x.2.1))).trans (wr1 _ b (off + i * 3 + 2) (.int .i64 x.2.2))⟩
theorem swp3 {b off cap n i j : Nat} {x y : Sl} (h : GRow 3 w (.slice (some ⟨b, off, none⟩) n cap) n (sc L)) (hn : L.length = n) (hx : L.getD i Sl.sl0 = x) (hy : L.getD j Sl.sl0 = y) (hi : i < n) (hj : j < n) (k : Nat) :
    GRow 3 (((((((w.setCell ⟨b, off + i * 3, none⟩ (.int .i64 y.1)).setCell ⟨b, off + i * 3 + 1, none⟩ (.int .i64 y.2.1)).setCell ⟨b, off + i * 3 + 2, none⟩ (.int .i64 y.2.2)).setCell ⟨b, off + j * 3, none⟩ (.int .i64 x.1)).setCell ⟨b, off + j * 3 + 1, none⟩ (.int .i64 x.2.1)).setCell ⟨b, off + j * 3 + 2, none⟩ (.int .i64 x.2.2)).drewN k) (.slice (some ⟨b, off, none⟩) n cap) n (sc (swp Sl.sl0 L i j)) ∧
    Wrote (fun k => k = b) w (fun k => k = b) (((((((w.setCell ⟨b, off + i * 3, none⟩ (.int .i64 y.1)).setCell ⟨b, off + i * 3 + 1, none⟩ (.int .i64 y.2.1)).setCell ⟨b, off + i * 3 + 2, none⟩ (.int .i64 y.2.2)).setCell ⟨b, off + j * 3, none⟩ (.int .i64 x.1)).setCell ⟨b, off + j * 3 + 1, none⟩ (.int .i64 x.2.1)).setCell ⟨b, off + j * 3 + 2, none⟩ (.int .i64 x.2.2)).drewN k) := by
  obtain ⟨h1, w1⟩ := set3 y h hn hi
  obtain ⟨h2, w2⟩ := set3 x h1 (by rw [List.length_set]; exact hn) hj
  unfold swp
  rw [hx, hy]
  exact ⟨h2.below (below_drewN (Below.refl _ _) k), (w1.trans w2).drewN k⟩
set_option maxRecDepth 100000 in
set_option maxHeartbeats 4000000 in
theorem swap_any (h : GRow 3 w v L.length (sc L)) {i j : Nat} (hi : i < L.length) (hj : j < L.length) : Calls Tryd.prog 94 #[v, .int .i64 i, .int .i64 j] w (fun e w' => e = .returned (.tuple #[]) ∧ GRow 3 w' v L.length (sc (swp Sl.sl0 L i j)) ∧ Wrote (fun k => v.ownBlock = some k) w (fun k => v.ownBlock = some k) w') := by
  have h0 := h
  obtain ⟨b, off, cap, rfl, hle, hm, hbl, hc⟩ := at_i h hi
  obtain ⟨⟨c0, c1, c2⟩, f0, f1, f2⟩ := hc i hi
  obtain ⟨⟨d0, d1, d2⟩, g0, g1, g2⟩ := hc j hj
  have hfin := Lib.hid (swp3 h0 rfl rfl rfl hi hj 1)
  have hown : Hid (∀ W, Wrote (fun k => k = b) w (fun k => k = b) W → Wrote (fun k => (Value.slice (some ⟨b, off, none⟩) L.length cap).ownBlock = some k) w (fun k => (Value.slice (some ⟨b, off, none⟩) L.length cap).ownBlock = some k) W) := Lib.hid fun W h => ⟨h.os, h.tape, h.output, h.size, fun k hk ho => h.block k hk (fun e => ho (by rw [e]; rfl)), fun k hk => Or.inl hk⟩
  generalize (L.getD i Sl.sl0).1 = x0 at *
  generalize (L.getD i Sl.sl0).2.1 = x1 at *
  generalize (L.getD i Sl.sl0).2.2 = x2 at *
  generalize (L.getD j Sl.sl0).1 = y0 at *
  generalize (L.getD j Sl.sl0).2.1 = y1 at *
  generalize (L.getD j Sl.sl0).2.2 = y2 at *
  generalize L.length = n at *
  clear hc h h0
  by_cases hij : i = j
  · subst hij
    obtain rfl : x0 = y0 := by rw [c0] at d0; cases d0; rfl
    obtain rfl : x1 = y1 := by rw [c1] at d1; cases d1; rfl
    obtain rfl : x2 = y2 := by rw [c2] at d2; cases d2; rfl
    go_enter Tryd.func94, Tryd.ntmps94
    go_wp2_with fail
    go_region
    go_end0
    exact ⟨rfl, hfin.out.1, hown.out _ hfin.out.2⟩
  · go_enter Tryd.func94, Tryd.ntmps94
    go_wp2_with fail
    go_region
    go_end0
    exact ⟨rfl, hfin.out.1, hown.out _ hfin.out.2⟩
end Pt
end Go.Proofs.YtdhkakjiahkjnaaDoor
/- container/heap's down over the pile of sleepers. -/
namespace Go.Proofs.YtdhkakjiahkjnaaDoor
open Go.RowKit Go.Lib Fx Ho Gr
set_option linter.unusedVariables false
namespace Pt
open Hm
variable {w w' : World} {p : Nat} {v : Value} {L ys : List Sl}
/-- The pile at p has the row v, which holds L. -/
structure IsP (w : World) (p : Nat) (v : Value) (L : List Sl) : Prop where
  cell : w.cell? ⟨p, 0, none⟩ = some v
  free : w.frozen? ⟨p, 0, none⟩ = false
  lt : p < w.heap.size
  row : GRow 3 w v L.length (sc L)
  off : v.ownBlock ≠ some p
  small : L.length ≤ 1000
def home (p : Nat) (v : Value) : Home := fun k => v.ownBlock = some k
theorem IsP.below (h : IsP w p v L) (hb : Below w.heap.size w w') : IsP w' p v L :=
  ⟨cell_then hb h.cell, by rw [hb.frozen (p := ⟨p, 0, none⟩) h.lt]; exact h.free, Nat.lt_of_lt_of_le h.lt hb.size, h.row.below hb, h.off, h.small⟩
/-- Two of it in each other's place. -/
theorem IsP.swap (h : IsP w p v L) {i j : Nat} (hi : i < L.length) (hj : j < L.length) (hr : GRow 3 w' v L.length (sc (swp Sl.sl0 L i j))) (hw : Wrote (fun k => v.ownBlock = some k) w (fun k => v.ownBlock = some k) w') : IsP w' p v (swp Sl.sl0 L i j) :=
  ⟨hw.cell h.cell h.off, (by rw [World.frozen?_of_block (a := ⟨p, 0, none⟩) (hw.block p h.lt h.off)]; exact h.free), Nat.lt_of_lt_of_le h.lt hw.size, by rw [swp_len]; exact hr, h.off, by rw [swp_len]; exact h.small⟩
theorem less_p (h : IsP w p v L) {i j : Nat} (hi : i < L.length) (hj : j < L.length) (a b : Int) (ha : a = (i : Int)) (hb : b = (j : Int)) (W : World) (hW : Below w.heap.size w W) : Calls Tryd.prog 93 #[v, .int .i64 a, .int .i64 b] W (AnsB (.bool (Sl.ahead (L.getD i Sl.sl0) (L.getD j Sl.sl0))) W) := by
  subst ha hb
  exact less_any (h.row.below hW) hi hj
theorem swap_p (h : IsP w p v L) {i j : Nat} (hi : i < L.length) (hj : j < L.length) (a b : Int) (ha : a = (i : Int)) (hb : b = (j : Int)) (W : World) (hW : Below w.heap.size w W) : Calls Tryd.prog 94 #[v, .int .i64 a, .int .i64 b] W (fun e w' => e = .returned (.tuple #[]) ∧ Hid (IsP w' p v (swp Sl.sl0 L i j)) ∧ Hid (Wrote (home p v) w (home p v) w')) := by
  subst ha hb
  exact (swap_any (h.row.below hW) hi hj).mono fun e w' ⟨h1, h2, h3⟩ => ⟨h1, Lib.hid ((h.below hW).swap hi hj h2 h3), Lib.hid ((Wrote.of_below hW).trans h3)⟩
-- DOWN
def Downs (w : World) (p : Nat) (v : Value) (L : List Sl) (b n i0 : Nat) (e : Ending) (w' : World) : Prop := ∃ m ys, e = .returned (.bool m) ∧ DownO Sl.sl0 Sl.ahead b n i0 L m ys ∧ IsP w' p v ys ∧ Wrote (home p v) w (home p v) w'
set_option maxRecDepth 100000 in
set_option maxHeartbeats 4000000 in
theorem down_any (h : IsP w p v L) {b n i0 : Nat} (hh : Hole Sl.sl0 Sl.ahead b n i0 L) (hb : b ≤ i0) (hn : n ≤ L.length) (hi0 : i0 ≤ 1000) : Calls Tryd.prog 61 #[.iface 91 (.pointer (some ⟨p, 0, none⟩)), .int .i64 i0, .int .i64 n] w (Downs w p v L b n i0) := by
  have st := Lib.hid (DownI.begin hh hb hn)
  have hs := h.small
  have hn1 : n ≤ 1000 := by omega
  replace h := Lib.hid h
  replace hn := Lib.hid hn
  clear hh hs
  go_enter Tryd.func61, Tryd.ntmps61
  go_wp2_with fail
  go_loopw [7] (fun u wr => ∃ (i : Nat) (ys : List Sl), u = .int .i64 i ∧ i ≤ 1000 ∧ Hid (DownI Sl.sl0 Sl.ahead b n i0 L i ys) ∧ Hid (IsP wr p v ys) ∧ Hid (Wrote (home p v) w (home p v) wr)) (fun u _ => (1000 - (RowKit.intOf u).toNat))
  case atStart => exact ⟨i0, L, rfl, hi0, st, h, Lib.hid (Wrote.of_below (Below.refl _ _))⟩
  case round =>
    clear st h
    obtain ⟨i, ys, rfl, hi, hd, hp, hw⟩ := hrel
    have hny : n ≤ ys.length := by have := hn.out; have := hd.out.len; omega
    have hc := hp.out.cell
    have m1 := fun W (hW : World.cell? W ⟨p, 0, none⟩ = some v) => meth_less p v W hW
    have m2 := fun W (hW : World.cell? W ⟨p, 0, none⟩ = some v) => meth_swap p v W hW
    by_cases h1 : 2 * i + 1 < n
    · by_cases h2 : 2 * i + 2 < n
      · have cf := less_p hp.out (i := 2 * i + 2) (j := 2 * i + 1) (by omega) (by omega)
        cases hf : Sl.ahead (ys.getD (2 * i + 2) Sl.sl0) (ys.getD (2 * i + 1) Sl.sl0) with
        | true =>
          have hsib : ∀ s, s < n → (s = 2 * i + 1 ∨ s = 2 * i + 2) → Sl.ahead (ys.getD s Sl.sl0) (ys.getD (2 * i + 2) Sl.sl0) = false := fun s _ e => by
            rcases e with rfl | rfl
            · exact Sl.ahead_ord.asym _ _ hf
            · exact Hm.irrefl Sl.ahead_ord _
          rw [hf] at cf
          clear hf
          go_wp2_with fail
          with_reducible refine Calls.mono (cf _ _ (by omega) (by omega) _ (by repeat (first | assumption | exact Below.refl _ _ | refine below_drewN ?_ _ | refine below_alloc ?_ _ | refine below_then ?_ (by assumption)))) ?_
          rintro e w2 ⟨rfl, hb2⟩
          have hcx2 := cell_then hb2 hc
          clear cf
          have nx := fun h => Lib.hid (hd.out.step Sl.ahead_ord (j := 2 * i + 2) (by omega) (by omega) h hsib)
          have dn := fun h => Lib.hid (hd.out.done (fun s sn sp => Sl.ahead_ord.trans _ _ _ h (hsib s sn sp)))
          have cl := less_p hp.out (i := 2 * i + 2) (j := i) (by omega) (by omega)
          have cs := swap_p hp.out (i := i) (j := 2 * i + 2) (by omega) (by omega)
          cases hk : Sl.ahead (ys.getD (2 * i + 2) Sl.sl0) (ys.getD i Sl.sl0) with
          | true =>
            rw [hk] at cl
            replace nx := nx hk
            clear dn hsib hk
            go_wp2_with fail
            with_reducible refine Calls.mono (cl _ _ (by omega) (by omega) _ (by repeat (first | assumption | exact Below.refl _ _ | refine below_drewN ?_ _ | refine below_alloc ?_ _ | refine below_then ?_ (by assumption)))) ?_
            rintro e w3 ⟨rfl, hb3⟩
            have hcx3 := cell_then hb3 (by first | exact hcx2 | exact hc)
            clear cl
            go_wp2_with fail
            with_reducible refine Calls.mono (cs _ _ (by omega) (by omega) _ (by repeat (first | assumption | exact Below.refl _ _ | refine below_drewN ?_ _ | refine below_alloc ?_ _ | refine below_then ?_ (by assumption)))) ?_
            rintro e w4 ⟨rfl, hp4, hw4⟩
            clear cs m1 m2 hc hp
            go_wp2_with fail
            go_roundw
            case rel => exact ⟨2 * i + 2, _, by go_num, by omega, nx, hp4, Lib.hid (hw.out.trans hw4.out)⟩
            case measure => simp [RowKit.intOf]; omega
          | false =>
            rw [hk] at cl
            replace dn := dn hk
            clear nx hsib hk cs
            have hii := hd.out.from_
            go_wp2_with fail
            with_reducible refine Calls.mono (cl _ _ (by omega) (by omega) _ (by repeat (first | assumption | exact Below.refl _ _ | refine below_drewN ?_ _ | refine below_alloc ?_ _ | refine below_then ?_ (by assumption)))) ?_
            rintro e w3 ⟨rfl, hb3⟩
            have hcx3 := cell_then hb3 (by first | exact hcx2 | exact hc)
            clear cl m1 m2 hc hd
            go_wp2_with fail
            go_ret
            exact ⟨decide (i0 < i), ys, by first | rfl | (simp; done) | (by_cases hq : i0 < i <;> simp [hq] <;> omega), dn.out, hp.out.below (by repeat (first | assumption | exact Below.refl _ _ | refine below_drewN ?_ _ | refine below_alloc ?_ _ | refine below_then ?_ (by assumption))), hw.out.trans (Wrote.of_below (by repeat (first | assumption | exact Below.refl _ _ | refine below_drewN ?_ _ | refine below_alloc ?_ _ | refine below_then ?_ (by assumption))))⟩
        | false =>
          have hsib : ∀ s, s < n → (s = 2 * i + 1 ∨ s = 2 * i + 2) → Sl.ahead (ys.getD s Sl.sl0) (ys.getD (2 * i + 1) Sl.sl0) = false := fun s _ e => by
            rcases e with rfl | rfl
            · exact Hm.irrefl Sl.ahead_ord _
            · exact hf
          rw [hf] at cf
          clear hf
          go_wp2_with fail
          with_reducible refine Calls.mono (cf _ _ (by omega) (by omega) _ (by repeat (first | assumption | exact Below.refl _ _ | refine below_drewN ?_ _ | refine below_alloc ?_ _ | refine below_then ?_ (by assumption)))) ?_
          rintro e w2 ⟨rfl, hb2⟩
          have hcx2 := cell_then hb2 hc
          clear cf
          have nx := fun h => Lib.hid (hd.out.step Sl.ahead_ord (j := 2 * i + 1) (by omega) (by omega) h hsib)
          have dn := fun h => Lib.hid (hd.out.done (fun s sn sp => Sl.ahead_ord.trans _ _ _ h (hsib s sn sp)))
          have cl := less_p hp.out (i := 2 * i + 1) (j := i) (by omega) (by omega)
          have cs := swap_p hp.out (i := i) (j := 2 * i + 1) (by omega) (by omega)
          cases hk : Sl.ahead (ys.getD (2 * i + 1) Sl.sl0) (ys.getD i Sl.sl0) with
          | true =>
            rw [hk] at cl
            replace nx := nx hk
            clear dn hsib hk
            go_wp2_with fail
            with_reducible refine Calls.mono (cl _ _ (by omega) (by omega) _ (by repeat (first | assumption | exact Below.refl _ _ | refine below_drewN ?_ _ | refine below_alloc ?_ _ | refine below_then ?_ (by assumption)))) ?_
            rintro e w3 ⟨rfl, hb3⟩
            have hcx3 := cell_then hb3 (by first | exact hcx2 | exact hc)
            clear cl
            go_wp2_with fail
            with_reducible refine Calls.mono (cs _ _ (by omega) (by omega) _ (by repeat (first | assumption | exact Below.refl _ _ | refine below_drewN ?_ _ | refine below_alloc ?_ _ | refine below_then ?_ (by assumption)))) ?_
            rintro e w4 ⟨rfl, hp4, hw4⟩
            clear cs m1 m2 hc hp
            go_wp2_with fail
            go_roundw
            case rel => exact ⟨2 * i + 1, _, by go_num, by omega, nx, hp4, Lib.hid (hw.out.trans hw4.out)⟩
            case measure => simp [RowKit.intOf]; omega
          | false =>
            rw [hk] at cl
            replace dn := dn hk
            clear nx hsib hk cs
            have hii := hd.out.from_
            go_wp2_with fail
            with_reducible refine Calls.mono (cl _ _ (by omega) (by omega) _ (by repeat (first | assumption | exact Below.refl _ _ | refine below_drewN ?_ _ | refine below_alloc ?_ _ | refine below_then ?_ (by assumption)))) ?_
            rintro e w3 ⟨rfl, hb3⟩
            have hcx3 := cell_then hb3 (by first | exact hcx2 | exact hc)
            clear cl m1 m2 hc hd
            go_wp2_with fail
            go_ret
            exact ⟨decide (i0 < i), ys, by first | rfl | (simp; done) | (by_cases hq : i0 < i <;> simp [hq] <;> omega), dn.out, hp.out.below (by repeat (first | assumption | exact Below.refl _ _ | refine below_drewN ?_ _ | refine below_alloc ?_ _ | refine below_then ?_ (by assumption))), hw.out.trans (Wrote.of_below (by repeat (first | assumption | exact Below.refl _ _ | refine below_drewN ?_ _ | refine below_alloc ?_ _ | refine below_then ?_ (by assumption))))⟩
      · have hsib : ∀ s, s < n → (s = 2 * i + 1 ∨ s = 2 * i + 2) → Sl.ahead (ys.getD s Sl.sl0) (ys.getD (2 * i + 1) Sl.sl0) = false := fun s sn e => by
          rcases e with rfl | rfl
          · exact Hm.irrefl Sl.ahead_ord _
          · omega
        have nx := fun h => Lib.hid (hd.out.step Sl.ahead_ord (j := 2 * i + 1) (by omega) (by omega) h hsib)
        have dn := fun h => Lib.hid (hd.out.done (fun s sn sp => Sl.ahead_ord.trans _ _ _ h (hsib s sn sp)))
        have cl := less_p hp.out (i := 2 * i + 1) (j := i) (by omega) (by omega)
        have cs := swap_p hp.out (i := i) (j := 2 * i + 1) (by omega) (by omega)
        cases hk : Sl.ahead (ys.getD (2 * i + 1) Sl.sl0) (ys.getD i Sl.sl0) with
        | true =>
          rw [hk] at cl
          replace nx := nx hk
          clear dn hsib hk
          go_wp2_with fail
          with_reducible refine Calls.mono (cl _ _ (by omega) (by omega) _ (by repeat (first | assumption | exact Below.refl _ _ | refine below_drewN ?_ _ | refine below_alloc ?_ _ | refine below_then ?_ (by assumption)))) ?_
          rintro e w3 ⟨rfl, hb3⟩
          have hcx3 := cell_then hb3 (by first | exact hcx2 | exact hc)
          clear cl
          go_wp2_with fail
          with_reducible refine Calls.mono (cs _ _ (by omega) (by omega) _ (by repeat (first | assumption | exact Below.refl _ _ | refine below_drewN ?_ _ | refine below_alloc ?_ _ | refine below_then ?_ (by assumption)))) ?_
          rintro e w4 ⟨rfl, hp4, hw4⟩
          clear cs m1 m2 hc hp
          go_wp2_with fail
          go_roundw
          case rel => exact ⟨2 * i + 1, _, by go_num, by omega, nx, hp4, Lib.hid (hw.out.trans hw4.out)⟩
          case measure => simp [RowKit.intOf]; omega
        | false =>
          rw [hk] at cl
          replace dn := dn hk
          clear nx hsib hk cs
          have hii := hd.out.from_
          go_wp2_with fail
          with_reducible refine Calls.mono (cl _ _ (by omega) (by omega) _ (by repeat (first | assumption | exact Below.refl _ _ | refine below_drewN ?_ _ | refine below_alloc ?_ _ | refine below_then ?_ (by assumption)))) ?_
          rintro e w3 ⟨rfl, hb3⟩
          have hcx3 := cell_then hb3 (by first | exact hcx2 | exact hc)
          clear cl m1 m2 hc hd
          go_wp2_with fail
          go_ret
          exact ⟨decide (i0 < i), ys, by first | rfl | (simp; done) | (by_cases hq : i0 < i <;> simp [hq] <;> omega), dn.out, hp.out.below (by repeat (first | assumption | exact Below.refl _ _ | refine below_drewN ?_ _ | refine below_alloc ?_ _ | refine below_then ?_ (by assumption))), hw.out.trans (Wrote.of_below (by repeat (first | assumption | exact Below.refl _ _ | refine below_drewN ?_ _ | refine below_alloc ?_ _ | refine below_then ?_ (by assumption))))⟩
    · have dn := Lib.hid (hd.out.done (fun s sn sp => by omega))
      have hii := hd.out.from_
      clear m1 m2 hc hd
      go_wp2_with fail
      go_ret
      exact ⟨decide (i0 < i), ys, by first | rfl | (simp; done) | (by_cases hq : i0 < i <;> simp [hq] <;> omega), dn.out, hp.out, hw.out⟩
end Pt
end Go.Proofs.YtdhkakjiahkjnaaDoor
/- container/heap's up over the pile of sleepers; the pile's own Pop and Push. -/
namespace Go.Proofs.YtdhkakjiahkjnaaDoor
open Go.RowKit Go.Lib Fx Ho Gr
set_option linter.unusedVariables false
namespace Pt
open Hm
variable {w w' : World} {p : Nat} {v : Value} {L ys : List Sl}
/-- What up leaves: a heap of the same ones. -/
def Ups (w : World) (p : Nat) (v : Value) (L : List Sl) (e : Ending) (w' : World) : Prop := e = .returned (.tuple #[]) ∧ ∃ M, IsP w' p v M ∧ Ok Sl.sl0 Sl.ahead 0 M.length M ∧ M.Perm L ∧ Wrote (home p v) w (home p v) w'
set_option maxRecDepth 100000 in
set_option maxHeartbeats 4000000 in
theorem up_any (h : IsP w p v L) {n j0 : Nat} (hu : UpI Sl.sl0 Sl.ahead n L j0 L) : Calls Tryd.prog 73 #[.iface 91 (.pointer (some ⟨p, 0, none⟩)), .int .i64 j0] w (Ups w p v L) := by
  have hs := h.small
  have hln := hu.len
  have hj0 := hu.lt
  have hn1 : n ≤ 1000 := by omega
  have hj1 : j0 ≤ 1000 := by omega
  replace h := Lib.hid h
  replace hu := Lib.hid hu
  clear hs hln hj0
  go_enter Tryd.func73, Tryd.ntmps73
  go_wp2_with fail
  go_loopw [1] (fun u wr => ∃ (j : Nat) (ys : List Sl), u = .int .i64 j ∧ j ≤ 1000 ∧ Hid (UpI Sl.sl0 Sl.ahead n L j ys) ∧ Hid (IsP wr p v ys) ∧ Hid (Wrote (home p v) w (home p v) wr)) (fun u _ => (RowKit.intOf u).toNat)
  case atStart => exact ⟨j0, L, rfl, hj1, hu, h, Lib.hid (Wrote.of_below (Below.refl _ _))⟩
  case round =>
    clear hu h
    obtain ⟨j, ys, rfl, hj, hd, hp, hw⟩ := hrel
    have hc := hp.out.cell
    have m1 := fun W (hW : World.cell? W ⟨p, 0, none⟩ = some v) => meth_less p v W hW
    have m2 := fun W (hW : World.cell? W ⟨p, 0, none⟩ = some v) => meth_swap p v W hW
    have hyl := hd.out.len
    have hjn := hd.out.lt
    rcases j with _ | k
    · have dn := Lib.hid (hd.out.done (fun h => by omega))
      have hpm := Lib.hid hd.out.perm
      rw [show ((0 : Nat) : Int) = 0 from rfl]
      clear m1 m2 hc hd
      go_wp2_with fail
      go_end0
      exact ⟨rfl, ys, hp.out, by rw [hyl]; exact dn.out, hpm.out, hw.out⟩
    · obtain ⟨i, hi⟩ : ∃ i, k / 2 = i := ⟨_, rfl⟩
      have hq1 : (k : Int).tdiv 2 = (i : Int) := by rw [Int.tdiv_eq_ediv_of_nonneg (by omega)]; omega
      have hq2 : (k : Int) / 2 = (i : Int) := by omega
      have hne : ¬ (i : Int) = (k : Int) + 1 := by omega
      have cl := less_p hp.out (i := k + 1) (j := i) (by omega) (by omega)
      have cs := swap_p hp.out (i := i) (j := k + 1) (by omega) (by omega)
      have nx := fun h => Lib.hid (hd.out.step Sl.ahead_ord (i := i) (by omega) (by omega) h)
      have dn := fun (h : Sl.ahead (ys.getD (k + 1) Sl.sl0) (ys.getD i Sl.sl0) = false) => Lib.hid (hd.out.done (fun _ => by rw [Nat.add_sub_cancel, hi]; exact h))
      have hpm := Lib.hid hd.out.perm
      have hik : i ≤ k := by omega
      replace hi := Lib.hid hi
      simp only [Int.natCast_add, Int.natCast_one]
      cases hk : Sl.ahead (ys.getD (k + 1) Sl.sl0) (ys.getD i Sl.sl0) with
      | true =>
        rw [hk] at cl
        replace nx := nx hk
        clear dn hk
        go_wp2_with fail
        with_reducible refine Calls.mono (cl _ _ (by omega) (by omega) _ (by repeat (first | assumption | exact Below.refl _ _ | refine below_drewN ?_ _ | refine below_alloc ?_ _ | refine below_then ?_ (by assumption)))) ?_
        rintro e w3 ⟨rfl, hb3⟩
        have hcx3 := cell_then hb3 hc
        clear cl
        go_wp2_with fail
        with_reducible refine Calls.mono (cs _ _ (by omega) (by omega) _ (by repeat (first | assumption | exact Below.refl _ _ | refine below_drewN ?_ _ | refine below_alloc ?_ _ | refine below_then ?_ (by assumption)))) ?_
        rintro e w4 ⟨rfl, hp4, hw4⟩
        clear cs m1 m2 hc hp
        go_wp2_with fail
        go_roundw
        case rel => exact ⟨i, _, by go_num, by omega, nx, hp4, Lib.hid (hw.out.trans hw4.out)⟩
        case measure => simp [RowKit.intOf]; omega
      | false =>
        rw [hk] at cl
        replace dn := dn hk
        clear nx hk cs
        go_wp2_with fail
        with_reducible refine Calls.mono (cl _ _ (by omega) (by omega) _ (by repeat (first | assumption | exact Below.refl _ _ | refine below_drewN ?_ _ | refine below_alloc ?_ _ | refine below_then ?_ (by assumption)))) ?_
        rintro e w3 ⟨rfl, hb3⟩
        clear cl m1 m2 hc hd
        go_wp2_with fail
        go_end0
        exact ⟨rfl, ys, hp.out.below hb3, by rw [hyl]; exact dn.out, hpm.out, hw.out.trans (Wrote.of_below hb3)⟩
end Pt
end Go.Proofs.YtdhkakjiahkjnaaDoor
/- The sleepers behind a Timers: the pile's own Pop and Push, container/heap's Pop and Push. -/
namespace Go.Proofs.YtdhkakjiahkjnaaDoor
open Go.RowKit Go.Lib Fx Ho Gr
set_option linter.unusedVariables false
namespace Pt
open Hm
variable {w w' : World} {p : Nat} {v : Value} {L M ys : List Sl} {n : Int} {H H' : Home}
theorem elt3 : Elt Tryd.prog 80 88 3 24 (.agg #[.int .i64 0, .int .i64 0, .int .i64 0]) := ⟨Tryd.underlying80, by kernel_rfl, rfl, by decide, by decide⟩
/-- Timers at p: the pile L behind the row v, and how many were ever added. -/
structure Tm (w : World) (p : Nat) (v : Value) (L : List Sl) (n : Int) : Prop where
  pile : IsP w p v L
  cnt : w.cell? ⟨p, 1, none⟩ = some (.int .i64 n)
  free1 : w.frozen? ⟨p, 1, none⟩ = false
def home2 (p : Nat) (v : Value) : Home := fun k => k = p ∨ v.ownBlock = some k
theorem Tm.below (h : Tm w p v L n) (hb : Below w.heap.size w w') : Tm w' p v L n :=
  ⟨h.pile.below hb, cell_then hb h.cnt, by rw [hb.frozen (p := ⟨p, 1, none⟩) h.pile.lt]; exact h.free1⟩
theorem Tm.turn (h : Tm w p v L n) (hp : IsP w' p v M) (hw : Wrote (home p v) w (home p v) w') : Tm w' p v M n :=
  ⟨hp, hw.cell h.cnt h.pile.off, by rw [World.frozen?_of_block (a := ⟨p, 1, none⟩) (hw.block p h.pile.lt h.pile.off)]; exact h.free1⟩
theorem wide (hw : Wrote (home p v) w (home p v) w') : Wrote (home2 p v) w (home2 p v) w' :=
  ⟨hw.os, hw.tape, hw.output, hw.size, fun k hk ho => hw.block k hk (fun e => ho (Or.inr e)), fun k hk => Or.inl hk⟩
/-- Another row in its place. -/
theorem Tm.row {v1 : Value} (h : Tm w p v L n) (hr : GRow 3 w v1 M.length (sc M)) (ho : v1.ownBlock ≠ some p) (hs : M.length ≤ 1000) : Tm (w.setCell ⟨p, 0, none⟩ v1) p v1 M n := by
  have w1 : Wrote (fun k => k = p) w (fun k => k = p) (w.setCell ⟨p, 0, none⟩ v1) := wr1 w p 0 v1
  refine ⟨⟨World.cell?_setCell_same _ _ _ h.pile.cell, by rw [World.frozen?_setCell]; exact h.pile.free, Nat.lt_of_lt_of_le h.pile.lt w1.size, hr.wrote w1 (fun k hk e => ho (by rw [← e]; exact hk)), ho, hs⟩, ?_, by rw [World.frozen?_setCell]; exact h.free1⟩
  rw [World.cell?_setCell_other _ _ _ _ (show (⟨p, 0, none⟩ : Addr) ≠ ⟨p, 1, none⟩ from fun h => by cases h)]
  exact h.cnt
def Popm (w : World) (p : Nat) (v : Value) (L : List Sl) (n : Int) (x : Sl) (e : Ending) (w' : World) : Prop := e = .returned (.iface 88 (sv x)) ∧ ∃ v', Tm w' p v' L n ∧ Wrote (home2 p v) w (home2 p v') w'
set_option maxRecDepth 100000 in
set_option maxHeartbeats 1000000 in
/-- The pile's own Pop: the last one. -/
theorem popm_any (h : Tm w p v L n) {k : Nat} (hn : L.length = k + 1) : Calls Tryd.prog 96 #[.pointer (some ⟨p, 0, none⟩)] w (Popm w p v (L.take k) n (L.getD k Sl.sl0)) := by
  have h0 := h
  obtain ⟨b, off, cap, rfl, hle, hm, hbl, hc⟩ := at_i h.pile.row (i := k) (by omega)
  obtain ⟨⟨c0, c1, c2⟩, _⟩ := hc k (by omega)
  have hp := h.pile.cell
  have fp := h.pile.free
  have hpl := h.pile.lt
  have hob : b ≠ p := fun e => h.pile.off (by rw [e]; rfl)
  have hlt : (L.take k).length = k := by rw [List.length_take]; omega
  have hfin : Hid (∀ o, Tm ((w.setCell ⟨p, 0, none⟩ (.slice (some ⟨b, off, none⟩) k cap)).alloc o) p (.slice (some ⟨b, off, none⟩) k cap) (L.take k) n ∧ Wrote (home2 p (.slice (some ⟨b, off, none⟩) L.length cap)) w (home2 p (.slice (some ⟨b, off, none⟩) k cap)) ((w.setCell ⟨p, 0, none⟩ (.slice (some ⟨b, off, none⟩) k cap)).alloc o)) := Lib.hid fun o => by
    have r1 := h0.pile.row.take (k := k) (by omega)
    rw [sc_take] at r1
    have t1 := h0.row (v1 := .slice (some ⟨b, off, none⟩) k cap) (M := L.take k) (by rw [hlt]; exact r1) (fun e => hob (Option.some.inj e)) (by rw [hlt]; have := h0.pile.small; omega)
    have hb := below_alloc (Below.refl _ (w.setCell ⟨p, 0, none⟩ (.slice (some ⟨b, off, none⟩) k cap))) o
    have w1 : Wrote (fun k => k = p) w (fun k => k = p) (w.setCell ⟨p, 0, none⟩ (.slice (some ⟨b, off, none⟩) k cap)) := wr1 w p 0 _
    have w2 := w1.trans (Wrote.of_below hb)
    exact ⟨t1.below hb, ⟨w2.os, w2.tape, w2.output, w2.size, fun k hk ho => w2.block k hk (fun e => ho (Or.inl e)), fun k hk => Or.inl hk⟩⟩
  generalize hx : L.getD k Sl.sl0 = x at *
  obtain ⟨x0, x1, x2⟩ := x
  simp only at c0 c1 c2
  generalize hq : L.length = q at *
  subst hn
  generalize L.take k = M at *
  clear hc h h0 hq hx hlt hob
  unfold Popm sv
  go_enter Tryd.func96, Tryd.ntmps96
  go_wp2_with fail
  go_ret
  exact ⟨rfl, _, hfin.out _⟩
end Pt
end Go.Proofs.YtdhkakjiahkjnaaDoor
/- container/heap's Pop and Push over the pile of sleepers. -/
namespace Go.Proofs.YtdhkakjiahkjnaaDoor
open Go.RowKit Go.Lib Fx Ho Gr
set_option linter.unusedVariables false
namespace Pt
open Hm
variable {w w' : World} {p : Nat} {v : Value} {L M ys : List Sl} {n : Int} {H H' : Home} {x : Sl}
theorem len_p (h : IsP w p v L) (W : World) (hW : Below w.heap.size w W) : Calls Tryd.prog 31 #[v] W (Still (.int .i64 L.length) W) := len_any (h.row.below hW)
/-- What heap.Pop leaves: a heap of the others; the first one is told. -/
def Popped (w : World) (p : Nat) (v : Value) (L : List Sl) (n : Int) (e : Ending) (w' : World) : Prop := e = .returned (.iface 88 (sv (L.getD 0 Sl.sl0))) ∧ ∃ v' M, Tm w' p v' M n ∧ Ok Sl.sl0 Sl.ahead 0 M.length M ∧ (L.getD 0 Sl.sl0 :: M).Perm L ∧ Wrote (home2 p v) w (home2 p v') w'
set_option maxRecDepth 100000 in
set_option maxHeartbeats 4000000 in
theorem pop_any (h : Tm w p v L n) (ho : Ok Sl.sl0 Sl.ahead 0 L.length L) {k : Nat} (hn : L.length = k + 1) : Calls Tryd.prog 33 #[.iface 91 (.pointer (some ⟨p, 0, none⟩))] w (Popped w p v L n) := by
  have hs := h.pile.small
  have hc := h.pile.cell
  have m0 := fun W (hW : World.cell? W ⟨p, 0, none⟩ = some v) => meth_len p v W hW
  have m2 := fun W (hW : World.cell? W ⟨p, 0, none⟩ = some v) => meth_swap p v W hW
  have m3 := fun W => meth_pop ⟨p, 0, none⟩ W
  have cl := len_p h.pile
  rw [hn] at cl
  have cs := swap_p h.pile (i := 0) (j := k) (by omega) (by omega)
  rw [hn] at ho
  obtain ⟨t1, t2, t3⟩ := top_swap ho hn
  have hd : Hid (∀ W, IsP W p v (swp Sl.sl0 L 0 k) → Calls Tryd.prog 61 #[.iface 91 (.pointer (some ⟨p, 0, none⟩)), .int .i64 0, .int .i64 k] W fun e w' => ∃ (m : Bool) (ys : List Sl), e = .returned (.bool m) ∧ Hid (IsP w' p v ys) ∧ Hid (ys.length = k + 1) ∧ Hid (ys.getD k Sl.sl0 = L.getD 0 Sl.sl0) ∧ Hid (Ok Sl.sl0 Sl.ahead 0 k (ys.take k)) ∧ Hid ((L.getD 0 Sl.sl0 :: ys.take k).Perm L) ∧ Hid (Wrote (home p v) W (home p v) w')) := Lib.hid fun W hW => by
    refine (down_any hW (i0 := 0) t1 (Nat.le_refl 0) (by rw [swp_len]; omega) (by omega)).mono fun e w' ⟨m, ys, h1, h2, h3, h4⟩ => ?_
    obtain ⟨q1, q2, q3, q4⟩ := pop_end ho hn h2
    exact ⟨m, ys, h1, Lib.hid h3, Lib.hid q1, Lib.hid q2, Lib.hid q3, Lib.hid q4, Lib.hid h4⟩
  have hfin : Hid (∀ (ys : List Sl) (v' : Value) (w' : World), (ys.take k).length = k → Tm w' p v' (ys.take k) n → Ok Sl.sl0 Sl.ahead 0 k (ys.take k) → (L.getD 0 Sl.sl0 :: ys.take k).Perm L → Wrote (home2 p v) w (home2 p v') w' → Popped w p v L n (.returned (.iface 88 (sv (L.getD 0 Sl.sl0)))) w') := Lib.hid fun ys v' w' h1 h2 h3 h4 h5 => ⟨rfl, v', ys.take k, h2, by rw [h1]; exact h3, h4, h5⟩
  have hlen : Hid (∀ ys : List Sl, ys.length = k + 1 → (ys.take k).length = k) := Lib.hid fun ys h => by rw [List.length_take]; omega
  generalize L.getD 0 Sl.sl0 = x at *
  have hnb : k ≤ 1000 := by omega
  clear t1 t2 t3 ho hs hn
  replace h := Lib.hid h
  go_enter Tryd.func33, Tryd.ntmps33
  go_wp2_with fail
  with_reducible refine Calls.mono (cl _ (by repeat (first | assumption | exact Below.refl _ _ | refine below_drewN ?_ _ | refine below_alloc ?_ _ | refine below_then ?_ (by assumption)))) ?_
  rintro e w2 ⟨rfl, rfl⟩
  clear cl m0
  go_wp2_with fail
  with_reducible refine Calls.mono (cs _ _ (by omega) (by omega) _ (by repeat (first | assumption | exact Below.refl _ _ | refine below_drewN ?_ _ | refine below_alloc ?_ _ | refine below_then ?_ (by assumption)))) ?_
  rintro e w2 ⟨rfl, hp2, hw2⟩
  clear cs m2 hc
  have cd := hd.out _ hp2.out
  go_wp2_with fail
  with_reducible refine Calls.mono (cd) ?_
  rintro e w3 ⟨m, ys, rfl, hp3, hl3, hx3, ho3, hpm, hw3⟩
  have ht3 := Lib.hid (h.out.turn hp3.out (hw2.out.trans hw3.out))
  have cp := popm_any ht3.out hl3.out
  rw [hx3.out] at cp
  clear cd hd hx3
  go_wp2_with fail
  with_reducible refine Calls.mono (cp) ?_
  rintro e w4 ⟨rfl, v', hp4, hw4⟩
  have hq := Lib.hid (hfin.out ys v' w4 (hlen.out ys hl3.out) hp4 ho3.out hpm.out ((wide (hw2.out.trans hw3.out)).trans hw4))
  clear cp hfin hp4 hw4
  go_wp2_with fail
  go_ret
  exact hq.out
def Pushm (w : World) (p : Nat) (v : Value) (L : List Sl) (n : Int) (x : Sl) (e : Ending) (w' : World) : Prop := e = .returned (.tuple #[]) ∧ ∃ v', Tm w' p v' (L ++ [x]) n ∧ Wrote (home2 p v) w (home2 p v') w'
set_option maxRecDepth 100000 in
set_option maxHeartbeats 1000000 in
/-- The pile's own Push: one more at the end. -/
theorem pushm_any (h : Tm w p v L n) (x : Sl) (hs : L.length < 1000) : Calls Tryd.prog 97 #[.pointer (some ⟨p, 0, none⟩), .iface 88 (sv x)] w (Pushm w p v L n x) := by
  have hp := h.pile.cell
  have hpl := h.pile.lt
  obtain ⟨x0, x1, x2⟩ := x
  have hta : ∀ W, (Instr.typeAssert (.iface 88 (.agg #[.int .i64 x0, .int .i64 x1, .int .i64 x2])) 20 88 false).run Tryd.prog W = .ok (.agg #[.int .i64 x0, .int .i64 x1, .int .i64 x2]) W := fun W => by rfl
  have hrow : Hid (∀ W, Below w.heap.size w W → GRow 3 W v L.length (sc L)) := Lib.hid fun W hW => h.pile.row.below hW
  have hsrc : Hid (∀ W N, W.heap[N]? = some (.cells #[.int .i64 x0, .int .i64 x1, .int .i64 x2] 88 (0, 0)) → Src Tryd.prog 3 80 (.slice (some ⟨N, 0, none⟩) 1 1) 1 [.int .i64 x0, .int .i64 x1, .int .i64 x2] W) := Lib.hid fun W N hN => src_new (s := 3) (A := #[.int .i64 x0, .int .i64 x1, .int .i64 x2]) Tryd.underlying80 rfl (by simp [Value.oneCell']) hN
  have key : Hid (∀ (W : World) (v1 : Value) (w1 : World), Below w.heap.size w W → GRow 3 w1 v1 (L.length + 1) (sc L ++ [.int .i64 x0, .int .i64 x1, .int .i64 x2]) → Wrote (fun k => v.ownBlock = some k) W (fun k => v1.ownBlock = some k) w1 → (∃ s c, v1 = .slice s (L.length + 1) c) ∧ w1.cell? ⟨p, 0, none⟩ = some v ∧ w1.frozen? ⟨p, 0, none⟩ = false ∧ Hid (∀ k, Pushm w p v L n (x0, x1, x2) (.returned (.tuple #[])) ((w1.setCell ⟨p, 0, none⟩ v1).drewN k))) := Lib.hid fun W v1 w1 hW g1 g2 => by
    have hW' := h.below hW
    have hoff := hW'.pile.off
    have c0 := g2.cell hW'.pile.cell hoff
    have f0 : w1.frozen? ⟨p, 0, none⟩ = false := by rw [World.frozen?_of_block (a := ⟨p, 0, none⟩) (g2.block p hW'.pile.lt hoff)]; exact hW'.pile.free
    have c1 := g2.cell hW'.cnt hoff
    have f1 : w1.frozen? ⟨p, 1, none⟩ = false := by rw [World.frozen?_of_block (a := ⟨p, 1, none⟩) (g2.block p hW'.pile.lt hoff)]; exact hW'.free1
    refine ⟨g1.slice, c0, f0, Lib.hid fun k => ⟨rfl, v1, ?_, ?_⟩⟩
    · have hlt1 : p < (w1.setCell ⟨p, 0, none⟩ v1).heap.size := Nat.lt_of_lt_of_le (Nat.lt_of_lt_of_le hW'.pile.lt g2.size) (wr1 w1 p 0 v1).size
      have w1s : Wrote (fun k => k = p) w1 (fun k => k = p) (w1.setCell ⟨p, 0, none⟩ v1) := wr1 w1 p 0 v1
      have hno : v1.ownBlock ≠ some p := fun e => by
        rcases g2.home p e with h5 | h5
        · exact hoff h5
        · have := hW'.pile.lt; omega
      have tt : Tm (w1.setCell ⟨p, 0, none⟩ v1) p v1 (L ++ [(x0, x1, x2)]) n := ⟨⟨World.cell?_setCell_same _ _ _ c0, by rw [World.frozen?_setCell]; exact f0, hlt1, by rw [List.length_append, sc_app]; exact g1.wrote w1s (fun k hk e => hno (by rw [← e]; exact hk)), hno, by rw [List.length_append, List.length_singleton]; omega⟩, by
        rw [World.cell?_setCell_other _ _ _ _ (show (⟨p, 0, none⟩ : Addr) ≠ ⟨p, 1, none⟩ from fun h => by cases h)]; exact c1, by rw [World.frozen?_setCell]; exact f1⟩
      exact tt.below (below_drewN (Below.refl _ _) k)
    · have w0 : Wrote (fun k => v.ownBlock = some k) w (fun k => v1.ownBlock = some k) w1 := (Wrote.of_below hW).trans g2
      have w1s : Wrote (fun k => k = p) w1 (fun k => k = p) (w1.setCell ⟨p, 0, none⟩ v1) := wr1 w1 p 0 v1
      exact ⟨w1s.os.trans w0.os, w1s.tape.trans w0.tape, w1s.output.trans w0.output, Nat.le_trans w0.size w1s.size, fun k hk ho => (w1s.block k (Nat.lt_of_lt_of_le hk w0.size) (fun e => ho (Or.inl e))).trans (w0.block k hk (fun e => ho (Or.inr e))), fun k hk => by
        rcases hk with rfl | hk
        · exact Or.inl (Or.inl rfl)
        · exact (w0.home k hk).elim (fun h => Or.inl (Or.inr h)) Or.inr⟩
  obtain ⟨s0, c0, e0⟩ := h.pile.row.slice
  have hbd : L.length + 1 ≤ 1000000 := by omega
  subst e0
  unfold sv
  clear h
  go_enter Tryd.func97, Tryd.ntmps97
  go_wp2_with fail
  go_region_law (refine step_append_g rfl (.tmp 8) (.tmp 11) rfl rfl elt3 (hrow.out _ (by repeat (first | exact Below.refl _ _ | refine below_alloc ?_ _ | refine below_drewN ?_ _ | refine Below.drew ?_))) rfl rfl (hsrc.out _ _ (heap_alloc_new _ _)) hbd ?_; intro v1 w1 g1 g2; have hk := key.out _ v1 w1 (by repeat (first | exact Below.refl _ _ | refine below_alloc ?_ _ | refine below_drewN ?_ _ | refine Below.drew ?_)) g1 g2; obtain ⟨⟨s1, c1, rfl⟩, hc1, hf1, hfin⟩ := hk; clear g1 g2 key hrow hsrc)
  all_goals
    go_end0
    exact hfin.out 0
/-- What heap.Push leaves: a heap with one more. -/
def Pushed (w : World) (p : Nat) (v : Value) (L : List Sl) (n : Int) (x : Sl) (e : Ending) (w' : World) : Prop := e = .returned (.tuple #[]) ∧ ∃ v' M, Tm w' p v' M n ∧ Ok Sl.sl0 Sl.ahead 0 M.length M ∧ M.Perm (L ++ [x]) ∧ Wrote (home2 p v) w (home2 p v') w'
set_option maxRecDepth 100000 in
set_option maxHeartbeats 4000000 in
theorem push_any (h : Tm w p v L n) (ho : Ok Sl.sl0 Sl.ahead 0 L.length L) (x : Sl) (hs : L.length < 1000) : Calls Tryd.prog 70 #[.iface 91 (.pointer (some ⟨p, 0, none⟩)), .iface 88 (sv x)] w (Pushed w p v L n x) := by
  have m3 := fun W => meth_push ⟨p, 0, none⟩ W
  have cp := pushm_any h x hs
  have hu := Lib.hid (UpI.begin (x := x) ho rfl)
  have hll : (L ++ [x]).length = L.length + 1 := by rw [List.length_append, List.length_singleton]
  replace hll := Lib.hid hll
  generalize sv x = vx at *
  clear h ho
  go_enter Tryd.func70, Tryd.ntmps70
  go_wp2_with fail
  with_reducible refine Calls.mono (cp) ?_
  rintro e w2 ⟨rfl, v2, ht, hw⟩
  have hc := ht.pile.cell
  have m0 := fun W (hW : World.cell? W ⟨p, 0, none⟩ = some v2) => meth_len p v2 W hW
  have cl := len_p ht.pile
  rw [hll.out] at cl
  have cu := up_any ht.pile hu.out
  replace cu : Calls Tryd.prog 73 #[.iface 91 (.pointer (some ⟨p, 0, none⟩)), .int .i64 L.length] w2 fun e w' => e = .returned (.tuple #[]) ∧ Hid (Pushed w p v L n x (.returned (.tuple #[])) w') := cu.mono fun e w' ⟨h1, M, h2, h3, h4, h5⟩ => ⟨h1, Lib.hid ⟨rfl, v2, M, ht.turn h2 h5, h3, h4, hw.trans (wide h5)⟩⟩
  clear cp m3 ht hw hu
  go_wp2_with fail
  with_reducible refine Calls.mono (cl _ (by repeat (first | assumption | exact Below.refl _ _ | refine below_drewN ?_ _ | refine below_alloc ?_ _ | refine below_then ?_ (by assumption)))) ?_
  rintro e w3 ⟨rfl, rfl⟩
  clear cl m0 hc
  go_wp2_with fail
  with_reducible refine Calls.mono (cu) ?_
  rintro e w4 ⟨rfl, hfin⟩
  go_wp2_with fail
  go_end0
  exact hfin.out
end Pt
end Go.Proofs.YtdhkakjiahkjnaaDoor
/- Package timer: New, Add, Len, Next over the heap of sleepers; calls of none. -/
namespace Go.Proofs.YtdhkakjiahkjnaaDoor
open Go.RowKit Go.Lib Fx Ho Gr
set_option linter.unusedVariables false
namespace Pt
open Hm
variable {w w' : World} {p : Nat} {v : Value} {L M ys : List Sl} {n : Int} {H H' : Home} {x : Sl}
/-- Timers at p: a heap L of sleepers, n ever added. -/
structure Ti (w : World) (p : Nat) (v : Value) (L : List Sl) (n : Nat) : Prop where
  tm : Tm w p v L n
  ok : Ok Sl.sl0 Sl.ahead 0 L.length L
theorem Ti.below {n : Nat} (h : Ti w p v L n) (hb : Below w.heap.size w w') : Ti w' p v L n := ⟨h.tm.below hb, h.ok⟩
set_option maxRecDepth 100000 in
theorem add_nil (a b : Int) (w : World) : Calls Tryd.prog 66 #[.pointer none, .int .i64 a, .int .i64 b] w (Still (.tuple #[]) w) := by
  go_enter Tryd.func66, Tryd.ntmps66
  go_wp2_with fail
  go_end0
  exact ⟨rfl, rfl⟩
set_option maxRecDepth 100000 in
theorem len_nil (w : World) : Calls Tryd.prog 16 #[.pointer none] w (Still (.int .i64 0) w) := by
  go_enter Tryd.func16, Tryd.ntmps16
  go_wp2_with fail
  go_ret
  exact ⟨rfl, rfl⟩
set_option maxRecDepth 100000 in
theorem due_nil (a : Int) (w : World) : Calls Tryd.prog 18 #[.pointer none, .int .i64 a] w (Still (.slice none 0 0) w) := by
  go_enter Tryd.func18, Tryd.ntmps18
  go_wp2_with fail
  go_ret
  exact ⟨rfl, rfl⟩
set_option maxRecDepth 100000 in
theorem new_any (w : World) : Calls Tryd.prog 23 #[] w fun e w' => e = .returned (.pointer (some ⟨w.heap.size, 0, none⟩)) ∧ Ti w' w.heap.size (.slice none 0 0) [] 0 ∧ Below w.heap.size w w' := by
  have ht : Hid (Ti (w.alloc (.cells #[.slice none 0 0, .int .i64 0] 84)) w.heap.size (.slice none 0 0) [] 0 ∧ Below w.heap.size w (w.alloc (.cells #[.slice none 0 0, .int .i64 0] 84))) := Lib.hid ⟨⟨⟨⟨cell_of (heap_alloc_new _ _) rfl, frozen_of_row _ _ _ _ _ (heap_alloc_new _ _), by show _ < (w.heap.push _).size; rw [Array.size_push]; omega, grow_nil 3 _, (fun e => by cases e), by simp⟩, cell_of (heap_alloc_new _ _) rfl, frozen_of_row _ _ _ _ _ (heap_alloc_new _ _)⟩, fun c c0 cn _ => by simp at cn⟩, below_alloc (Below.refl _ w) _⟩
  go_enter Tryd.func23, Tryd.ntmps23
  go_wp2_with fail
  go_ret
  exact ⟨rfl, ht.out⟩
set_option maxRecDepth 100000 in
theorem tlen_any {n : Nat} (h : Ti w p v L n) : Calls Tryd.prog 16 #[.pointer (some ⟨p, 0, none⟩)] w (Still (.int .i64 L.length) w) := by
  have cl := len_p h.tm.pile w (Below.refl _ _)
  have hc := h.tm.pile.cell
  go_enter Tryd.func16, Tryd.ntmps16
  go_wp2_with fail
  with_reducible refine Calls.mono (cl) ?_
  rintro e w2 ⟨rfl, rfl⟩
  go_wp2_with fail
  go_ret
  exact ⟨rfl, rfl⟩
set_option maxRecDepth 100000 in
theorem first_any (h : IsP w p v L) (h0 : 0 < L.length) : Calls Tryd.prog 32 #[.pointer (some ⟨p, 0, none⟩)] w (AnsB (sv (L.getD 0 Sl.sl0)) w) := by
  obtain ⟨b, off, cap, rfl, hle, hm, hbl, hc⟩ := at_i h.row h0
  obtain ⟨⟨c0, c1, c2⟩, _⟩ := hc 0 h0
  rw [Nat.zero_mul, Nat.add_zero] at c0 c1 c2
  have hp := h.cell
  have hpl := h.lt
  generalize L.getD 0 Sl.sl0 = x at *
  obtain ⟨x0, x1, x2⟩ := x
  simp only at c0 c1 c2
  generalize L.length = q at *
  clear hc h
  unfold sv
  have o3 : (w.alloc (.cells #[.int .i64 x0, .int .i64 x1, .int .i64 x2] 88)).heap[w.heap.size]? = some (.cells #[.int .i64 x0, .int .i64 x1, .int .i64 x2] 88 (0, 0)) := heap_alloc_new _ _
  have g0 := cell_of o3 (j := 0) rfl
  have g1 := cell_of o3 (j := 1) rfl
  have g2 := cell_of o3 (j := 2) rfl
  replace o3 := Lib.hid o3
  replace g0 := Lib.hid g0
  replace g1 := Lib.hid g1
  replace g2 := Lib.hid g2
  go_enter Tryd.func32, Tryd.ntmps32
  go_wp2_with fail
  have g0 := g0.out
  have g1 := g1.out
  have g2 := g2.out
  exact bodyPost_ret (v := .agg #[.int .i64 x0, .int .i64 x1, .int .i64 x2]) (by simp [results, Tryd.results32, go_sem, g0, g1, g2]) rfl ⟨rfl, below_alloc (Below.refl _ w) _⟩
/-- What Add leaves. -/
def Added (w : World) (p : Nat) (v : Value) (L : List Sl) (n : Nat) (x : Sl) (e : Ending) (w' : World) : Prop := e = .returned (.tuple #[]) ∧ ∃ v' M, Ti w' p v' M (n + 1) ∧ M.Perm (L ++ [x]) ∧ Wrote (home2 p v) w (home2 p v') w'
set_option maxRecDepth 100000 in
set_option maxHeartbeats 1000000 in
theorem add_any {n : Nat} (h : Ti w p v L n) (hs : L.length < 1000) (hn : n < 1000000) (a g : Int) : Calls Tryd.prog 66 #[.pointer (some ⟨p, 0, none⟩), .int .i64 a, .int .i64 g] w (Added w p v L n (a, g, (n : Int))) := by
  have hcn := h.tm.cnt
  have cp : Hid (∀ V, Below w.heap.size w V → Calls Tryd.prog 70 #[.iface 91 (.pointer (some ⟨p, 0, none⟩)), .iface 88 (.agg #[.int .i64 a, .int .i64 g, .int .i64 n])] V fun e w' => e = .returned (.tuple #[]) ∧ w'.cell? ⟨p, 1, none⟩ = some (.int .i64 n) ∧ Hid (Pushed V p v L n (a, g, (n : Int)) (.returned (.tuple #[])) w') ∧ Hid (Below w.heap.size w V)) := Lib.hid fun V hV => by
    have h1 := h.below hV
    exact (push_any h1.tm h1.ok (a, g, (n : Int)) hs).mono fun e w' k => ⟨k.1, (by obtain ⟨_, v', M, t, _⟩ := k; exact t.cnt), Lib.hid ⟨rfl, k.2⟩, Lib.hid hV⟩
  have hbd : Below w.heap.size w w.drew := (Below.refl _ _).drew
  have hn1 : ((n : Int) + 1) = ((n + 1 : Nat) : Int) := by omega
  have hfin : Hid (∀ (V w3 : World), Below w.heap.size w V → Pushed V p v L n (a, g, (n : Int)) (.returned (.tuple #[])) w3 → w3.frozen? ⟨p, 1, none⟩ = false ∧ Hid (∀ k, Added w p v L n (a, g, (n : Int)) (.returned (.tuple #[])) ((w3.setCell ⟨p, 1, none⟩ (.int .i64 ((n : Int) + 1))).drewN k))) := Lib.hid fun V w3 hV ⟨_, v', M, t, ho, hp, hw⟩ => ⟨t.free1, Lib.hid fun k => by
    have w1s : Wrote (fun k => k = p) w3 (fun k => k = p) (w3.setCell ⟨p, 1, none⟩ (.int .i64 ((n : Int) + 1))) := wr1 w3 p 1 _
    have hp0 : (w3.setCell ⟨p, 1, none⟩ (.int .i64 ((n : Int) + 1))).cell? ⟨p, 0, none⟩ = some v' := by
      rw [World.cell?_setCell_other _ _ _ _ (show (⟨p, 1, none⟩ : Addr) ≠ ⟨p, 0, none⟩ from fun h => by cases h)]; exact t.pile.cell
    have tt : Tm (w3.setCell ⟨p, 1, none⟩ (.int .i64 ((n : Int) + 1))) p v' M ((n : Int) + 1) := ⟨⟨hp0, by rw [World.frozen?_setCell]; exact t.pile.free, Nat.lt_of_lt_of_le t.pile.lt w1s.size, t.pile.row.wrote w1s (fun k hk e => t.pile.off (by rw [← e]; exact hk)), t.pile.off, t.pile.small⟩, World.cell?_setCell_same _ _ _ t.cnt, by rw [World.frozen?_setCell]; exact t.free1⟩
    rw [hn1] at tt ⊢
    have w0 : Wrote (home2 p v) w (home2 p v') w3 := (Wrote.of_below hV).trans hw
    refine ⟨rfl, v', M, ⟨tt.below (below_drewN (Below.refl _ _) k), ho⟩, hp, ?_⟩
    rw [← hn1]
    exact Wrote.drewN ⟨w1s.os.trans w0.os, w1s.tape.trans w0.tape, w1s.output.trans w0.output, Nat.le_trans w0.size w1s.size, fun k hk ho => (w1s.block k (Nat.lt_of_lt_of_le hk w0.size) (fun e => ho (Or.inl e))).trans (w0.block k hk ho), fun k hk => w0.home k hk⟩ k⟩
  replace h := Lib.hid h
  clear hn1
  have hwr : IntKind.i64.wrap ((n : Int) + 1) = (n : Int) + 1 := by rw [IntKind.wrap_i64]; omega
  go_enter Tryd.func66, Tryd.ntmps66
  go_wp2_with fail
  go_region_held3 (fun W' => W'.cell? ⟨p, 1, none⟩ = some (.int .i64 n)) (first | exact hcn | go_keep | assumption) ((go_at_call 70; ((with_reducible refine (cp.out _ (by repeat (first | assumption | exact Below.refl _ _ | refine below_drewN ?_ _ | refine below_alloc ?_ _ | refine below_then ?_ (by assumption)))).mono ?_); rintro e w3 ⟨rfl, hky, hpu, hbv⟩)))
  all_goals
    have f1 := (hfin.out _ _ hbv.out hpu.out).1
    have hq := (hfin.out _ _ hbv.out hpu.out).2
    go_wp2_with fail
    go_end0
    exact hq.out 0
end Pt
end Go.Proofs.YtdhkakjiahkjnaaDoor
/- Package timer: Due, over the heap of sleepers. -/
namespace Go.Proofs.YtdhkakjiahkjnaaDoor
open Go.RowKit Go.Lib Fx Ho Gr
set_option linter.unusedVariables false
namespace Pt
open Hm
variable {w w' : World} {p : Nat} {v u : Value} {L D M ys : List Sl} {n : Nat} {H H' : Home} {x : Sl}
def gs (D : List Sl) : List Value := D.map fun s => .int .i64 s.2.1
theorem eltI : Elt Tryd.prog 23 3 1 8 (.int .i64 0) := ⟨Tryd.underlying23, by kernel_rfl, rfl, by decide, by decide⟩
/-- D was taken out of L, the first ones first; M is left. -/
structure Ds (L D M : List Sl) : Prop where
  perm : (D ++ M).Perm L
  rise : D.Pairwise fun a b => Sl.ahead b a = false
  above : ∀ a ∈ D, ∀ b ∈ M, Sl.ahead b a = false
theorem ds_start (L : List Sl) : Ds L [] L := ⟨by simp, List.Pairwise.nil, fun a h => by cases h⟩
theorem Ds.step {M2 : List Sl} (h : Ds L D M) (ho : Ok Sl.sl0 Sl.ahead 0 M.length M) (hx : M.getD 0 Sl.sl0 = x) (hq : (x :: M2).Perm M) : Ds L (D ++ [x]) M2 := by
  have top : ∀ b ∈ M, Sl.ahead b x = false := fun b hb => by
    obtain ⟨c, hc, rfl⟩ := List.getElem_of_mem hb
    have := ho.least Sl.ahead_ord c c (Nat.le_refl c) hc
    rwa [hx, getD_at hc] at this
  have hxq : x ∈ M := hq.mem_iff.1 (by simp)
  have hsub : ∀ b ∈ M2, b ∈ M := fun b hb => hq.mem_iff.1 (by simp [hb])
  refine ⟨?_, ?_, fun a ha b hb => ?_⟩
  · rw [List.append_assoc]
    exact ((hq.append_left D)).trans h.perm
  · exact List.pairwise_append.2 ⟨h.rise, by simp, fun a ha b hb => by
      simp only [List.mem_singleton] at hb
      subst hb
      exact h.above a ha b hxq⟩
  · rcases List.mem_append.1 ha with h1 | h1
    · exact h.above a h1 b (hsub b hb)
    · simp only [List.mem_singleton] at h1
      subst h1
      exact top b (hsub b hb)
/-- Where the loop of Due stands. -/
structure Dw (B wr : World) (p : Nat) (v u : Value) (L D M : List Sl) (n : Nat) (now : Int) : Prop where
  ti : Ti wr p v M n
  ds : Ds L D M
  low : Low B.heap.size (home2 p v)
  below : Below B.heap.size B wr
  row : GRow 1 wr u D.length (gs D)
  ulow : Low B.heap.size (fun k => u.ownBlock = some k)
  off : ∀ k, u.ownBlock = some k → ¬ home2 p v k
  le : ∀ a ∈ D, a.1 ≤ now
theorem gs_app (A B : List Sl) : gs (A ++ B) = gs A ++ gs B := List.map_append
theorem Ti.wrote (h : Ti w p v L n) (hw : Wrote H w H' w') (ho : ∀ k, home2 p v k → ¬ H k) : Ti w' p v L n :=
  ⟨⟨⟨hw.cell h.tm.pile.cell (ho p (Or.inl rfl)), by rw [World.frozen?_of_block (a := ⟨p, 0, none⟩) (hw.block p h.tm.pile.lt (ho p (Or.inl rfl)))]; exact h.tm.pile.free, Nat.lt_of_lt_of_le h.tm.pile.lt hw.size, h.tm.pile.row.wrote hw (fun k hk => ho k (Or.inr hk)), h.tm.pile.off, h.tm.pile.small⟩, hw.cell h.tm.cnt (ho p (Or.inl rfl)), by rw [World.frozen?_of_block (a := ⟨p, 1, none⟩) (hw.block p h.tm.pile.lt (ho p (Or.inl rfl)))]; exact h.tm.free1⟩, h.ok⟩
/-- One more is taken. -/
theorem Dw.step {B wr w4 w5 : World} {x : Sl} {u2 : Value} {e : Ending} {now : Int} (h : Dw B wr p v u L D M n now) (hx : M.getD 0 Sl.sl0 = x) (hn : x.1 ≤ now) (w0 : World) (hw0 : Below wr.heap.size wr w0) (hp : Popped w0 p v M n e w') (hal : Below w'.heap.size w' w4) (hr : GRow 1 w5 u2 (D.length + 1) (gs D ++ [.int .i64 x.2.1])) (hw : Wrote (fun k => u.ownBlock = some k) w4 (fun k => u2.ownBlock = some k) w5) :
    ∃ v2 M2, Dw B w5 p v2 u2 L (D ++ [x]) M2 n now := by
  obtain ⟨_, v2, M2, h1, h2, h3, h4⟩ := hp
  replace h4 : Wrote (home2 p v) wr (home2 p v2) w' := (Wrote.of_below hw0).trans h4
  rw [hx] at h3
  have hB := h4.below h.low h.below
  have hl2 := h4.low h.low h.below.size
  have hul : ∀ k, u.ownBlock = some k → k < wr.heap.size := fun k hk => h.row.lt hk
  have off1 : ∀ k, u.ownBlock = some k → ¬ home2 p v2 k := fun k hk hh => (h4.home k hh).elim (h.off k hk) (fun h5 => by have := hul k hk; omega)
  have t1 : Ti w4 p v2 M2 n := Ti.below ⟨h1, h2⟩ hal
  have t2 := t1.wrote hw (fun k hk e => off1 k e hk)
  have hB2 := hw.below h.ulow (hB.trans (hal.mono hB.size))
  refine ⟨v2, M2, t2, h.ds.step h.ti.ok hx h3, hl2, hB2, ?_, hw.low h.ulow (Nat.le_trans hB.size hal.size), fun k hk hh => ?_, fun y hy => ?_⟩
  · rw [List.length_append, gs_app]; exact hr
  · rcases hw.home k hk with h5 | h5
    · exact off1 k h5 hh
    · rcases hh with rfl | hh
      · have := t1.tm.pile.lt; omega
      · have := t1.tm.pile.row.lt hh; omega
  · rcases List.mem_append.1 hy with h5 | h5
    · exact h.le y h5
    · simp only [List.mem_singleton] at h5
      subst h5
      exact hn
theorem Dw.bel {B wr W : World} {now : Int} (h : Dw B wr p v u L D M n now) (hb : Below wr.heap.size wr W) : Dw B W p v u L D M n now :=
  ⟨h.ti.below hb, h.ds, h.low, h.below.trans (hb.mono h.below.size), h.row.below hb, h.ulow, h.off, h.le⟩
theorem Dw.len {B wr : World} {now : Int} (h : Dw B wr p v u L D M n now) : D.length + M.length = L.length := by
  have := h.ds.perm.length_eq
  rw [List.length_append] at this
  exact this
theorem src_int (g : Int) (w : World) : Src Tryd.prog 1 23 (.slice (some ⟨w.heap.size, 0, none⟩) 1 1) 1 [.int .i64 g] (w.alloc (.cells #[.int .i64 g] 3)) :=
  src_new (s := 1) (A := #[.int .i64 g]) Tryd.underlying23 rfl (fun u hu => by simp at hu; subst hu; rfl) (heap_alloc_new _ _)
/-- What Due leaves. -/
def Dued (B : World) (p : Nat) (L : List Sl) (n : Nat) (now : Int) (e : Ending) (w' : World) : Prop := ∃ r D M v, e = .returned r ∧ Dw B w' p v r L D M n now ∧ ∀ b ∈ M, now < b.1
set_option maxRecDepth 100000 in
set_option maxHeartbeats 4000000 in
theorem due_any {B : World} (h : Ti w p v L n) (hl : Low B.heap.size (home2 p v)) (hB : Below B.heap.size B w) (now : Int) : Calls Tryd.prog 18 #[.pointer (some ⟨p, 0, none⟩), .int .i64 now] w (Dued B p L n now) := by
  have st : Hid (Dw B w p v (.slice none 0 0) L [] L n now) := Lib.hid ⟨h, ds_start L, hl, hB, grow_nil 1 w, fun k hk => (by cases hk), fun k hk => (by cases hk), fun a ha => by cases ha⟩
  have hLs := h.tm.pile.small
  clear h hl hB
  go_enter Tryd.func18, Tryd.ntmps18
  go_wp2_with fail
  go_loopg [5] L.length (fun g u wr => ∃ (D M : List Sl) (v : Value) (s2 : Option Addr) (c2 : Nat), u = .slice s2 D.length c2 ∧ D.length + g = L.length ∧ Hid (Dw B wr p v (.slice s2 D.length c2) L D M n now))
  case atStart => exact ⟨[], L, v, none, 0, rfl, by simp, st⟩
  case round =>
    clear st
    obtain ⟨D, M, v4, s2, c2, rfl, hml, hst⟩ := hrel
    have hlen := hst.out.len
    have hms := hst.out.ti.tm.pile.small
    have hpc := hst.out.ti.tm.pile.cell
    have cl := len_p hst.out.ti.tm.pile wr (Below.refl _ _)
    rcases Nat.eq_zero_or_pos M.length with hq | hq
    · have hfin : Hid (∀ W, Below wr.heap.size wr W → Dued B p L n now (.returned (.slice s2 D.length c2)) W) := Lib.hid fun W hW => ⟨_, D, M, v4, rfl, hst.out.bel hW, fun b hb => by rw [List.eq_nil_of_length_eq_zero hq] at hb; cases hb⟩
      rw [hq] at cl
      clear hst hlen
      go_wp2_with fail
      with_reducible refine Calls.mono (cl) ?_
      rintro e w2 ⟨rfl, rfl⟩
      go_wp2_with fail
      go_ret
      exact hfin.out _ (by repeat (first | assumption | exact Below.refl _ _ | refine below_drewN ?_ _ | refine below_alloc ?_ _ | refine below_then ?_ (by assumption)))
    · have cf := first_any hst.out.ti.tm.pile hq
      obtain ⟨x, hx⟩ : ∃ x, M.getD 0 Sl.sl0 = x := ⟨_, rfl⟩
      obtain ⟨x0, x1, x2⟩ := x
      rw [hx] at cf
      unfold sv at cf
      have hf1 : ∀ W, (Instr.field 88 (.agg #[.int .i64 x0, .int .i64 x1, .int .i64 x2]) 0).run Tryd.prog W = .ok (.agg #[.int .i64 x0, .int .i64 x1]) W := fun W => by rfl
      have hf2 : ∀ W, (Instr.field 86 (.agg #[.int .i64 x0, .int .i64 x1]) 0).run Tryd.prog W = .ok (.int .i64 x0) W := fun W => by rfl
      have hf3 : ∀ W, (Instr.field 86 (.agg #[.int .i64 x0, .int .i64 x1]) 1).run Tryd.prog W = .ok (.int .i64 x1) W := fun W => by rfl
      have hta : ∀ W, (Instr.typeAssert (.iface 88 (.agg #[.int .i64 x0, .int .i64 x1, .int .i64 x2])) 20 88 false).run Tryd.prog W = .ok (.agg #[.int .i64 x0, .int .i64 x1, .int .i64 x2]) W := fun W => by rfl
      by_cases h1 : x0 ≤ now
      · obtain ⟨q, hqq⟩ : ∃ q, M.length = q + 1 := ⟨M.length - 1, by omega⟩
        have cp : Hid (∀ W, Below wr.heap.size wr W → Calls Tryd.prog 33 #[.iface 91 (.pointer (some ⟨p, 0, none⟩))] W fun e w' => e = .returned (.iface 88 (.agg #[.int .i64 x0, .int .i64 x1, .int .i64 x2])) ∧ Hid (Below wr.heap.size wr W ∧ Popped W p v4 M n e w')) := Lib.hid fun W hW => by
          have t := hst.out.ti.below hW
          refine (pop_any t.tm t.ok hqq).mono fun e w' h => ?_
          have he := h.1
          rw [hx] at he
          exact ⟨he, Lib.hid ⟨hW, h⟩⟩
        have hstep : Hid (∀ (W w4 w5 : World) (e : Ending) (u2 : Value) (w6 : World), Below wr.heap.size wr W → Popped W p v4 M n e w4 → Below w4.heap.size w4 w5 → GRow 1 w6 u2 (D.length + 1) (gs D ++ [.int .i64 x1]) → Wrote (fun k => (Value.slice s2 D.length c2).ownBlock = some k) w5 (fun k => u2.ownBlock = some k) w6 → ∃ s5 c5, u2 = .slice s5 (D ++ [(x0, x1, x2)]).length c5 ∧ Hid (∃ v2 M2, Dw B w6 p v2 u2 L (D ++ [(x0, x1, x2)]) M2 n now)) := Lib.hid fun W w4 w5 e u2 w6 hW hP hb hr hw => by
          obtain ⟨s5, c5, e5⟩ := hr.slice
          exact ⟨s5, c5, by rw [e5, List.length_append]; rfl, Lib.hid (hst.out.step hx h1 W hW hP hb hr hw)⟩
        have hrow : Hid (∀ (W w4 w5 : World) (e : Ending), Below wr.heap.size wr W → Popped W p v4 M n e w4 → Below w4.heap.size w4 w5 → GRow 1 w5 (.slice s2 D.length c2) D.length (gs D)) := Lib.hid fun W w4 w5 e hW ⟨_, v2, M2, k1, k2, k3, k4⟩ hb =>
          ((hst.out.row.below hW).wrote k4 (fun k hk => hst.out.off k hk)).below hb
        have hbd : D.length + 1 ≤ 1000000 := by omega
        clear hst hx
        go_wp2_with fail
        with_reducible refine Calls.mono (cl) ?_
        rintro e w2 ⟨rfl, rfl⟩
        go_wp2_with fail
        with_reducible refine Calls.mono (cf) ?_
        rintro e w3 ⟨rfl, hb3⟩
        go_wp2_with fail
        with_reducible refine Calls.mono (cp.out _ (by repeat (first | assumption | exact Below.refl _ _ | refine below_drewN ?_ _ | refine below_alloc ?_ _ | refine below_then ?_ (by assumption)))) ?_
        rintro e w4 ⟨rfl, hp4⟩
        have hrow4 := Lib.hid fun w5 hb => hrow.out w3 w4 w5 _ hp4.out.1 hp4.out.2 hb
        have key4 := Lib.hid fun w5 u2 w6 hb => hstep.out w3 w4 w5 _ u2 w6 hp4.out.1 hp4.out.2 hb
        clear cp hp4 hpc hrow hstep hb3 cl cf
        go_wp2_with (at_builtin; refine wpList_append_g rfl (.tmp 25) (.tmp 34) rfl rfl eltI (hrow4.out _ (below_alloc (Below.refl _ _) _)) rfl rfl (src_int x1 w4) hbd ?_; intro u2 w5 g1 g2; obtain ⟨s5, c5, rfl, hk⟩ := key4.out _ u2 w5 (below_alloc (Below.refl _ _) _) g1 g2; clear g1 g2 hrow4 key4)
        obtain ⟨v2, M2, hk⟩ := hk.out
        replace hk := Lib.hid hk
        go_wp2_with fail
        go_roundg (L.length - (D ++ [(x0, x1, x2)]).length)
        case measure => rw [List.length_append, List.length_singleton]; omega
        case rel => exact ⟨D ++ [(x0, x1, x2)], M2, v2, s5, c5, by simp, by rw [List.length_append, List.length_singleton]; omega, hk⟩
      · have hfin : Hid (∀ W, Below wr.heap.size wr W → Dued B p L n now (.returned (.slice s2 D.length c2)) W) := Lib.hid fun W hW => ⟨_, D, M, v4, rfl, hst.out.bel hW, fun b hb => by
          obtain ⟨c, hc, rfl⟩ := List.getElem_of_mem hb
          have hl := hst.out.ti.ok.least Sl.ahead_ord c c (Nat.le_refl c) hc
          rw [hx, getD_at hc] at hl
          unfold Sl.ahead at hl
          simp only [decide_eq_false_iff_not] at hl
          omega⟩
        clear hst hx
        go_wp2_with fail
        with_reducible refine Calls.mono (cl) ?_
        rintro e w2 ⟨rfl, rfl⟩
        go_wp2_with fail
        with_reducible refine Calls.mono (cf) ?_
        rintro e w3 ⟨rfl, hb3⟩
        go_wp2_with fail
        go_ret
        exact hfin.out _ (by repeat (first | assumption | exact Below.refl _ _ | refine below_drewN ?_ _ | refine below_alloc ?_ _ | refine below_then ?_ (by assumption)))
end Pt
end Go.Proofs.YtdhkakjiahkjnaaDoor
/- treadmilllaw13.told: a few sleepers. -/
namespace Go.Proofs.YtdhkakjiahkjnaaDoor
open Go.RowKit Go.Lib Fx Ho Gr
set_option linter.unusedVariables false
namespace Pt
open Hm
variable {w w' B : World} {p : Nat} {v u : Value} {L C D M ys : List Sl} {n : Nat} {H H' : Home} {x : Sl}
/-- Timers at p hold C, made since B. -/
def Tl (B w : World) (p : Nat) (C : List Sl) (n : Nat) : Prop := ∃ v M, Ti w p v M n ∧ M.Perm C ∧ Low B.heap.size (home2 p v) ∧ Below B.heap.size B w
theorem Tl.bel (h : Tl B w p C n) : Below B.heap.size B w := by
  obtain ⟨v, M, _, _, _, h⟩ := h
  exact h
theorem Tl.below (h : Tl B w p C n) (hb : Below w.heap.size w w') : Tl B w' p C n := by
  obtain ⟨v, M, h1, h2, h3, h4⟩ := h
  exact ⟨v, M, h1.below hb, h2, h3, h4.trans (hb.mono h4.size)⟩
theorem tl_new (w : World) : Calls Tryd.prog 23 #[] w fun e w' => e = .returned (.pointer (some ⟨w.heap.size, 0, none⟩)) ∧ Tl w w' w.heap.size [] 0 :=
  (new_any w).mono fun e w' ⟨h1, h2, h3⟩ => ⟨h1, _, [], h2, List.Perm.refl _, fun k hk => (by
    rcases hk with rfl | hk
    · exact Nat.le_refl _
    · cases hk), h3⟩
theorem tl_add (h : Tl B w p C n) (hs : C.length < 1000) (hn : n < 1000000) (a g : Int) : Calls Tryd.prog 66 #[.pointer (some ⟨p, 0, none⟩), .int .i64 a, .int .i64 g] w fun e w' => e = .returned (.tuple #[]) ∧ Tl B w' p (C ++ [(a, g, (n : Int))]) (n + 1) := by
  obtain ⟨v, M, h1, h2, h3, h4⟩ := h
  exact (add_any h1 (by rw [h2.length_eq]; exact hs) hn a g).mono fun e w' ⟨k1, v', M', k2, k3, k4⟩ => ⟨k1, v', M', k2, k3.trans (h2.append_right _), k4.low h3 h4.size, k4.below h3 h4⟩
theorem tl_len (h : Tl B w p C n) : Calls Tryd.prog 16 #[.pointer (some ⟨p, 0, none⟩)] w (Still (.int .i64 C.length) w) := by
  obtain ⟨v, M, h1, h2, h3, h4⟩ := h
  rw [← h2.length_eq]
  exact tlen_any h1
theorem top_is (ho : Ok Sl.sl0 Sl.ahead 0 M.length M) (hp : M.Perm C) (hx : x ∈ C) (hl : ∀ y ∈ C, y = x ∨ Sl.ahead x y = true) : 0 < M.length ∧ M.getD 0 Sl.sl0 = x := by
  have hm := hp.mem_iff.2 hx
  obtain ⟨c, hc, he⟩ := List.getElem_of_mem hm
  have h0 : 0 < M.length := by omega
  refine ⟨h0, ?_⟩
  have hle := ho.least Sl.ahead_ord c c (Nat.le_refl c) hc
  rw [getD_at hc, he] at hle
  have h2 : M.getD 0 Sl.sl0 ∈ C := hp.mem_iff.1 (by rw [getD_at h0]; exact List.getElem_mem h0)
  rcases hl _ h2 with h3 | h3
  · exact h3
  · rw [hle] at h3
    cases h3
theorem gs_get {D : List Sl} {i : Nat} (h : i < D.length) : (gs D)[i]? = some (.int .i64 ((D.map fun s => s.2.1).getD i 0)) := by
  unfold gs
  rw [List.getElem?_map, List.getElem?_eq_getElem h, List.getD_eq_getElem?_getD, List.getElem?_map, List.getElem?_eq_getElem h]
  rfl
theorem ints_row (h : GRow 1 w v D.length (gs D)) : Ints w (fun k => v.ownBlock = some k) v (D.map fun s => s.2.1) := by
  obtain ⟨ao, b, off, cap, rfl, hle, hm, ha, hc⟩ := h.cell
  unfold maxLen at hm
  refine ⟨ao, cap, by rw [List.length_map], by rw [List.length_map]; omega, fun i hi => ?_⟩
  rw [List.length_map] at hi
  obtain ⟨rfl, hb, _⟩ := ha (by omega)
  exact ⟨b, off, rfl, rfl, hb, (hc i _ (gs_get hi)).1⟩
/-- What Due tells. -/
def Tdue (B : World) (p : Nat) (C : List Sl) (n : Nat) (now : Int) (e : Ending) (w' : World) : Prop := ∃ r D M, e = .returned r ∧ Ints w' (fun k => B.heap.size ≤ k) r (D.map fun s => s.2.1) ∧ Ds C D M ∧ (∀ a ∈ D, a.1 ≤ now) ∧ (∀ b ∈ M, now < b.1) ∧ Tl B w' p M n
theorem Ds.of_perm (h : Ds L D M) (hp : L.Perm C) : Ds C D M := ⟨h.perm.trans hp, h.rise, h.above⟩
theorem tl_due (h : Tl B w p C n) (now : Int) : Calls Tryd.prog 18 #[.pointer (some ⟨p, 0, none⟩), .int .i64 now] w (Tdue B p C n now) := by
  obtain ⟨v, M, h1, h2, h3, h4⟩ := h
  exact (due_any h1 h3 h4 now).mono fun e w' ⟨r, D, M, v, k1, k2, k3⟩ => ⟨r, D, M, k1, (ints_row k2.row).wider (fun k hk _ => k2.ulow k hk), k2.ds.of_perm h2, k2.le, k3, v, M, k2.ti, List.Perm.refl _, k2.low, k2.below⟩
theorem Ds.part (h : Ds C D M) {now : Int} (h1 : ∀ a ∈ D, a.1 ≤ now) (h2 : ∀ b ∈ M, now < b.1) : D.Perm (C.filter fun s => decide (s.1 ≤ now)) ∧ M.Perm (C.filter fun s => decide (now < s.1)) := by
  have f1 : (D ++ M).filter (fun s => decide (s.1 ≤ now)) = D := by
    rw [List.filter_append, List.filter_eq_self.2 (fun a ha => decide_eq_true (h1 a ha)), List.filter_eq_nil_iff.2 (fun b hb => by have := h2 b hb; simp only [decide_eq_true_eq]; omega), List.append_nil]
  have f2 : (D ++ M).filter (fun s => decide (now < s.1)) = M := by
    rw [List.filter_append, List.filter_eq_self.2 (fun a ha => decide_eq_true (h2 a ha)), List.filter_eq_nil_iff.2 (fun b hb => by have := h1 b hb; simp only [decide_eq_true_eq]; omega), List.nil_append]
  exact ⟨by rw [← f1]; exact h.perm.filter _, by rw [← f2]; exact h.perm.filter _⟩
theorem few (h : Ds [(5, 1, 0), (3, 2, 1), (3, 3, 2)] D M) (h1 : ∀ a ∈ D, a.1 ≤ 4) (h2 : ∀ b ∈ M, 4 < b.1) : D = [(3, 2, 1), (3, 3, 2)] ∧ M = [(5, 1, 0)] := by
  obtain ⟨p1, p2⟩ := h.part h1 h2
  rw [show ([(5, 1, 0), (3, 2, 1), (3, 3, 2)] : List Sl).filter (fun s => decide (s.1 ≤ 4)) = [(3, 2, 1), (3, 3, 2)] by decide] at p1
  rw [show ([(5, 1, 0), (3, 2, 1), (3, 3, 2)] : List Sl).filter (fun s => decide (4 < s.1)) = [(5, 1, 0)] by decide] at p2
  refine ⟨?_, List.perm_singleton.1 p2⟩
  have hr := h.rise
  match D, p1, hr with
  | [], p1, _ => exact absurd p1.length_eq (by decide)
  | [a], p1, _ =>
    have := p1.length_eq
    simp only [List.length_cons, List.length_nil] at this
    omega
  | [a, b], p1, hr =>
    have ha := p1.mem_iff.1 (show a ∈ [a, b] by simp)
    have hb := p1.mem_iff.1 (show b ∈ [a, b] by simp)
    have m1 := p1.mem_iff.2 (show ((3, 2, 1) : Sl) ∈ [(3, 2, 1), (3, 3, 2)] by simp)
    have m2 := p1.mem_iff.2 (show ((3, 3, 2) : Sl) ∈ [(3, 2, 1), (3, 3, 2)] by simp)
    have hq := (List.pairwise_cons.1 hr).1 b (by simp)
    simp only [List.mem_cons, List.not_mem_nil, or_false] at ha hb m1 m2
    rcases ha with rfl | rfl <;> rcases hb with rfl | rfl
    · exact absurd m2 (by decide)
    · rfl
    · exact absurd hq (by decide)
    · exact absurd m1 (by decide)
  | a :: b :: c :: r, p1, _ => 
    have := p1.length_eq
    simp only [List.length_cons, List.length_nil] at this
    omega
theorem ints_lit (w : World) (zs : List Int) (n : Nat) (hn : zs.length = n) (hs : n ≤ 1000) {A : Array Value} (hA : A.toList = cells zs) : Ints (w.alloc (.cells A 3)) (fun k => w.heap.size ≤ k) (.slice (some ⟨w.heap.size, 0, none⟩) n n) zs := by
  have h := World.ownsRow_lit (base := w.heap.size) (e := 3) (size := 1) w A n (Nat.le_refl _) (by unfold maxLen; omega) (by rw [← Array.length_toList, hA, cells_len, hn, Nat.mul_one])
  rw [hA] at h
  exact (ints_of_owns h).wider (fun k hk _ => (h.lt k hk).1)
end Pt
end Go.Proofs.YtdhkakjiahkjnaaDoor
/- Package timer: Due, with what it leaves as it was. -/
namespace Go.Proofs.YtdhkakjiahkjnaaDoor
open Go.RowKit Go.Lib Fx Ho Gr
set_option linter.unusedVariables false
namespace Pt
open Hm
variable {w w' : World} {p : Nat} {v v0 u : Value} {L D M ys : List Sl} {n : Nat} {H H' : Home} {x : Sl}
/-- Where the loop of Due stands, and what of the world w0 stands as it stood. -/
structure Df (w0 : World) (v0 : Value) (B wr : World) (p : Nat) (v u : Value) (L D M : List Sl) (n : Nat) (now : Int) : Prop where
  dw : Dw B wr p v u L D M n now
  fr : Wrote (home2 p v0) w0 (fun k => home2 p v k ∨ u.ownBlock = some k) wr
  un : ∀ k, u.ownBlock = some k → w0.heap.size ≤ k
theorem Df.ti {w0 B wr : World} {now : Int} (h : Df w0 v0 B wr p v u L D M n now) : Ti wr p v M n := h.dw.ti
theorem Df.row {w0 B wr : World} {now : Int} (h : Df w0 v0 B wr p v u L D M n now) : GRow 1 wr u D.length (gs D) := h.dw.row
theorem Df.off {w0 B wr : World} {now : Int} (h : Df w0 v0 B wr p v u L D M n now) : ∀ k, u.ownBlock = some k → ¬ home2 p v k := h.dw.off
theorem Df.len {w0 B wr : World} {now : Int} (h : Df w0 v0 B wr p v u L D M n now) : D.length + M.length = L.length := h.dw.len
theorem Df.bel {w0 B wr W : World} {now : Int} (h : Df w0 v0 B wr p v u L D M n now) (hb : Below wr.heap.size wr W) : Df w0 v0 B W p v u L D M n now := ⟨h.dw.bel hb, h.fr.trans (Wrote.of_below hb), h.un⟩
theorem Df.step {w0 B wr w4 w5 : World} {x : Sl} {u2 : Value} {e : Ending} {now : Int} (h : Df w0 v0 B wr p v u L D M n now) (hx : M.getD 0 Sl.sl0 = x) (hn : x.1 ≤ now) (wa : World) (hw0 : Below wr.heap.size wr wa) (hp : Popped wa p v M n e w') (hal : Below w'.heap.size w' w4) (hr : GRow 1 w5 u2 (D.length + 1) (gs D ++ [.int .i64 x.2.1])) (hw : Wrote (fun k => u.ownBlock = some k) w4 (fun k => u2.ownBlock = some k) w5) :
    ∃ v2 M2, Df w0 v0 B w5 p v2 u2 L (D ++ [x]) M2 n now := by
  obtain ⟨he, v2, M2, h1, h2, h3, h4⟩ := hp
  replace h4 : Wrote (home2 p v) wr (home2 p v2) w' := (Wrote.of_below hw0).trans h4
  rw [hx] at h3
  have hB := h4.below h.dw.low h.dw.below
  have hl2 := h4.low h.dw.low h.dw.below.size
  have hul : ∀ k, u.ownBlock = some k → k < wr.heap.size := fun k hk => h.row.lt hk
  have off1 : ∀ k, u.ownBlock = some k → ¬ home2 p v2 k := fun k hk hh => (h4.home k hh).elim (h.off k hk) (fun h5 => by have := hul k hk; omega)
  have t1 : Ti w4 p v2 M2 n := Ti.below ⟨h1, h2⟩ hal
  have t2 := t1.wrote hw (fun k hk e => off1 k e hk)
  have hB2 := hw.below h.dw.ulow (hB.trans (hal.mono hB.size))
  refine ⟨v2, M2, ⟨t2, h.dw.ds.step h.ti.ok hx h3, hl2, hB2, ?_, hw.low h.dw.ulow (Nat.le_trans hB.size hal.size), fun k hk hh => ?_, fun y hy => ?_⟩, h.fr.trans ⟨hw.os.trans (hal.os.trans h4.os), hw.tape.trans (hal.tape.trans h4.tape), hw.output.trans (hal.output.trans h4.output), Nat.le_trans h4.size (Nat.le_trans hal.size hw.size), fun k hk hno => ?_, fun k hk => ?_⟩, fun k hk => (hw.home k hk).elim (h.un k) (fun e => by have := h.fr.size; have := h4.size; have := hal.size; omega)⟩
  · rw [List.length_append, gs_app]; exact hr
  · rcases hw.home k hk with h5 | h5
    · exact off1 k h5 hh
    · rcases hh with rfl | hh
      · have := t1.tm.pile.lt; omega
      · have := t1.tm.pile.row.lt hh; omega
  · rcases List.mem_append.1 hy with h5 | h5
    · exact h.dw.le y h5
    · simp only [List.mem_singleton] at h5
      subst h5
      exact hn
  · have s1 := h4.size
    have s2 := hal.size
    exact (hw.block k (by omega) (fun e => hno (.inr e))).trans ((hal.block k (by omega)).trans (h4.block k hk (fun e => hno (.inl e))))
  · have s1 := h4.size
    have s2 := hal.size
    rcases hk with e | e
    · exact (h4.home k e).imp .inl (fun e => e)
    · exact (hw.home k e).imp .inr (fun e => by omega)
/-- What Due leaves. -/
def Duef (w0 : World) (v0 : Value) (B : World) (p : Nat) (L : List Sl) (n : Nat) (now : Int) (e : Ending) (w' : World) : Prop := ∃ r D M v, e = .returned r ∧ Df w0 v0 B w' p v r L D M n now ∧ ∀ b ∈ M, now < b.1
set_option maxRecDepth 100000 in
set_option maxHeartbeats 4000000 in
theorem duef_any {B : World} (h : Ti w p v0 L n) (hl : Low B.heap.size (home2 p v0)) (hB : Below B.heap.size B w) (now : Int) : Calls Tryd.prog 18 #[.pointer (some ⟨p, 0, none⟩), .int .i64 now] w (Duef w v0 B p L n now) := by
  have st : Hid (Df w v0 B w p v0 (.slice none 0 0) L [] L n now) := Lib.hid ⟨⟨h, ds_start L, hl, hB, grow_nil 1 w, fun k hk => (by cases hk), fun k hk => (by cases hk), fun a ha => by cases ha⟩, (Wrote.refl (home2 p v0) w).same (fun k hk => hk.elim (fun e => e) (fun e => by cases e)), fun k hk => by cases hk⟩
  have hLs := h.tm.pile.small
  clear h hl hB
  go_enter Tryd.func18, Tryd.ntmps18
  go_wp2_with fail
  go_loopg [5] L.length (fun g u wr => ∃ (D M : List Sl) (v : Value) (s2 : Option Addr) (c2 : Nat), u = .slice s2 D.length c2 ∧ D.length + g = L.length ∧ Hid (Df w v0 B wr p v (.slice s2 D.length c2) L D M n now))
  case atStart => exact ⟨[], L, v0, none, 0, rfl, by simp, st⟩
  case round =>
    clear st
    obtain ⟨D, M, v4, s2, c2, rfl, hml, hst⟩ := hrel
    have hlen := hst.out.len
    have hms := hst.out.ti.tm.pile.small
    have hpc := hst.out.ti.tm.pile.cell
    have cl := len_p hst.out.ti.tm.pile wr (Below.refl _ _)
    rcases Nat.eq_zero_or_pos M.length with hq | hq
    · have hfin : Hid (∀ W, Below wr.heap.size wr W → Duef w v0 B p L n now (.returned (.slice s2 D.length c2)) W) := Lib.hid fun W hW => ⟨_, D, M, v4, rfl, hst.out.bel hW, fun b hb => by rw [List.eq_nil_of_length_eq_zero hq] at hb; cases hb⟩
      rw [hq] at cl
      clear hst hlen
      go_wp2_with fail
      with_reducible refine Calls.mono (cl) ?_
      rintro e w2 ⟨rfl, rfl⟩
      go_wp2_with fail
      go_ret
      exact hfin.out _ (by repeat (first | assumption | exact Below.refl _ _ | refine below_drewN ?_ _ | refine below_alloc ?_ _ | refine below_then ?_ (by assumption)))
    · have cf := first_any hst.out.ti.tm.pile hq
      obtain ⟨x, hx⟩ : ∃ x, M.getD 0 Sl.sl0 = x := ⟨_, rfl⟩
      obtain ⟨x0, x1, x2⟩ := x
      rw [hx] at cf
      unfold sv at cf
      have hf1 : ∀ W, (Instr.field 88 (.agg #[.int .i64 x0, .int .i64 x1, .int .i64 x2]) 0).run Tryd.prog W = .ok (.agg #[.int .i64 x0, .int .i64 x1]) W := fun W => by rfl
      have hf2 : ∀ W, (Instr.field 86 (.agg #[.int .i64 x0, .int .i64 x1]) 0).run Tryd.prog W = .ok (.int .i64 x0) W := fun W => by rfl
      have hf3 : ∀ W, (Instr.field 86 (.agg #[.int .i64 x0, .int .i64 x1]) 1).run Tryd.prog W = .ok (.int .i64 x1) W := fun W => by rfl
      have hta : ∀ W, (Instr.typeAssert (.iface 88 (.agg #[.int .i64 x0, .int .i64 x1, .int .i64 x2])) 20 88 false).run Tryd.prog W = .ok (.agg #[.int .i64 x0, .int .i64 x1, .int .i64 x2]) W := fun W => by rfl
      by_cases h1 : x0 ≤ now
      · obtain ⟨q, hqq⟩ : ∃ q, M.length = q + 1 := ⟨M.length - 1, by omega⟩
        have cp : Hid (∀ W, Below wr.heap.size wr W → Calls Tryd.prog 33 #[.iface 91 (.pointer (some ⟨p, 0, none⟩))] W fun e w' => e = .returned (.iface 88 (.agg #[.int .i64 x0, .int .i64 x1, .int .i64 x2])) ∧ Hid (Below wr.heap.size wr W ∧ Popped W p v4 M n e w')) := Lib.hid fun W hW => by
          have t := hst.out.ti.below hW
          refine (pop_any t.tm t.ok hqq).mono fun e w' h => ?_
          have he := h.1
          rw [hx] at he
          exact ⟨he, Lib.hid ⟨hW, h⟩⟩
        have hstep : Hid (∀ (W w4 w5 : World) (e : Ending) (u2 : Value) (w6 : World), Below wr.heap.size wr W → Popped W p v4 M n e w4 → Below w4.heap.size w4 w5 → GRow 1 w6 u2 (D.length + 1) (gs D ++ [.int .i64 x1]) → Wrote (fun k => (Value.slice s2 D.length c2).ownBlock = some k) w5 (fun k => u2.ownBlock = some k) w6 → ∃ s5 c5, u2 = .slice s5 (D ++ [(x0, x1, x2)]).length c5 ∧ Hid (∃ v2 M2, Df w v0 B w6 p v2 u2 L (D ++ [(x0, x1, x2)]) M2 n now)) := Lib.hid fun W w4 w5 e u2 w6 hW hP hb hr hw => by
          obtain ⟨s5, c5, e5⟩ := hr.slice
          exact ⟨s5, c5, by rw [e5, List.length_append]; rfl, Lib.hid (hst.out.step hx h1 W hW hP hb hr hw)⟩
        have hrow : Hid (∀ (W w4 w5 : World) (e : Ending), Below wr.heap.size wr W → Popped W p v4 M n e w4 → Below w4.heap.size w4 w5 → GRow 1 w5 (.slice s2 D.length c2) D.length (gs D)) := Lib.hid fun W w4 w5 e hW ⟨_, v2, M2, k1, k2, k3, k4⟩ hb =>
          ((hst.out.row.below hW).wrote k4 (fun k hk => hst.out.off k hk)).below hb
        have hbd : D.length + 1 ≤ 1000000 := by omega
        clear hst hx
        go_wp2_with fail
        with_reducible refine Calls.mono (cl) ?_
        rintro e w2 ⟨rfl, rfl⟩
        go_wp2_with fail
        with_reducible refine Calls.mono (cf) ?_
        rintro e w3 ⟨rfl, hb3⟩
        go_wp2_with fail
        with_reducible refine Calls.mono (cp.out _ (by repeat (first | assumption | exact Below.refl _ _ | refine below_drewN ?_ _ | refine below_alloc ?_ _ | refine below_then ?_ (by assumption)))) ?_
        rintro e w4 ⟨rfl, hp4⟩
        have hrow4 := Lib.hid fun w5 hb => hrow.out w3 w4 w5 _ hp4.out.1 hp4.out.2 hb
        have key4 := Lib.hid fun w5 u2 w6 hb => hstep.out w3 w4 w5 _ u2 w6 hp4.out.1 hp4.out.2 hb
        clear cp hp4 hpc hrow hstep hb3 cl cf
        go_wp2_with (at_builtin; refine wpList_append_g rfl (.tmp 25) (.tmp 34) rfl rfl eltI (hrow4.out _ (below_alloc (Below.refl _ _) _)) rfl rfl (src_int x1 w4) hbd ?_; intro u2 w5 g1 g2; obtain ⟨s5, c5, rfl, hk⟩ := key4.out _ u2 w5 (below_alloc (Below.refl _ _) _) g1 g2; clear g1 g2 hrow4 key4)
        obtain ⟨v2, M2, hk⟩ := hk.out
        replace hk := Lib.hid hk
        go_wp2_with fail
        go_roundg (L.length - (D ++ [(x0, x1, x2)]).length)
        case measure => rw [List.length_append, List.length_singleton]; omega
        case rel => exact ⟨D ++ [(x0, x1, x2)], M2, v2, s5, c5, by simp, by rw [List.length_append, List.length_singleton]; omega, hk⟩
      · have hfin : Hid (∀ W, Below wr.heap.size wr W → Duef w v0 B p L n now (.returned (.slice s2 D.length c2)) W) := Lib.hid fun W hW => ⟨_, D, M, v4, rfl, hst.out.bel hW, fun b hb => by
          obtain ⟨c, hc, rfl⟩ := List.getElem_of_mem hb
          have hl := hst.out.ti.ok.least Sl.ahead_ord c c (Nat.le_refl c) hc
          rw [hx, getD_at hc] at hl
          unfold Sl.ahead at hl
          simp only [decide_eq_false_iff_not] at hl
          omega⟩
        clear hst hx
        go_wp2_with fail
        with_reducible refine Calls.mono (cl) ?_
        rintro e w2 ⟨rfl, rfl⟩
        go_wp2_with fail
        with_reducible refine Calls.mono (cf) ?_
        rintro e w3 ⟨rfl, hb3⟩
        go_wp2_with fail
        go_ret
        exact hfin.out _ (by repeat (first | assumption | exact Below.refl _ _ | refine below_drewN ?_ _ | refine below_alloc ?_ _ | refine below_then ?_ (by assumption)))
end Pt
end Go.Proofs.YtdhkakjiahkjnaaDoor
