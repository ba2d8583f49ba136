/- Slices of whole numbers that lie somewhere from a block on, and what the document's own comparison of two answers where both hold the same. -/
import Derived.Test.YtoamabmnbldgkaaDoorSetArgs
namespace Go.Proofs.YtoamabmnbldgkaaDoor
open Go.ChangeShapes Go.WideShapes Go.WideElems Go.RowKit Go.Lib Fx Bm
set_option linter.unusedVariables false

/-- The slice v holds the numbers zs, in a block from lo on. -/
def IntsAt (w : World) (lo : Nat) (v : Value) (zs : List Int) : Prop :=
  ∃ sp cap, v = .slice sp zs.length cap ∧ zs.length ≤ 9223372036854775807 ∧ ∀ i, i < zs.length → ∃ b off, sp = some ⟨b, off, none⟩ ∧ lo ≤ b ∧ b < w.heap.size ∧ w.cell? ⟨b, off + i, none⟩ = some (.int .i64 (zs.getD i 0))
theorem IntsArg.at_ {w : World} {v : Value} {zs : List Int} (h : IntsArg w v zs) : IntsAt w 0 v zs := by
  rcases h with ⟨sp, cap, rfl, rfl⟩ | ⟨b, off, cap, rfl, h1, h2, h3⟩
  · exact ⟨sp, cap, rfl, by simp, fun i hi => by simp at hi⟩
  · exact ⟨_, cap, rfl, h1, fun i hi => ⟨b, off, rfl, Nat.zero_le _, h2, h3 i hi⟩⟩
theorem IntsAt.keep {w w' : World} {lo : Nat} {v : Value} {zs : List Int} {row : Option Nat} (h : IntsAt w lo v zs) (hg : w.grownBy w' row) (hr : ∀ c, row = some c → c < lo) : IntsAt w' lo v zs := by
  obtain ⟨sp, cap, e, h1, h2⟩ := h
  refine ⟨sp, cap, e, h1, fun i hi => ?_⟩
  obtain ⟨b, off, e2, h3, h4, h5⟩ := h2 i hi
  refine ⟨b, off, e2, h3, Nat.lt_of_lt_of_le h4 hg.size, ?_⟩
  rw [World.cell?_of_block (hg.block b h4 (fun e => by have := hr b e.symm; omega))]
  exact h5
theorem IntsAt.below {w w' : World} {lo : Nat} {v : Value} {zs : List Int} (h : IntsAt w lo v zs) (hb : Below w.heap.size w w') : IntsAt w' lo v zs :=
  h.keep (row := none) ⟨hb.os, hb.tape, hb.output, hb.size, fun k hk _ => hb.block k hk⟩ fun _ h => by cases h
theorem ints_of_owns {w : World} {base : Nat} {v : Value} {xs : List Nat} (h : w.ownsRow base 3 1 v xs.length (xs.map fun (x : Nat) => Value.int .i64 x)) : IntsAt w base v (xs.map fun (x : Nat) => (x : Int)) := by
  rcases h.2 with ⟨rfl, h0⟩ | ⟨g, cap, cur, rfl, h1, h2, h3, h4, h5, h6⟩
  · have : xs = [] := List.eq_nil_of_length_eq_zero h0
    subst this
    exact ⟨none, 0, rfl, by simp, fun i hi => by simp at hi⟩
  · refine ⟨_, cap, by rw [List.length_map], by rw [List.length_map]; unfold maxLen at h4; omega, fun i hi => ⟨g, 0, rfl, h1, (Array.getElem?_eq_some_iff.1 h2).1, ?_⟩⟩
    rw [List.length_map] at hi
    have e : cur[i]? = some (Value.int .i64 ((xs.map fun (x : Nat) => (x : Int)).getD i 0)) := by
      have e1 : (cur.toList.take (xs.length * 1))[i]? = (xs.map fun (x : Nat) => Value.int .i64 x)[i]? := by rw [h6]
      rw [List.getElem?_take_of_lt (by omega), Array.getElem?_toList, List.getElem?_map] at e1
      rw [e1, List.getD_eq_getElem?_getD, List.getElem?_map]
      rw [List.getElem?_eq_getElem hi]
      rfl
    unfold World.cell?
    rw [Nat.zero_add]
    show (match w.heap[g]? with | some (.cells c _ _) => _ | _ => _) = _
    rw [h2]
    exact e
set_option maxRecDepth 100000 in
set_option maxHeartbeats 1000000 in
theorem ints_any {w : World} {lo lo2 : Nat} {v v2 : Value} {zs : List Int} (h : IntsAt w lo v zs) (h2 : IntsAt w lo2 v2 zs) : Calls Tryd.prog 22 #[v, v2] w (Ans (.bool true) w) := by
  obtain ⟨sp, cap, rfl, hm, hc⟩ := h
  obtain ⟨sp2, cap2, rfl, _, hc2⟩ := h2
  obtain ⟨m, hme⟩ : ∃ m, zs.length = m := ⟨_, rfl⟩
  rw [hme] at hm hc hc2 ⊢
  have hc : Hid _ := hc
  have hc2 : Hid _ := hc2
  go_enter Tryd.func22, Tryd.ntmps22
  go_wp2_with fail
  go_loopw [5] (fun u wr => ∃ i : Nat, u = .int .i64 i ∧ i ≤ m ∧ ∃ c, wr = w.drewN c) (fun u _ => (m - (intOf u).toNat))
  case atStart => exact ⟨0, rfl, by omega, 0, rfl⟩
  case round =>
    obtain ⟨i, rfl, i1, c, rfl⟩ := hrel
    by_cases hi : i < m
    · obtain ⟨b1, o1, rfl, _, _, k1⟩ := hc.out i hi
      obtain ⟨b2, o2, rfl, _, _, k2⟩ := hc2.out i hi
      have i2 : (i : Int) < (m : Int) := by omega
      have i0 : (0 : Int) ≤ (i : Int) := by omega
      generalize zs.getD i 0 = x at *
      go_wp2_with fail
      go_quiet (fail)
      go_wp2_with fail
      go_roundw
      case rel => exact ⟨i + 1, by go_num, by omega, _, rfl⟩
      case measure => simp [intOf]; omega
    · obtain rfl : m = i := by omega
      go_wp2_with fail
      go_ret
      exact ⟨rfl, _, rfl⟩
end Go.Proofs.YtoamabmnbldgkaaDoor
