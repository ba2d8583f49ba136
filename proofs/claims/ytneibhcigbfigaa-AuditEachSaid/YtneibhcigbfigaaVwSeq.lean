/- slices.Values and slices.Sorted at numbers: a range over a function that appends. -/
import Derived.RangeFuncBox
import Derived.RangeFuncLeaves
import Derived.Shelf.Abstract
import Derived.WalkKit
import Derived.OwnWalkIn
import Derived.TacticsInMore
import Derived.LoopNIn
import Derived.LoopIn
import Derived.Maps.AppendAt
import Derived.Test.YtneibhcigbfigaaVwRising
namespace Go.Proofs.Ytneibhcigbfigaa
open Go.RowKit Go.Lib Fx Ho Gr Go.Shelf
set_option linter.unusedVariables false
attribute [local go_sem] Oper.semAt_some
namespace Vw
variable {w w' W : World} {zs : List Int} {sv v : Value} {S : Home}
theorem infoI3 : (Try.prog.info? 3).map (fun i => (i.zero, i.size, i.bytes)) = some (some (.int .i64 0), 1, 8) := by kernel_rfl
set_option maxRecDepth 100000 in
set_option maxHeartbeats 2000000 in
/-- The iterator's rounds, for every body that keeps what lay below n0. -/
theorem values1_in (n : Nat) (hn : 1 ≤ n) (l Bs n0 : Nat) (hlen : zs.length ≤ 1000000) (J Jx : List Int → World → Prop)
    (hY : ∀ pre x W, J pre W → pre.length < zs.length → YieldAt Fence.wide (n - 1) Try.prog l #[.int .i64 x] W fun e W' => (e = .returned (.bool true) ∧ J (pre ++ [x]) W' ∧ Below n0 W W') ∨ (e = .returned (.bool false) ∧ Jx (pre ++ [x]) W'))
    (hBs : W.cell? ⟨Bs, 0, none⟩ = some sv) (hI : Ints W (fun k => k < n0) sv zs) (h0 : J [] W) :
    CallsIn Fence.wide n Try.prog 100 #[.func (.yield l) #[] #[], .pointer (some ⟨Bs, 0, none⟩)] W fun e W' => (∃ v, e = .returned v) ∧ (J zs W' ∨ ∃ pre, Jx pre W') := by
  obtain ⟨sp, cap, rfl, hm, hc⟩ := hI
  obtain ⟨len, hl⟩ : ∃ len, zs.length = len := ⟨_, rfl⟩
  have hcell : Hid (∀ k, k < len → ∃ b off, sp = some ⟨b, off, none⟩ ∧ b < n0 ∧ W.cell? ⟨b, off + k, none⟩ = some (.int .i64 (zs.getD k 0))) := Lib.hid fun k hk => by
    obtain ⟨b, off, e, hb, _, h⟩ := hc k (by omega)
    exact ⟨b, off, e, hb, h⟩
  have hnx : Hid (∀ k, k < len → zs.take (k + 1) = zs.take k ++ [zs.getD k 0]) := Lib.hid fun k hk => by
    rw [List.take_add_one, List.getElem?_eq_getElem (by omega), List.getD_eq_getElem?_getD, List.getElem?_eq_getElem (by omega)]; rfl
  have hfin : Hid (∀ W', J (zs.take len) W' → J zs W') := Lib.hid fun W' h => by rw [List.take_of_length_le (by omega)] at h; exact h
  have hY2 : Hid (∀ k, k < len → ∀ W, J (zs.take k) W → YieldAt Fence.wide (n - 1) Try.prog l #[.int .i64 (zs.getD k 0)] W fun e W' => (e = .returned (.bool true) ∧ J (zs.take k ++ [zs.getD k 0]) W' ∧ Below n0 W W') ∨ (e = .returned (.bool false) ∧ Jx (zs.take k ++ [zs.getD k 0]) W')) := Lib.hid fun k hk W h => hY _ _ W h (by rw [List.length_take]; omega)
  have h0' : J (zs.take 0) W := h0
  rw [hl] at hBs hlen
  clear hY hc h0 hl hm
  refine callsIn_of_wp Try.func100 rfl trivial ?_ rfl
  simp only [Try.ntmps100, List.size_toArray, List.length_cons, List.length_nil, Nat.reduceAdd, Nat.reduceSub, Array.replicate_succ, Array.replicate_zero, List.push_toArray, List.append_toArray, List.nil_append, List.cons_append]
  gi_wp2
  gi_loopw [7] (fun i wr => ∃ k : Nat, k ≤ len ∧ i = .int .i64 k ∧ J (zs.take k) wr ∧ Below n0 W wr)
    (fun i _ => len - (intOf i).toNat)
  case atStart => exact ⟨0, Nat.zero_le _, rfl, h0', Below.refl _ _⟩
  case round =>
    obtain ⟨k, hk, rfl, hJs, hbw⟩ := hrel
    by_cases hlt : k < len
    · obtain ⟨b, off, rfl, hb, hcz⟩ := hcell.out k hlt
      have hcx' : wr.cell? ⟨b, off + k, none⟩ = some (.int .i64 (zs.getD k 0)) := (hbw.cell (p := ⟨b, off + k, none⟩) hb).trans hcz
      obtain ⟨fn, tmps, assign, body, hy, hR⟩ := hY2.out k hlt wr hJs
      rw [← hnx.out k hlt] at hR
      obtain ⟨x, hx⟩ : ∃ x, zs.getD k 0 = x := ⟨_, rfl⟩
      rw [hx] at hcx' hy
      clear hx hcz
      gi_wp2
      refine hR.mono ?_
      rintro e W3 (⟨rfl, hJ3, hk3⟩ | ⟨rfl, hf⟩)
      · gi_wp2
        go_roundw
        case rel => exact ⟨k + 1, by omega, by simp, hJ3, hbw.trans hk3⟩
        case measure => simp [intOf]; omega
      · gi_wp2
        refine bodyPost_ret (results_none rfl _ _ _) rfl ?_
        exact ⟨⟨_, rfl⟩, .inr ⟨_, hf⟩⟩
    · obtain rfl : k = len := by omega
      have hJf := hfin.out wr hJs
      gi_wp2
      go_end0
      exact ⟨⟨_, rfl⟩, .inl hJf⟩
theorem values_stops (n : Nat) (hn : 1 ≤ n) (Bs n0 : Nat) (hlen : zs.length ≤ 1000000) (hBs : Bs < w.heap.size) (hn0 : n0 ≤ w.heap.size) (hc : w.cell? ⟨Bs, 0, none⟩ = some sv) (hI : Ints w (fun k => k < n0) sv zs) :
    SeqStopsK Fence.wide n Try.prog 100 #[.pointer (some ⟨Bs, 0, none⟩)] (fun x : Int => #[Value.int .i64 x]) (Below n0) (fun ys => ys = zs) (fun _ => True) zs.length w := fun l J Jx W hW _ _ hY h0 => by
  have hc' := (hW.cell (p := ⟨Bs, 0, none⟩) hBs).trans hc
  have hI' : Ints W (fun k => k < n0) sv zs := by
    obtain ⟨sp, cap, e, hm, h⟩ := hI
    refine ⟨sp, cap, e, hm, fun i hi => ?_⟩
    obtain ⟨b, off, e1, e2, e3, e4⟩ := h i hi
    exact ⟨b, off, e1, e2, Nat.lt_of_lt_of_le e3 hW.size, cell_then hW e4⟩
  refine (values1_in n hn l Bs n0 hlen J Jx hY hc' hI' h0).mono ?_
  rintro e W' ⟨he, h | ⟨pre, h⟩⟩
  · exact ⟨he, .inl ⟨zs, rfl, h⟩⟩
  · exact ⟨he, .inr ⟨pre, trivial, h⟩⟩
set_option maxRecDepth 100000 in
set_option maxHeartbeats 2000000 in
/-- slices.AppendSeq behind nothing, of slices.Values. -/
theorem appendSeq_in (n : Nat) (hn : 3 ≤ n) (Bs : Nat) (hlen : zs.length ≤ 1000000) (hBs : Bs < w.heap.size) (hc : w.cell? ⟨Bs, 0, none⟩ = some sv) (hI : Ints w (fun k => k < w.heap.size) sv zs) :
    CallsIn Fence.wide n Try.prog 116 #[.slice none 0 0, .func (.func 100) #[] #[.pointer (some ⟨Bs, 0, none⟩)]] w fun e W' => ∃ v, e = .returned v ∧ W'.ownsRow w.heap.size 3 1 v zs.length (zs.map (Value.int .i64)) ∧ Below w.heap.size w W' := by
  have h1 : 1 ≤ n := by omega
  obtain ⟨i0, hi, hz0, hz1, hz2⟩ := info_parts infoI3
  have hmx : (1000000 : Nat) ≤ maxLen := by unfold maxLen; omega
  refine callsIn_of_wp_marks Try.func116 rfl trivial ?_ rfl
  simp only [Try.ntmps116, List.size_toArray, List.length_cons, List.length_nil, Nat.reduceAdd, Nat.reduceSub, Array.replicate_succ, Array.replicate_zero, List.push_toArray, List.append_toArray, List.nil_append, List.cons_append]
  gi_wp2
  have bO := Boxed.new w 23 (.slice none 0 0)
  have hB0 : Below w.heap.size w (w.alloc (.cells #[.slice none 0 0] 23)) := (Below.refl _ w).alloc (Nat.le_refl _) _
  have hIB : Ints (w.alloc (.cells #[.slice none 0 0] 23)) (fun k => k < w.heap.size) sv zs := by
    obtain ⟨sp, cap, e, hm, h⟩ := hI
    refine ⟨sp, cap, e, hm, fun i hi => ?_⟩
    obtain ⟨b, off, e1, e2, e3, e4⟩ := h i hi
    exact ⟨b, off, e1, e2, Nat.lt_of_lt_of_le e3 hB0.size, cell_then hB0 e4⟩
  refine wpIn_rangeFunc_ownG rfl h1 (gf := 100) (lb := #[.pointer (some ⟨Bs, 0, none⟩)]) rfl trivial (enters_of Try.func100 (by kernel_rfl) rfl)
    (values_stops (zs := zs) (sv := sv) (w := w.alloc (.cells #[.slice none 0 0] 23)) (n - 1) (by omega) Bs w.heap.size hlen (by simp; omega) (by simp) (cell_then hB0 hc) hIB) belowK_t (belowK_b (by simp)) (Below.refl _ _) (fun _ => rfl)
    (fun pre W => (∃ v, Boxed W w.heap.size 23 v ∧ W.ownsRow w.heap.size 3 1 v pre.length (pre.map (Value.int .i64)) ∧ (v = .slice none 0 0 ↔ pre = [])) ∧ Below w.heap.size w W)
    (fun _ _ _ => False)
    (OwnFrom.and (Own.from (holdsRow_own w.heap.size w.heap.size 23 3 1 (fun pre : List Int => pre.length) (fun pre => pre.map (Value.int .i64)) (fun pre v => v = .slice none 0 0 ↔ pre = [])) _) (ownFrom_below (Nat.le_refl _) (by simp)))
    (fun _ _ _ _ _ hs _ _ => hs)
    ⟨⟨_, bO, World.ownsRow_nil _ _ _ _, by simp⟩, hB0⟩
    (fun x => { tmps := #[.slice none 0 0, .func (.func 100) #[] #[.pointer (some ⟨Bs, 0, none⟩)], .pointer (some ⟨w.heap.size, 0, none⟩), undef, .slice none 0 0, .int .i64 x, .func (.func 100) #[] #[.pointer (some ⟨Bs, 0, none⟩)], .int .i64 x, undef, undef, undef, undef, undef], defers := [] }) ?assign ?body ?done ?stop
  case assign =>
    intro l x W K hK
    gi_wp2
    exact hK
  case body =>
    rintro l pre x W ⟨⟨v, hv, hrow, hnil⟩, hB⟩ hlt
    have hc := hv.cell
    gi_wp2_with (gi_at_builtin; refine wpListIn_append_own _ rfl _ _ 23 rfl w.heap.size 3 i0 (.int .i64 0) 1 8 Try.underlying23 hi hz0 hz1 hz2 rfl (by decide) _ _ _ rfl (hrow.alloc _) ⟨W.heap.size, 0, none⟩ 1 1 [.int .i64 x] rfl rfl (cell_one_new _ _ _) (by simp [Value.oneCell']) (by omega) (by omega) (by have := hB.size; simp; omega) ?_; intro v' w1 hown' hgrow _; obtain ⟨g', cap', rfl⟩ := ownsRow_succ hown'; obtain ⟨hv1, hv2, hr2, hk2, hb2⟩ := hv.appended (by decide) hrow hB.size (Nat.le_refl _) hown' hgrow; have hc1 := hv1.cell; have hf1 := hv1.frozen)
    exact ⟨hk2.from _, hb2, ⟨_, hv2, by simpa using hr2, by simp⟩, hB.trans hb2⟩
  case done =>
    rintro D ys W hD rfl ⟨⟨v, hv, hrow, hnil⟩, hB⟩ hK
    have hc := hv.cell
    gi_wp2
    refine ⟨by simp, .inl ⟨_, _, rfl, run_takeDeferred hK, ?_⟩⟩
    exact ⟨_, results_tmp rfl _ _ _, v, rfl, ownsRow_putObj hrow _ hK rfl, hB.trans (belowK_b (w := w) (Nat.le_refl _) W D _ _ (by simp at hD; omega) hK rfl rfl)⟩
  case stop =>
    rintro D c pre W _ _ h _
    exact h.elim
end Vw
end Go.Proofs.Ytneibhcigbfigaa
