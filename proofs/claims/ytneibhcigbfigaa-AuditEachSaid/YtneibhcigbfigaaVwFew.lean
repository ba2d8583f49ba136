/- treadmilllaw29.Few: whether a view is few. -/
import Derived.Test.YtneibhcigbfigaaVwTold
namespace Go.Proofs.Ytneibhcigbfigaa
open Go.RowKit Go.Lib Fx Ho Gr
set_option linter.unusedVariables false
set_option linter.unusedSimpArgs false
namespace Vw
variable {w w' W : World} {vg vs vo : Value} {V : Vi}
theorem mem_getD {α : Type} {l : List α} {x : α} (d : α) (h : x ∈ l) : ∃ i, i < l.length ∧ l.getD i d = x := by
  obtain ⟨i, hi, rfl⟩ := List.getElem_of_mem h
  exact ⟨i, hi, by rw [List.getD_eq_getElem?_getD, List.getElem?_eq_getElem hi]; rfl⟩
def FewR (w : World) (V : Vi) (e : Ending) (w' : World) : Prop := (∃ b, e = .returned (.bool b) ∧ (b = true → Fw V)) ∧ Below w.heap.size w w'
set_option maxRecDepth 100000 in
set_option maxHeartbeats 4000000 in
theorem few_any (h : IsV w V vg vs vo) : Calls Try.prog 17 #[vv V vg vs vo] w (FewR w V) := by
  obtain ⟨W1, hW1⟩ : ∃ W1, w.alloc (.cells #[.int .i64 V.ph, .int .i64 V.cy, .int .i64 V.ck, vg, vs, vo, .int .i64 V.gr, .int .i64 V.nt, .int .i64 V.rt] 32) = W1 := ⟨_, rfl⟩
  have hb1 := below_alloc (Below.refl _ w) (.cells #[.int .i64 V.ph, .int .i64 V.cy, .int .i64 V.ck, vg, vs, vo, .int .i64 V.gr, .int .i64 V.nt, .int .i64 V.rt] 32)
  have k1 := heap_alloc_new w (.cells #[.int .i64 V.ph, .int .i64 V.cy, .int .i64 V.ck, vg, vs, vo, .int .i64 V.gr, .int .i64 V.nt, .int .i64 V.rt] 32)
  rw [hW1] at hb1 k1
  have h1 := h.below hb1
  obtain ⟨sg, cg, rfl, hml, -⟩ := h1.gl
  obtain ⟨ss, cs, rfl, hmg, hgs⟩ := h1.gs
  obtain ⟨sp, cap, rfl, hmx, hos⟩ := h1.os
  obtain ⟨l, hl0⟩ : ∃ l, V.gl.length = l := ⟨_, rfl⟩
  obtain ⟨g, hg0⟩ : ∃ g, V.gs.length = g := ⟨_, rfl⟩
  obtain ⟨m, hm0⟩ : ∃ m, V.os.length = m := ⟨_, rfl⟩
  have c3 : W1.cell? ⟨w.heap.size, 3, none⟩ = some (.slice sg V.gl.length cg) := cell_of k1 rfl
  have c4 : W1.cell? ⟨w.heap.size, 4, none⟩ = some (.slice ss V.gs.length cs) := cell_of k1 rfl
  have c5 : W1.cell? ⟨w.heap.size, 5, none⟩ = some (.slice sp V.os.length cap) := cell_of k1 rfl
  have hat : Hid (∀ i, i < m → ∃ b off sp2 p2, sp = some ⟨b, off, none⟩ ∧ W1.cell? ⟨b, off + i * 3 + 1, none⟩ = some (.slice sp2 (V.os.getD i o0).2.1.length p2)) := Lib.hid fun i hi => by
    obtain ⟨b, off, sv, e1, _, e3, e4, e5, e6⟩ := hos i (by omega)
    obtain ⟨sp2, p2, rfl, _⟩ := e6
    exact ⟨b, off, sp2, p2, e1, e4⟩
  have hgt : Hid (∀ i, i < g → ∃ b off sp2 p2, ss = some ⟨b, off, none⟩ ∧ W1.cell? ⟨b, off + i * 3 + 2, none⟩ = some (.slice sp2 (V.gs.getD i g0).2.2.length p2)) := Lib.hid fun i hi => by
    obtain ⟨b, off, sv, e1, _, e3, e4, e5, e6⟩ := hgs i (by omega)
    obtain ⟨sp2, p2, rfl, _⟩ := e6
    exact ⟨b, off, sp2, p2, e1, e5⟩
  have hst : Hid (∀ W, Below W1.heap.size W1 W → Below w.heap.size w W) := Lib.hid fun W hW => hb1.trans (hW.mono hb1.size)
  have hend : Hid (l ≤ 40 → g ≤ 40 → m ≤ 40 → (∀ j, j < m → (V.os.getD j o0).2.1.length ≤ 300) → (∀ j, j < g → (V.gs.getD j g0).2.2.length ≤ 40) → Fw V) := Lib.hid fun a1 a2 a3 a4 a5 => ⟨by omega, by omega, by omega, fun x hx => by
    obtain ⟨i, hi, rfl⟩ := mem_getD g0 hx
    exact a5 i (by omega), fun x hx => by
    obtain ⟨i, hi, rfl⟩ := mem_getD o0 hx
    exact a4 i (by omega)⟩
  unfold vv
  rw [hl0] at hml c3
  rw [hg0] at hmg c4
  rw [hm0] at hmx c5
  rw [hl0, hg0, hm0] at hW1 ⊢
  clear h h1 hos hgs k1 hb1 hm0 hg0 hl0
  go_enter Try.func17, Try.ntmps17
  go_upto_region 1 with fail
  try rw [hW1]
  clear hW1
  go_wp2_with fail
  go_loopw [2, 3] (fun u2 u3 wr => ∃ i : Nat, u3 = .int .i64 i ∧ i ≤ m ∧ Hid (∀ j, j < i → (V.os.getD j o0).2.1.length ≤ 300) ∧ Hid (Below W1.heap.size W1 wr)) (fun _ u _ => (m - (RowKit.intOf u).toNat))
  case atStart => exact ⟨0, rfl, by omega, Lib.hid fun j hj => absurd hj (by omega), Lib.hid (Below.refl _ _)⟩
  case round =>
    obtain ⟨i, rfl, hi, hall, hbw⟩ := hrel
    have i0 : (0 : Int) ≤ (i : Int) := by omega
    have d3 := cell_then hbw.out c3
    have d4 := cell_then hbw.out c4
    have d5 := cell_then hbw.out c5
    by_cases hlt : i < m
    · clear d3 d4 c3 c4 c5
      have i2 : (i : Int) < (m : Int) := by omega
      obtain ⟨b, off, sp2, p2, rfl, e4⟩ := hat.out i hlt
      have e5 := cell_then hbw.out e4
      clear e4
      have hnx : Hid ((V.os.getD i o0).2.1.length ≤ 300 → ∀ j, j < i + 1 → (V.os.getD j o0).2.1.length ≤ 300) := Lib.hid fun h0 j hj => by
        by_cases e : j = i
        · rw [e]; exact h0
        · exact hall.out j (by omega)
      generalize (V.os.getD i o0).2.1.length = n at *
      by_cases hn : n ≤ 300
      · have i3 : ¬ ((300 : Int) < (n : Int)) := by omega
        have hnx := Lib.hid (hnx.out hn)
        go_wp2_with fail
        go_roundw
        case rel => exact ⟨i + 1, by go_num, by omega, hnx, hbw⟩
        case measure => simp [RowKit.intOf]; omega
      · have i3 : (300 : Int) < (n : Int) := by omega
        go_wp2_with fail
        go_ret
        exact ⟨⟨false, rfl, fun hh => by cases hh⟩, hst.out _ hbw.out⟩
    · obtain rfl : m = i := by omega
      have i2 : ¬ ((m : Int) < (m : Int)) := by omega
      clear hlt hat
      go_wp2_with fail
      clear d3 d4 d5
      have hbw0 := hbw
      go_loopw [2, 4] (fun u2 u4 wx => ∃ i : Nat, u4 = .int .i64 i ∧ i ≤ g ∧ Hid (∀ j, j < i → (V.gs.getD j g0).2.2.length ≤ 40) ∧ Hid (Below W1.heap.size W1 wx)) (fun _ u _ => (g - (RowKit.intOf u).toNat))
      case atStart => exact ⟨0, rfl, by omega, Lib.hid fun j hj => absurd hj (by omega), hbw⟩
      case round =>
        clear hbw hbw0
        obtain ⟨i, rfl, hi, hal2, hbw⟩ := hrel
        have i0 : (0 : Int) ≤ (i : Int) := by omega
        have d3 := cell_then hbw.out c3
        have d4 := cell_then hbw.out c4
        have d5 := cell_then hbw.out c5
        by_cases hlt : i < g
        · clear d3 d5 c3 c4 c5
          have i4 : (i : Int) < (g : Int) := by omega
          obtain ⟨b, off, sp2, p2, rfl, e4⟩ := hgt.out i hlt
          have e5 := cell_then hbw.out e4
          clear e4
          have hnx : Hid ((V.gs.getD i g0).2.2.length ≤ 40 → ∀ j, j < i + 1 → (V.gs.getD j g0).2.2.length ≤ 40) := Lib.hid fun h0 j hj => by
            by_cases e : j = i
            · rw [e]; exact h0
            · exact hal2.out j (by omega)
          generalize (V.gs.getD i g0).2.2.length = n at *
          by_cases hn : n ≤ 40
          · have i3 : ¬ ((40 : Int) < (n : Int)) := by omega
            have hnx := Lib.hid (hnx.out hn)
            go_wp2_with fail
            go_roundw
            case rel => exact ⟨i + 1, by go_num, by omega, hnx, hbw⟩
            case measure => simp [RowKit.intOf]; omega
          · have i3 : (40 : Int) < (n : Int) := by omega
            go_wp2_with fail
            go_ret
            exact ⟨⟨false, rfl, fun hh => by cases hh⟩, hst.out _ hbw.out⟩
        · obtain rfl : g = i := by omega
          have i4 : ¬ ((g : Int) < (g : Int)) := by omega
          clear hlt hgt
          have hfin := Lib.hid (hst.out _ hbw.out)
          have hF : Hid (l ≤ 40 → g ≤ 40 → m ≤ 40 → Fw V) := Lib.hid fun a1 a2 a3 => hend.out a1 a2 a3 hall.out hal2.out
          clear hst hbw hend hall hal2
          by_cases hm : m ≤ 40
          · have j1 : (m : Int) ≤ 40 := by omega
            by_cases hg : g ≤ 40
            · have j2 : (g : Int) ≤ 40 := by omega
              by_cases hl : l ≤ 40
              · have j3 : (l : Int) ≤ 40 := by omega
                have hF := Lib.hid (hF.out hl hg hm)
                go_wp2_with fail
                go_ret
                exact ⟨⟨_, rfl, fun _ => hF.out⟩, hfin.out⟩
              · have j3 : ¬ ((l : Int) ≤ 40) := by omega
                go_wp2_with fail
                go_ret
                exact ⟨⟨_, rfl, fun hh => by simp at hh⟩, hfin.out⟩
            · have j2 : ¬ ((g : Int) ≤ 40) := by omega
              go_wp2_with fail
              go_ret
              exact ⟨⟨_, rfl, fun hh => by simp at hh⟩, hfin.out⟩
          · have j1 : ¬ ((m : Int) ≤ 40) := by omega
            go_wp2_with fail
            go_ret
            exact ⟨⟨_, rfl, fun hh => by simp at hh⟩, hfin.out⟩
end Vw
end Go.Proofs.Ytneibhcigbfigaa
