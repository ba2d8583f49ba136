/- The document's own Pages: New, Alloc, Back; two lists of runs. -/
import Derived.Test.YtbheabjemaaeoabRPg2
namespace Go.Proofs.Ytbheabjemaaeoab
open Go.RowKit Go.Lib Fx Ho Gr Go.Sort
set_option linter.unusedVariables false
namespace Pg
variable {W0 w w1 w' W : World} {P X Y B R b n c i j k q K a N p t s D : Nat} {v v1 : Value} {H H' : Home} {F G : List Bool} {d : Array Pr2} {A A' L : List (Nat × Nat)} {r : Nat × Nat}
/-- Where the i-th of the row lies. -/
theorem row_at (h : GRow 2 w v L.length (rc L)) (hi : i < L.length) : ∃ b off cap, v = .slice (some ⟨b, off, none⟩) L.length cap ∧ w.cell? ⟨b, off + i * 2, none⟩ = some (.int .i64 (L.getD i (0, 0)).1) ∧ w.cell? ⟨b, off + i * 2 + 1, none⟩ = some (.int .i64 (L.getD i (0, 0)).2) := by
  obtain ⟨ao, b, off, cap, rfl, h1, h2, h3, h4⟩ := h.cell
  obtain ⟨rfl, _, _⟩ := h3 (by omega)
  obtain ⟨g1, g2⟩ := rc_get L i hi
  refine ⟨b, off, cap, rfl, (h4 _ _ g1).1, ?_⟩
  rw [Nat.add_assoc]; exact (h4 _ _ g2).1
theorem row_slice (h : GRow 2 w v L.length (rc L)) : ∃ sp cap, v = .slice sp L.length cap := h.slice
set_option maxRecDepth 100000 in
set_option maxHeartbeats 1000000 in
/-- Two lists of runs that are the same. -/
theorem same_runs {b0 cap : Nat} (hd : HoldsK encR 2 w b0 0 d) (hrow : GRow 2 w v L.length (rc L)) (he : d.toList = L.map prN) (hm : L.length ≤ 300000) : Calls Try.prog 16 #[.slice (some ⟨b0, 0, none⟩) d.size cap, v] w (AnsB (.bool true) w) := by
  have hl : d.size = L.length := by rw [← Array.length_toList, he, List.length_map]
  obtain ⟨sp, cp, ev⟩ := hrow.slice
  have hcx : Hid (∀ wr, Below w.heap.size w wr → ∀ j, j < L.length → ∃ b off, sp = some ⟨b, off, none⟩ ∧ ∃ x y : Int, wr.cell? ⟨b0, j * 2, none⟩ = some (.int .i64 x) ∧ wr.cell? ⟨b0, j * 2 + 1, none⟩ = some (.int .i64 y) ∧ wr.cell? ⟨b, off + j * 2, none⟩ = some (.int .i64 x) ∧ wr.cell? ⟨b, off + j * 2 + 1, none⟩ = some (.int .i64 y)) := Lib.hid fun wr hb j hj => by
    obtain ⟨c0, c1⟩ := holds_at hd (j := j) (by omega)
    obtain ⟨b, off, cap, e, c2, c3⟩ := row_at hrow hj
    rw [ev] at e
    cases e
    have hx : d[j]! = prN (L.getD j (0, 0)) := by
      have h1 : d.toList[j]? = (L.map prN)[j]? := by rw [he]
      rw [Array.getElem?_toList, List.getElem?_map, List.getElem?_eq_getElem hj, Array.getElem?_eq_getElem (show j < d.size by omega)] at h1
      rw [getElem!_pos d j (by omega), List.getD_eq_getElem?_getD, List.getElem?_eq_getElem hj]
      exact Option.some.inj h1
    rw [hx] at c0 c1
    exact ⟨b, off, rfl, _, _, cell_then hb c0, cell_then hb c1, cell_then hb c2, cell_then hb c3⟩
  rw [hl, ev]
  clear hd hrow he hl ev
  generalize L.length = l at *
  go_enter Try.func16, Try.ntmps16
  go_wp2_with fail
  go_loopw [5] (fun u5 wr => ∃ j : Nat, u5 = .int .i64 j ∧ j ≤ l ∧ Hid (Below w.heap.size w wr)) (fun y _ => (l - (RowKit.intOf y).toNat))
  case atStart => exact ⟨0, rfl, by omega, Lib.hid (Below.refl _ _)⟩
  case round =>
    obtain ⟨j, rfl, jn, hB⟩ := hrel
    have j0 : (0 : Int) ≤ (j : Int) := by omega
    by_cases hj : j < l
    · have j1 : (j : Int) < (l : Int) := by omega
      obtain ⟨b, off, rfl, x, y, c0, c1, c2, c3⟩ := hcx.out wr hB.out j hj
      have e1 : (x == x) = true := by simp
      have e2 : (y == y) = true := by simp
      have hB2 : Hid (∀ V, Below wr.heap.size wr V → Below w.heap.size w V) := Lib.hid fun V hV => hB.out.trans (hV.mono hB.out.size)
      clear hcx hB
      go_wp2_with fail
      go_quiet (fail)
      go_wp2_with fail
      go_roundw
      case rel => exact ⟨j + 1, by go_num, by omega, Lib.hid (hB2.out _ (by repeat (first | assumption | exact Below.refl _ _ | refine below_drewN ?_ _ | refine below_alloc ?_ _ | refine below_then ?_ (by assumption))))⟩
      case measure => simp [RowKit.intOf]; omega
    · obtain rfl : j = l := by omega
      have j1 : ¬ (j : Int) < (j : Int) := by omega
      go_wp2_with fail
      go_ret
      exact ⟨rfl, hB.out⟩
set_option maxRecDepth 100000 in
set_option maxHeartbeats 1000000 in
/-- Back, where the pages may not come back. -/
theorem back_bad (h : Rp w X Y n F) (hn : n ≤ 300000) (f k : Int) (hb : ¬ (1 ≤ f ∧ 1 ≤ k ∧ k ≤ (n : Int) - f)) : Calls Try.prog 15 #[.pointer (some ⟨X, 0, none⟩), .int .i64 f, .int .i64 k] w (Still (.int .i64 1) w) := by
  have c0 := h.c0
  clear h
  by_cases h1 : k < 1
  · have e1 : decide (k < 1) = true := decide_eq_true h1
    go_enter Try.func15, Try.ntmps15
    go_wp2_with fail
    go_ret
    exact ⟨rfl, rfl⟩
  · by_cases h2 : f < 1
    · go_enter Try.func15, Try.ntmps15
      go_wp2_with fail
      go_ret
      exact ⟨rfl, rfl⟩
    · by_cases h3 : (n : Int) ≤ f
      · go_enter Try.func15, Try.ntmps15
        go_wp2_with fail
        go_ret
        exact ⟨rfl, rfl⟩
      · have z1 : IntKind.i64.wrap ((n : Int) - f) = (n : Int) - f := by rw [IntKind.wrap_i64]; omega
        have h4 : (n : Int) - f < k := by omega
        go_enter Try.func15, Try.ntmps15
        go_wp2_with fail
        go_ret
        exact ⟨rfl, rfl⟩
set_option maxRecDepth 100000 in
set_option maxHeartbeats 2000000 in
/-- Back, of pages that there are. -/
theorem back_any (h : Rp w X Y n F) (hn : n ≤ 300000) (p1 : 1 ≤ p) (q1 : 1 ≤ q) (hpq : p + q ≤ n) : Calls Try.prog 15 #[.pointer (some ⟨X, 0, none⟩), .int .i64 p, .int .i64 q] w fun e w' => (Any F p q ∧ Still (.int .i64 5) w e w') ∨ ((∀ i, p ≤ i → i < p + q → F.getD i false = false) ∧ e = .returned (.int .i64 0) ∧ Rp w' X Y n (setR F p true q) ∧ Wrote (fun k => k = Y) w (fun k => k = Y) w') := by
  have c0 := h.c0
  have g1 : ¬ (q : Int) < 1 := by omega
  have g2 : ¬ (p : Int) < 1 := by omega
  have g3 : ¬ (n : Int) ≤ (p : Int) := by omega
  have g4 : ¬ (n : Int) - (p : Int) < (q : Int) := by omega
  have z1 : IntKind.i64.wrap ((n : Int) - (p : Int)) = (n : Int) - (p : Int) := by rw [IntKind.wrap_i64]; omega
  have p0 : (0 : Int) ≤ (p : Int) := by omega
  replace h := Lib.hid h
  go_enter Try.func15, Try.ntmps15
  go_wp2_with fail
  go_loopw [7] (fun u7 wr => ∃ j : Nat, u7 = .int .i64 j ∧ j ≤ q ∧ Hid (∀ i, p ≤ i → i < p + j → F.getD i false = false) ∧ wr = w) (fun y _ => (q - (RowKit.intOf y).toNat))
  case atStart => exact ⟨0, rfl, by omega, Lib.hid (fun i h1 h2 => by omega), rfl⟩
  case round =>
    obtain ⟨j, rfl, jq, hF, ew⟩ := hrel
    have ew := ew.symm
    subst ew
    have j0 : (0 : Int) ≤ (j : Int) := by omega
    by_cases hj : j < q
    · have j1 : (j : Int) < (q : Int) := by omega
      have i4 : (0 : Int) ≤ (p : Int) + (j : Int) := by omega
      have i5 : (p : Int) + (j : Int) < (n : Int) := by omega
      have i6 : ((p : Int) + (j : Int)).toNat = p + j := by omega
      obtain ⟨c1, _⟩ := h.out.at_ (p := p + j) (by omega)
      cases hx : F.getD (p + j) false with
      | true =>
        rw [hx] at c1
        replace hx := Lib.hid hx
        go_wp2_with fail
        go_ret
        exact .inl ⟨⟨p + j, by omega, by omega, hx.out⟩, rfl, rfl⟩
      | false =>
        rw [hx] at c1
        replace hx := Lib.hid hx
        go_wp2_with fail
        go_roundw
        case rel => exact ⟨j + 1, by go_num, by omega, Lib.hid (fun i h1 h2 => by
            rcases Nat.lt_or_ge i (p + j) with e | e
            · exact hF.out i h1 e
            · rw [show i = p + j by omega]; exact hx.out), by first | rfl | trivial⟩
        case measure => simp [RowKit.intOf]; omega
    · obtain rfl : j = q := by omega
      have j1 : ¬ (j : Int) < (j : Int) := by omega
      have hst : Hid (Rp w X Y n (setR F p true 0) ∧ Wrote (fun k => k = Y) w (fun k => k = Y) w) := Lib.hid ⟨h.out, Wrote.refl _ _⟩
      clear h c0
      go_wp2_with fail
      go_loopw [8] (fun u8 wx => ∃ i : Nat, u8 = .int .i64 i ∧ i ≤ j ∧ Hid (Rp wx X Y n (setR F p true i) ∧ Wrote (fun k => k = Y) w (fun k => k = Y) wx)) (fun y _ => (j - (RowKit.intOf y).toNat))
      case atStart => exact ⟨0, rfl, by omega, hst⟩
      case round =>
        clear hst
        obtain ⟨i, rfl, iq, hR⟩ := hrel
        have k0 : (0 : Int) ≤ (i : Int) := by omega
        by_cases hi : i < j
        · have k1 : (i : Int) < (j : Int) := by omega
          have i4 : (0 : Int) ≤ (p : Int) + (i : Int) := by omega
          have i5 : (p : Int) + (i : Int) < (n : Int) := by omega
          have i6 : ((p : Int) + (i : Int)).toNat = p + i := by omega
          have c0 := hR.out.1.c0
          obtain ⟨c1, c2⟩ := hR.out.1.at_ (p := p + i) (by omega)
          generalize (setR F p true i).getD (p + i) false = x at c1
          have hnx : Hid (Rp (wr.setCell ⟨Y, p + i, none⟩ (.bool true)) X Y n (setR F p true (i + 1)) ∧ Wrote (fun k => k = Y) w (fun k => k = Y) (wr.setCell ⟨Y, p + i, none⟩ (.bool true))) := Lib.hid ⟨hR.out.1.set true, hR.out.2.trans (wr1 _ _ _ _)⟩
          clear hR
          go_wp2_with fail
          go_roundw
          case rel => exact ⟨i + 1, by go_num, by omega, hnx⟩
          case measure => simp [RowKit.intOf]; omega
        · obtain rfl : i = j := by omega
          have k1 : ¬ (i : Int) < (i : Int) := by omega
          go_wp2_with fail
          go_ret
          exact .inr ⟨hF.out, rfl, hR.out⟩
end Pg
end Go.Proofs.Ytbheabjemaaeoab
