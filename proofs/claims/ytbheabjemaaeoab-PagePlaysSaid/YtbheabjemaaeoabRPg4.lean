/- The document's own Pages: New, Alloc. -/
import Derived.Test.YtbheabjemaaeoabRPg3
namespace Go.Proofs.Ytbheabjemaaeoab
open Go.RowKit Go.Lib Fx Ho Gr Go.Sort
set_option linter.unusedVariables false
namespace Pg
variable {W0 w w1 w' W : World} {P X Y B R b n c i j k q K a N p t s D m : Nat} {v v1 : Value} {H H' : Home} {F G : List Bool} {d : Array Pr2} {A A' L : List (Nat × Nat)} {r : Nat × Nat}
/-- Which one is the best of the first j. -/
def Bi (L : List (Nat × Nat)) (q j : Nat) (b : Int) : Prop := (b = -1 ∧ ∀ i, i < j → (L.getD i (0, 0)).2 < q) ∨ (∃ m : Nat, m < j ∧ b = (m : Int) ∧ q ≤ (L.getD m (0, 0)).2 ∧ ∀ i, i < j → q ≤ (L.getD i (0, 0)).2 → (L.getD m (0, 0)).2 < (L.getD i (0, 0)).2 ∨ ((L.getD m (0, 0)).2 = (L.getD i (0, 0)).2 ∧ m ≤ i))
theorem bi_zero (L : List (Nat × Nat)) (q : Nat) : Bi L q 0 (-1) := .inl ⟨rfl, fun i h => by omega⟩
theorem bi_less {b : Int} (h : Bi L q j b) (hj : (L.getD j (0, 0)).2 < q) : Bi L q (j + 1) b := by
  rcases h with ⟨e, h⟩ | ⟨m, h1, e, h2, h3⟩
  · refine .inl ⟨e, fun i hi => ?_⟩
    by_cases q : i = j
    · rw [q]; exact hj
    · exact h i (by omega)
  · refine .inr ⟨m, by omega, e, h2, fun i hi hq => ?_⟩
    by_cases q : i = j
    · rw [q] at hq; omega
    · exact h3 i (by omega) hq
theorem bi_first (h : Bi L q j (-1)) (hj : q ≤ (L.getD j (0, 0)).2) : Bi L q (j + 1) (j : Int) := by
  rcases h with ⟨e, h⟩ | ⟨m, h1, e, h2, h3⟩
  · refine .inr ⟨j, by omega, rfl, hj, fun i hi hq => ?_⟩
    by_cases e : i = j
    · subst e; exact .inr ⟨rfl, Nat.le_refl _⟩
    · have := h i (by omega); omega
  · omega
theorem bi_new (h : Bi L q j (m : Int)) (hj : q ≤ (L.getD j (0, 0)).2) (hl : (L.getD j (0, 0)).2 < (L.getD m (0, 0)).2) : Bi L q (j + 1) (j : Int) := by
  rcases h with ⟨e, h⟩ | ⟨m', h1, e, h2, h3⟩
  · omega
  · obtain rfl : m = m' := by omega
    refine .inr ⟨j, by omega, rfl, hj, fun i hi hq => ?_⟩
    by_cases e : i = j
    · subst e; exact .inr ⟨rfl, Nat.le_refl _⟩
    · have := h3 i (by omega) hq; omega
theorem bi_old (h : Bi L q j (m : Int)) (hl : (L.getD m (0, 0)).2 ≤ (L.getD j (0, 0)).2) : Bi L q (j + 1) (m : Int) := by
  rcases h with ⟨e, h⟩ | ⟨m', h1, e, h2, h3⟩
  · omega
  · obtain rfl : m = m' := by omega
    refine .inr ⟨m, by omega, rfl, h2, fun i hi hq => ?_⟩
    by_cases e : i = j
    · subst e; omega
    · exact h3 i (by omega) hq
theorem bi_some (h : Bi L q j (m : Int)) : m < j := by
  rcases h with ⟨e, h⟩ | ⟨m', h1, e, h2, h3⟩ <;> omega
theorem bi_end (h : Bi L q L.length (m : Int)) (hr : Rt F n L) (hl : F.length = n) : Best n F q (L.getD m (0, 0)).1 (L.getD m (0, 0)).2 := by
  rcases h with ⟨e, h⟩ | ⟨m', h1, e, h2, h3⟩
  · omega
  · obtain rfl : m = m' := by omega
    have hm : L.getD m (0, 0) ∈ L := by rw [List.getD_eq_getElem?_getD, List.getElem?_eq_getElem h1]; exact List.getElem_mem h1
    refine ⟨hr.run hl hm, h2, fun b K g hK => ?_⟩
    obtain ⟨i, hi, e⟩ := List.getElem_of_mem (hr.has hl g)
    have e2 : L.getD i (0, 0) = (b, K) := by rw [List.getD_eq_getElem?_getD, List.getElem?_eq_getElem hi]; exact e
    have h4 := h3 i hi (by rw [e2]; exact hK)
    rw [e2] at h4
    rcases h4 with h4 | ⟨h4, h5⟩
    · exact .inl h4
    · refine .inr ⟨h4, ?_⟩
      rcases Nat.lt_or_ge m i with q2 | q2
      · have := List.pairwise_iff_getElem.1 hr.up m i h1 hi q2
        rw [List.getD_eq_getElem?_getD, List.getElem?_eq_getElem h1]
        show L[m].1 ≤ b
        rw [e] at this
        simp only at this
        omega
      · obtain rfl : m = i := by omega
        rw [e2]; exact Nat.le_refl _
theorem bi_none (h : Bi L q L.length (-1)) (hr : Rt F n L) (hl : F.length = n) : ∀ a K, IsRun n F a K → K < q := fun a K g => by
  rcases h with ⟨e, h⟩ | ⟨m', h1, e, h2, h3⟩
  · obtain ⟨i, hi, e⟩ := List.getElem_of_mem (hr.has hl g)
    have := h i hi
    rw [List.getD_eq_getElem?_getD, List.getElem?_eq_getElem hi] at this
    have e2 : (L[i]?.getD (0, 0)).2 = K := by rw [List.getElem?_eq_getElem hi, e]; rfl
    rw [List.getElem?_eq_getElem hi] at e2
    omega
  · omega
set_option maxRecDepth 100000 in
theorem ralloc_bad (h : Rp w X Y n F) (k : Int) (hk : k < 1) : Calls Try.prog 14 #[.pointer (some ⟨X, 0, none⟩), .int .i64 k] w (Still (.tuple #[.int .i64 0, .int .i64 1]) w) := by
  clear h
  go_enter Try.func14, Try.ntmps14
  go_wp2_with fail
  go_ret2
  exact ⟨rfl, rfl⟩
/-- What Alloc of q pages answers and makes. -/
def RAl (w : World) (X Y n : Nat) (F : List Bool) (q : Nat) (e : Ending) (w' : World) : Prop :=
  ((∀ a K, IsRun n F a K → K < q) ∧ e = .returned (.tuple #[.int .i64 0, .int .i64 3]) ∧ Rp w' X Y n F ∧ Wrote (fun k => k = Y) w (fun k => k = Y) w') ∨
  (∃ a K, Best n F q a K ∧ e = .returned (.tuple #[.int .i64 (a : Int), .int .i64 0]) ∧ Rp w' X Y n (setR F a false q) ∧ Wrote (fun k => k = Y) w (fun k => k = Y) w')
set_option maxRecDepth 100000 in
set_option maxHeartbeats 4000000 in
theorem ralloc_any (h : Rp w X Y n F) (h0 : F.getD 0 false = false) (hn : n ≤ 300000) (k : Int) (q : Nat) (hkq : k = (q : Int)) (q1 : 1 ≤ q) : Calls Try.prog 14 #[.pointer (some ⟨X, 0, none⟩), .int .i64 k] w (RAl w X Y n F q) := by
  subst hkq
  have k1 : ¬ (q : Int) < 1 := by omega
  have cr := rruns_any h h0 hn
  go_enter Try.func14, Try.ntmps14
  go_wp2_with fail
  with_reducible refine Calls.mono cr ?_
  rintro e w2 ⟨v, L, rfl, hR⟩
  clear cr
  obtain ⟨sp, cp, ev⟩ := hR.row.slice
  have hYw := block_lt h.hy
  have hcx : Hid (∀ wr, Below w2.heap.size w2 wr → ∀ j, j < L.length → ∃ b off, sp = some ⟨b, off, none⟩ ∧ wr.cell? ⟨b, off + j * 2, none⟩ = some (.int .i64 (L.getD j (0, 0)).1) ∧ wr.cell? ⟨b, off + j * 2 + 1, none⟩ = some (.int .i64 (L.getD j (0, 0)).2) ∧ b ≠ Y) := Lib.hid fun wr hb j hj => by
    obtain ⟨b, off, cap, e, c2, c3⟩ := row_at hR.row hj
    have hlw := hR.low
    rw [ev] at e hlw
    cases e
    have hlb : w.heap.size ≤ b := hlw b rfl
    exact ⟨b, off, rfl, cell_then hb c2, cell_then hb c3, by omega⟩
  subst ev
  have hP2 := Lib.hid (h.below hR.bel)
  have hw2 : Hid (Wrote (fun k => k = Y) w (fun k => k = Y) w2) := Lib.hid (Wrote.of_below hR.bel)
  have hLn := hR.len
  have hrt := Lib.hid hR.rt
  have hF := Lib.hid h.len
  clear hR h
  obtain ⟨l, hl⟩ : ∃ l, L.length = l := ⟨_, rfl⟩
  rw [hl] at hLn hcx ⊢
  replace hl := Lib.hid hl
  go_wp2_with fail
  go_loopw [7, 8] (fun u7 u8 wr => ∃ (j : Nat) (b : Int), u7 = .int .i64 b ∧ u8 = .int .i64 j ∧ j ≤ l ∧ Hid (Bi L q j b) ∧ Hid (Below w2.heap.size w2 wr)) (fun _ y _ => (l - (RowKit.intOf y).toNat))
  case atStart => exact ⟨0, -1, rfl, rfl, by omega, Lib.hid (bi_zero L q), Lib.hid (Below.refl _ _)⟩
  case round =>
    obtain ⟨j, b, rfl, rfl, jl, hBi, hB⟩ := hrel
    have j0 : (0 : Int) ≤ (j : Int) := by omega
    by_cases hj : j < l
    · have j1 : (j : Int) < (l : Int) := by omega
      obtain ⟨g, off, rfl, c0, c1, hgY⟩ := hcx.out wr hB.out j hj
      have hB2 : Hid (∀ V, Below wr.heap.size wr V → Below w2.heap.size w2 V) := Lib.hid fun V hV => hB.out.trans (hV.mono hB.out.size)
      obtain ⟨Kj, hKj⟩ : ∃ Kj, (L.getD j (0, 0)).2 = Kj := ⟨_, rfl⟩
      rw [hKj] at c1
      by_cases hq : Kj < q
      · have x1 : ¬ (q : Int) ≤ (Kj : Int) := by omega
        have x2 : decide ((q : Int) ≤ (Kj : Int)) = false := decide_eq_false x1
        have x3 : ¬ q ≤ Kj := by omega
        have x4 : decide (q ≤ Kj) = false := decide_eq_false x3
        have hnx : Hid (Bi L q (j + 1) b) := Lib.hid (bi_less hBi.out (by omega))
        clear hBi hcx hB c0 hKj
        go_wp2_with fail
        go_quiet (fail)
        go_wp2_with fail
        go_roundw
        case rel => exact ⟨j + 1, b, rfl, by go_num, by omega, hnx, Lib.hid (hB2.out _ (by repeat (first | assumption | exact Below.refl _ _ | refine below_drewN ?_ _ | refine below_alloc ?_ _ | refine below_then ?_ (by assumption))))⟩
        case measure => simp [RowKit.intOf]; omega
      · have x1 : (q : Int) ≤ (Kj : Int) := by omega
        have x2 : decide ((q : Int) ≤ (Kj : Int)) = true := decide_eq_true x1
        have x3 : q ≤ Kj := by omega
        have x4 : decide (q ≤ Kj) = true := decide_eq_true x3
        by_cases hb : b = -1
        · subst hb
          have hnx : Hid (Bi L q (j + 1) (j : Int)) := Lib.hid (bi_first hBi.out (by omega))
          clear hBi hcx hB c0 hKj
          go_wp2_with fail
          go_quiet (fail)
          go_wp2_with fail
          go_roundw
          case rel => exact ⟨j + 1, j, rfl, by go_num, by omega, hnx, Lib.hid (hB2.out _ (by repeat (first | assumption | exact Below.refl _ _ | refine below_drewN ?_ _ | refine below_alloc ?_ _ | refine below_then ?_ (by assumption))))⟩
          case measure => simp [RowKit.intOf]; omega
        · obtain ⟨m, rfl⟩ : ∃ m : Nat, b = (m : Int) := by
            rcases hBi.out with ⟨e, _⟩ | ⟨m, _, e, _⟩
            · exact absurd e hb
            · exact ⟨m, e⟩
          have hmj := bi_some hBi.out
          obtain ⟨g', off', e, d0, d1, _⟩ := hcx.out wr hB.out m (by omega)
          cases e
          obtain ⟨Km, hKm⟩ : ∃ Km, (L.getD m (0, 0)).2 = Km := ⟨_, rfl⟩
          rw [hKm] at d1
          have m0 : (0 : Int) ≤ (m : Int) := by omega
          have m1 : (m : Int) < (l : Int) := by omega
          have m2 : ¬ (m : Int) < 0 := by omega
          have m3 : decide ((m : Int) < 0) = false := decide_eq_false m2
          by_cases hlt : Kj < Km
          · have y1 : (Kj : Int) < (Km : Int) := by omega
            have y2 : decide ((Kj : Int) < (Km : Int)) = true := decide_eq_true y1
            have y3 : decide (Kj < Km) = true := decide_eq_true hlt
            have hnx : Hid (Bi L q (j + 1) (j : Int)) := Lib.hid (bi_new hBi.out (by omega) (by omega))
            clear hBi hcx hB c0 hKj hKm d0 hb
            go_wp2_with fail
            go_quiet (fail)
            go_wp2_with fail
            go_roundw
            case rel => exact ⟨j + 1, j, rfl, by go_num, by omega, hnx, Lib.hid (hB2.out _ (by repeat (first | assumption | exact Below.refl _ _ | refine below_drewN ?_ _ | refine below_alloc ?_ _ | refine below_then ?_ (by assumption))))⟩
            case measure => simp [RowKit.intOf]; omega
          · have y1 : ¬ (Kj : Int) < (Km : Int) := by omega
            have y2 : decide ((Kj : Int) < (Km : Int)) = false := decide_eq_false y1
            have y3 : decide (Kj < Km) = false := decide_eq_false hlt
            have hnx : Hid (Bi L q (j + 1) (m : Int)) := Lib.hid (bi_old hBi.out (by omega))
            clear hBi hcx hB c0 hKj hKm d0 hb
            go_wp2_with fail
            go_quiet (fail)
            go_wp2_with fail
            go_roundw
            case rel => exact ⟨j + 1, m, rfl, by go_num, by omega, hnx, Lib.hid (hB2.out _ (by repeat (first | assumption | exact Below.refl _ _ | refine below_drewN ?_ _ | refine below_alloc ?_ _ | refine below_then ?_ (by assumption))))⟩
            case measure => simp [RowKit.intOf]; omega
    · obtain rfl : j = l := by omega
      have j1 : ¬ (j : Int) < (j : Int) := by omega
      have hwr : Hid (Wrote (fun k => k = Y) w (fun k => k = Y) wr) := Lib.hid (hw2.out.trans (Wrote.of_below hB.out))
      have hPr := Lib.hid (hP2.out.below hB.out)
      by_cases hb : b = -1
      · subst hb
        have hfin : Hid (∀ a K, IsRun n F a K → K < q) := Lib.hid (bi_none (by rw [hl.out]; exact hBi.out) hrt.out hF.out)
        clear hcx
        go_wp2_with fail
        go_ret2
        exact .inl ⟨hfin.out, rfl, hPr.out, hwr.out⟩
      · obtain ⟨m, rfl⟩ : ∃ m : Nat, b = (m : Int) := by
          rcases hBi.out with ⟨e, _⟩ | ⟨m, _, e, _⟩
          · exact absurd e hb
          · exact ⟨m, e⟩
        have hmj := bi_some hBi.out
        obtain ⟨g, off, rfl, d0, _, hgY⟩ := hcx.out wr hB.out m (by omega)
        have hbest := bi_end (by rw [hl.out]; exact hBi.out) hrt.out hF.out
        obtain ⟨⟨a, K⟩, haK⟩ : ∃ r, L.getD m (0, 0) = r := ⟨_, rfl⟩
        rw [haK] at hbest d0
        simp only at hbest d0
        have m0 : (0 : Int) ≤ (m : Int) := by omega
        have m1 : (m : Int) < (j : Int) := by omega
        have m2 : ¬ (m : Int) < 0 := by omega
        have hle := hbest.1.le
        have hqK := hbest.2.1
        have hbest := Lib.hid hbest
        have a0 : (0 : Int) ≤ (a : Int) := by omega
        have hst : Hid (Rp wr X Y n (setR F a false 0) ∧ Wrote (fun k => k = Y) w (fun k => k = Y) wr) := Lib.hid ⟨hPr.out, hwr.out⟩
        clear hcx hBi hB hPr hwr hP2 hw2 hrt hb haK j1
        go_wp2_with fail
        go_loopw [9] (fun u9 wx => ∃ i : Nat, u9 = .int .i64 i ∧ i ≤ q ∧ wx.cell? ⟨g, off + m * 2, none⟩ = some (.int .i64 (a : Int)) ∧ Hid (Rp wx X Y n (setR F a false i) ∧ Wrote (fun k => k = Y) w (fun k => k = Y) wx)) (fun y _ => (q - (RowKit.intOf y).toNat))
        case atStart => exact ⟨0, rfl, by omega, d0, hst⟩
        case round =>
          clear hst d0
          obtain ⟨i, rfl, iq, d0, hR⟩ := hrel
          have k0 : (0 : Int) ≤ (i : Int) := by omega
          by_cases hi : i < q
          · have k1 : (i : Int) < (q : Int) := by omega
            have i4 : (0 : Int) ≤ (a : Int) + (i : Int) := by omega
            have i5 : (a : Int) + (i : Int) < (n : Int) := by omega
            have i6 : ((a : Int) + (i : Int)).toNat = a + i := by omega
            have z9 : IntKind.i64.wrap ((a : Int) + (i : Int)) = (a : Int) + (i : Int) := by rw [IntKind.wrap_i64]; omega
            have c0 := hR.out.1.c0
            obtain ⟨c1, c2⟩ := hR.out.1.at_ (p := a + i) (by omega)
            generalize (setR F a false i).getD (a + i) false = x at c1
            have hUd : Hid (∀ U : World, U = wr.drew → U.cell? ⟨Y, a + i, none⟩ = some (.bool x) ∧ U.frozen? ⟨Y, a + i, none⟩ = false ∧ Hid ((U.setCell ⟨Y, a + i, none⟩ (.bool false)).cell? ⟨g, off + m * 2, none⟩ = some (.int .i64 (a : Int)) ∧ Rp (U.setCell ⟨Y, a + i, none⟩ (.bool false)) X Y n (setR F a false (i + 1)) ∧ Wrote (fun k => k = Y) w (fun k => k = Y) (U.setCell ⟨Y, a + i, none⟩ (.bool false)))) := Lib.hid fun U e => by
              subst e
              have hb : Below wr.heap.size wr wr.drew := (Below.refl _ _).drew
              refine ⟨c1, c2, Lib.hid ⟨?_, (hR.out.1.below hb).set false, (hR.out.2.trans (Wrote.of_below hb)).trans (wr1 _ _ _ _)⟩⟩
              rw [World.cell?_setCell_other _ _ _ _ (show (⟨Y, a + i, none⟩ : Addr) ≠ ⟨g, off + m * 2, none⟩ from fun h => hgY (congrArg Addr.block h).symm)]
              exact d0
            clear hR
            go_wp2_with fail
            go_still_tail 12, (by kernel_rfl)
            change wpList _ _ _ _ _ wr.drew
            obtain ⟨U, hU⟩ : ∃ U, wr.drew = U := ⟨_, rfl⟩
            rw [hU]
            obtain ⟨f1, f2, hnx⟩ := hUd.out U hU.symm
            clear hUd hU c0 c1 c2 d0
            go_wp2_with fail
            go_roundw
            case rel => exact ⟨i + 1, by go_num, by omega, hnx.out.1, Lib.hid hnx.out.2⟩
            case measure => simp [RowKit.intOf]; omega
          · obtain rfl : i = q := by omega
            have k1 : ¬ (i : Int) < (i : Int) := by omega
            go_wp2_with fail
            go_ret2
            exact .inr ⟨a, K, hbest.out, rfl, hR.out⟩
end Pg
end Go.Proofs.Ytbheabjemaaeoab
