/- The rules of audit: what each of them answers. -/
import Derived.Test.YtneibhcigbfigaaVwMem
import Derived.Test.YtneibhcigbfigaaClass
namespace Go.Proofs.Ytneibhcigbfigaa
open Go.RowKit Go.Lib Fx Ho Gr
set_option linter.unusedVariables false
set_option linter.unusedSimpArgs false
namespace Vw
variable {w w' W : World} {vg vs vo : Value} {V : Vi} {gs : List Gor} {os : List Ob} {i g m : Nat} {ps : Int}
/-- An answer yes or no. -/
def YesR (w : World) (P : Prop) (e : Ending) (w' : World) : Prop := ∃ b, e = .returned (.bool b) ∧ (b = true ↔ P) ∧ Below w.heap.size w w'
theorem yes_t {P : Prop} (h : P) : true = true ↔ P := ⟨fun _ => h, fun _ => rfl⟩
theorem yes_f {P : Prop} (h : ¬ P) : false = true ↔ P := ⟨fun e => (by cases e), fun e => absurd e h⟩
/-- Rule 7. -/
def Num (V : Vi) : Prop := V.ph < 0 ∨ 3 < V.ph ∨ V.cy < 0 ∨ V.ck < 0 ∨ ∃ i, i < V.gs.length ∧ (V.gs.getD i g0).2.2.length ≠ 16
set_option maxRecDepth 100000 in
set_option maxHeartbeats 4000000 in
theorem numbers_any (h : IsV w V vg vs vo) (ps : Int) : Calls Try.prog 97 #[vv V vg vs vo, .int .i64 ps] w (YesR w (Num V)) := by
  obtain ⟨W1, hW1⟩ : ∃ W1, w.alloc (.cells #[.int .i64 V.ph, .int .i64 V.cy, .int .i64 V.ck, vg, vs, vo, .int .i64 V.gr, .int .i64 V.nt, .int .i64 V.rt] 32) = W1 := ⟨_, rfl⟩
  have hb1 := below_alloc (Below.refl _ w) (.cells #[.int .i64 V.ph, .int .i64 V.cy, .int .i64 V.ck, vg, vs, vo, .int .i64 V.gr, .int .i64 V.nt, .int .i64 V.rt] 32)
  have k1 := heap_alloc_new w (.cells #[.int .i64 V.ph, .int .i64 V.cy, .int .i64 V.ck, vg, vs, vo, .int .i64 V.gr, .int .i64 V.nt, .int .i64 V.rt] 32)
  rw [hW1] at hb1 k1
  have h1 := h.below hb1
  obtain ⟨ss, cs, rfl, hmg, hgs⟩ := h1.gs
  obtain ⟨g, hg0⟩ : ∃ g, V.gs.length = g := ⟨_, rfl⟩
  have c4 : W1.cell? ⟨w.heap.size, 4, none⟩ = some (.slice ss V.gs.length cs) := cell_of k1 rfl
  have hgt : Hid (∀ W, Below W1.heap.size W1 W → ∀ i, i < g → ∃ b off sp2 p2, ss = some ⟨b, off, none⟩ ∧ W.cell? ⟨b, off + i * 3, none⟩ = some (.int .i64 (V.gs.getD i g0).1) ∧ W.cell? ⟨b, off + i * 3 + 1, none⟩ = some (.int .i64 (V.gs.getD i g0).2.1) ∧ W.cell? ⟨b, off + i * 3 + 2, none⟩ = some (.slice sp2 (V.gs.getD i g0).2.2.length p2)) := Lib.hid fun W hW i hi => by
    obtain ⟨b, off, sv, e1, _, e3, e4, e5, e6⟩ := hgs i (by omega)
    obtain ⟨sp2, p2, rfl, _⟩ := e6
    exact ⟨b, off, sp2, p2, e1, cell_then hW e3, cell_then hW e4, cell_then hW e5⟩
  have hfin : Hid (∀ W, Below W1.heap.size W1 W → Below w.heap.size w W) := Lib.hid fun W hW => hb1.trans (hW.mono hb1.size)
  have hr0 : Hid (Below W1.heap.size W1 W1) := Lib.hid (Below.refl _ _)
  have c0 : W1.cell? ⟨w.heap.size, 0, none⟩ = some (.int .i64 V.ph) := cell_of k1 rfl
  have c1 : W1.cell? ⟨w.heap.size, 1, none⟩ = some (.int .i64 V.cy) := cell_of k1 rfl
  have c2 : W1.cell? ⟨w.heap.size, 2, none⟩ = some (.int .i64 V.ck) := cell_of k1 rfl
  have hend : Hid (0 ≤ V.ph → V.ph ≤ 3 → 0 ≤ V.cy → 0 ≤ V.ck → (∀ j, j < g → (V.gs.getD j g0).2.2.length = 16) → ¬ Num V) := Lib.hid fun a1 a2 a3 a4 a5 e => by
    rcases e with e | e | e | e | ⟨i, hi, e⟩
    · omega
    · omega
    · omega
    · omega
    · exact e (a5 i (by omega))
  have hbad : Hid (∀ i, i < g → (V.gs.getD i g0).2.2.length ≠ 16 → Num V) := Lib.hid fun i hi e => .inr (.inr (.inr (.inr ⟨i, by omega, e⟩)))
  unfold vv
  rw [hg0] at hmg c4
  rw [hg0] at hW1 ⊢
  clear h h1 k1 hb1 hgs hg0
  go_enter Try.func97, Try.ntmps97
  go_upto_region 1 with fail
  try rw [hW1]
  clear hW1
  by_cases a0 : V.ph < 0
  · have a0b : decide (V.ph < 0) = true := decide_eq_true a0
    go_wp2_with fail
    go_ret
    exact ⟨_, rfl, yes_t (.inl a0), hfin.out _ hr0.out⟩
  have a0b : decide (V.ph < 0) = false := decide_eq_false a0
  by_cases a1 : 3 < V.ph
  · have a1b : decide (3 < V.ph) = true := decide_eq_true a1
    go_wp2_with fail
    go_ret
    exact ⟨_, rfl, yes_t (.inr (.inl a1)), hfin.out _ hr0.out⟩
  have a1b : decide (3 < V.ph) = false := decide_eq_false a1
  by_cases a2 : V.cy < 0
  · have a2b : decide (V.cy < 0) = true := decide_eq_true a2
    go_wp2_with fail
    go_ret
    exact ⟨_, rfl, yes_t (.inr (.inr (.inl a2))), hfin.out _ hr0.out⟩
  have a2b : decide (V.cy < 0) = false := decide_eq_false a2
  by_cases a3 : V.ck < 0
  · have a3b : decide (V.ck < 0) = true := decide_eq_true a3
    go_wp2_with fail
    go_ret
    exact ⟨_, rfl, yes_t (.inr (.inr (.inr (.inl a3)))), hfin.out _ hr0.out⟩
  have a3b : decide (V.ck < 0) = false := decide_eq_false a3
  replace hend := Lib.hid (hend.out (by omega) (by omega) (by omega) (by omega))
  go_wp2_with fail
  clear a0 a1 a2 a3 a0b a1b a2b a3b c0 c1 c2
  go_loopw [4, 28] (fun u4 u wr => ∃ i : Nat, u = .int .i64 i ∧ i ≤ g ∧ Hid (∀ j, j < i → (V.gs.getD j g0).2.2.length = 16) ∧ Hid (Below W1.heap.size W1 wr)) (fun _ u _ => (g - (RowKit.intOf u).toNat))
  case atStart => exact ⟨0, rfl, by omega, Lib.hid fun j hj => absurd hj (by omega), hr0⟩
  case round =>
    obtain ⟨i, rfl, hi, hall, hbw⟩ := hrel
    have i0 : (0 : Int) ≤ (i : Int) := by omega
    by_cases hlt : i < g
    · have i2 : (i : Int) < (g : Int) := by omega
      obtain ⟨b, off, sp2, p2, rfl, e3, e4, e5⟩ := hgt.out wr hbw.out i hlt
      have hnx : Hid ((V.gs.getD i g0).2.2.length = 16 → ∀ j, j < i + 1 → (V.gs.getD j g0).2.2.length = 16) := Lib.hid fun h0 j hj => by
        by_cases e : j = i
        · rw [e]; exact h0
        · exact hall.out j (by omega)
      have hbd := Lib.hid (hbad.out i hlt)
      have hb2 := Lib.hid (hbw.out.trans ((below_alloc (Below.refl _ wr) (.cells #[.int .i64 (V.gs.getD i g0).1, .int .i64 (V.gs.getD i g0).2.1, .slice sp2 (V.gs.getD i g0).2.2.length p2] 26)).mono hbw.out.size))
      generalize (V.gs.getD i g0).2.2.length = n at *
      generalize (V.gs.getD i g0).1 = st at *
      generalize (V.gs.getD i g0).2.1 = P at *
      by_cases hn : n = 16
      · have e7 : ((n : Int) == 16) = true := by rw [hn]; rfl
        have hnx2 := Lib.hid (hnx.out hn)
        clear hnx hbd
        rw [hn] at hb2
        go_wp2_with fail
        go_roundw
        case rel => exact ⟨i + 1, by go_num, by omega, hnx2, hb2⟩
        case measure => simp [RowKit.intOf]; omega
      · have e7 : ((n : Int) == 16) = false := by simp; omega
        have e8 := Lib.hid (hbd.out hn)
        clear hnx hbd
        go_wp2_with fail
        go_ret
        exact ⟨_, rfl, yes_t e8.out, hfin.out _ hb2.out⟩
    · obtain rfl : g = i := by omega
      have i2 : ¬ ((g : Int) < (g : Int)) := by omega
      have e8 := Lib.hid (hend.out hall.out)
      clear hend hall
      go_wp2_with fail
      go_ret
      exact ⟨_, rfl, yes_f e8.out, hfin.out _ hbw.out⟩
/-- Rule 8. -/
def Mkd (V : Vi) : Prop := V.ph = 0 ∧ ∃ i, i < V.os.length ∧ (V.os.getD i o0).2.2 = true
set_option maxRecDepth 100000 in
set_option maxHeartbeats 4000000 in
theorem marked_any (h : IsV w V vg vs vo) (ps : Int) : Calls Try.prog 98 #[vv V vg vs vo, .int .i64 ps] w (YesR w (Mkd V)) := by
  obtain ⟨W1, hW1⟩ : ∃ W1, w.alloc (.cells #[.int .i64 V.ph, .int .i64 V.cy, .int .i64 V.ck, vg, vs, vo, .int .i64 V.gr, .int .i64 V.nt, .int .i64 V.rt] 32) = W1 := ⟨_, rfl⟩
  have hb1 := below_alloc (Below.refl _ w) (.cells #[.int .i64 V.ph, .int .i64 V.cy, .int .i64 V.ck, vg, vs, vo, .int .i64 V.gr, .int .i64 V.nt, .int .i64 V.rt] 32)
  have k1 := heap_alloc_new w (.cells #[.int .i64 V.ph, .int .i64 V.cy, .int .i64 V.ck, vg, vs, vo, .int .i64 V.gr, .int .i64 V.nt, .int .i64 V.rt] 32)
  rw [hW1] at hb1 k1
  have h1 := h.below hb1
  obtain ⟨so, co, rfl, hmo, hos⟩ := h1.os
  obtain ⟨m, hm0⟩ : ∃ m, V.os.length = m := ⟨_, rfl⟩
  have c5 : W1.cell? ⟨w.heap.size, 5, none⟩ = some (.slice so V.os.length co) := cell_of k1 rfl
  have hot : Hid (∀ W, Below W1.heap.size W1 W → ∀ i, i < m → ∃ b off sp2 p2, so = some ⟨b, off, none⟩ ∧ W.cell? ⟨b, off + i * 3, none⟩ = some (.int .i64 (V.os.getD i o0).1) ∧ W.cell? ⟨b, off + i * 3 + 1, none⟩ = some (.slice sp2 (V.os.getD i o0).2.1.length p2) ∧ W.cell? ⟨b, off + i * 3 + 2, none⟩ = some (.bool (V.os.getD i o0).2.2)) := Lib.hid fun W hW i hi => by
    obtain ⟨b, off, sv, e1, _, e3, e4, e5, e6⟩ := hos i (by omega)
    obtain ⟨sp2, p2, rfl, _⟩ := e6
    exact ⟨b, off, sp2, p2, e1, cell_then hW e3, cell_then hW e4, cell_then hW e5⟩
  have hfin : Hid (∀ W, Below W1.heap.size W1 W → Below w.heap.size w W) := Lib.hid fun W hW => hb1.trans (hW.mono hb1.size)
  have hr0 : Hid (Below W1.heap.size W1 W1) := Lib.hid (Below.refl _ _)
  have c0 : Hid (∀ W, Below W1.heap.size W1 W → W.cell? ⟨w.heap.size, 0, none⟩ = some (.int .i64 V.ph)) := Lib.hid fun W hW => cell_then hW (cell_of k1 rfl)
  have hend : Hid ((∀ j, j < m → V.ph = 0 → (V.os.getD j o0).2.2 = false) → ¬ Mkd V) := Lib.hid fun a e => by
    obtain ⟨e0, i, hi, e1⟩ := e
    rw [a i (by omega) e0] at e1
    cases e1
  have hbad : Hid (∀ i, i < m → V.ph = 0 → (V.os.getD i o0).2.2 = true → Mkd V) := Lib.hid fun i hi e0 e => ⟨e0, i, by omega, e⟩
  unfold vv
  rw [hm0] at hmo c5
  rw [hm0] at hW1 ⊢
  clear h h1 k1 hb1 hos hm0
  go_enter Try.func98, Try.ntmps98
  go_upto_region 1 with fail
  try rw [hW1]
  clear hW1
  go_wp2_with fail
  clear c5
  go_loopw [4, 10] (fun u4 u wr => ∃ i : Nat, u = .int .i64 i ∧ i ≤ m ∧ Hid (∀ j, j < i → V.ph = 0 → (V.os.getD j o0).2.2 = false) ∧ Hid (Below W1.heap.size W1 wr)) (fun _ u _ => (m - (RowKit.intOf u).toNat))
  case atStart => exact ⟨0, rfl, by omega, Lib.hid fun j hj => absurd hj (by omega), hr0⟩
  case round =>
    obtain ⟨i, rfl, hi, hall, hbw⟩ := hrel
    have i0 : (0 : Int) ≤ (i : Int) := by omega
    by_cases hlt : i < m
    · have i2 : (i : Int) < (m : Int) := by omega
      obtain ⟨b, off, sp2, p2, rfl, e3, e4, e5⟩ := hot.out wr hbw.out i hlt
      have hnx : Hid ((V.ph = 0 → (V.os.getD i o0).2.2 = false) → ∀ j, j < i + 1 → V.ph = 0 → (V.os.getD j o0).2.2 = false) := Lib.hid fun h0 j hj => by
        by_cases e : j = i
        · rw [e]; exact h0
        · exact hall.out j (by omega)
      have hbd := Lib.hid (hbad.out i hlt)
      have hb2 := Lib.hid (hbw.out.trans ((below_alloc (Below.refl _ wr) (.cells #[.int .i64 (V.os.getD i o0).1, .slice sp2 (V.os.getD i o0).2.1.length p2, .bool (V.os.getD i o0).2.2] 29)).mono hbw.out.size))
      generalize (V.os.getD i o0).2.1.length = n at *
      generalize (V.os.getD i o0).1 = st at *
      generalize (V.os.getD i o0).2.2 = mk at *
      have c0b := c0.out _ hb2.out
      cases mk with
      | false =>
        have hnx2 := Lib.hid (hnx.out fun _ => rfl)
        clear hnx hbd
        go_wp2_with fail
        go_roundw
        case rel => exact ⟨i + 1, by go_num, by omega, hnx2, hb2⟩
        case measure => simp [RowKit.intOf]; omega
      | true =>
        by_cases hp : V.ph = 0
        · have e7 : (V.ph == 0) = true := by rw [hp]; rfl
          have e8 := Lib.hid (hbd.out hp rfl)
          clear hnx hbd
          go_wp2_with fail
          go_ret
          exact ⟨_, rfl, yes_t e8.out, hfin.out _ hb2.out⟩
        · have e7 : (V.ph == 0) = false := beq_eq_false_iff_ne.2 hp
          have hnx2 := Lib.hid (hnx.out fun e => absurd e hp)
          clear hnx hbd
          go_wp2_with fail
          go_roundw
          case rel => exact ⟨i + 1, by go_num, by omega, hnx2, hb2⟩
          case measure => simp [RowKit.intOf]; omega
    · obtain rfl : m = i := by omega
      have i2 : ¬ ((m : Int) < (m : Int)) := by omega
      have e8 := Lib.hid (hend.out hall.out)
      clear hend hall
      go_wp2_with fail
      go_ret
      exact ⟨_, rfl, yes_f e8.out, hfin.out _ hbw.out⟩
/-- Whether a goroutine may be where it is. -/
def May (ps : Int) (g : Gor) : Prop := (g.1 = 2 → 0 ≤ g.2.1 ∧ g.2.1 < ps) ∧ (g.1 = 1 → -1 ≤ g.2.1 ∧ g.2.1 < ps) ∧ (g.1 ≠ 1 → g.1 ≠ 2 → g.2.1 = -1)
/-- Rule 4. -/
def Plc (ps : Int) (V : Vi) : Prop := ∃ i, i < V.gs.length ∧ ¬ May ps (V.gs.getD i g0)
set_option maxRecDepth 100000 in
set_option maxHeartbeats 4000000 in
theorem places_any (h : IsV w V vg vs vo) (ps : Int) : Calls Try.prog 94 #[vv V vg vs vo, .int .i64 ps] w (YesR w (Plc ps V)) := by
  obtain ⟨W1, hW1⟩ : ∃ W1, w.alloc (.cells #[.int .i64 V.ph, .int .i64 V.cy, .int .i64 V.ck, vg, vs, vo, .int .i64 V.gr, .int .i64 V.nt, .int .i64 V.rt] 32) = W1 := ⟨_, rfl⟩
  have hb1 := below_alloc (Below.refl _ w) (.cells #[.int .i64 V.ph, .int .i64 V.cy, .int .i64 V.ck, vg, vs, vo, .int .i64 V.gr, .int .i64 V.nt, .int .i64 V.rt] 32)
  have k1 := heap_alloc_new w (.cells #[.int .i64 V.ph, .int .i64 V.cy, .int .i64 V.ck, vg, vs, vo, .int .i64 V.gr, .int .i64 V.nt, .int .i64 V.rt] 32)
  rw [hW1] at hb1 k1
  have h1 := h.below hb1
  obtain ⟨ss, cs, rfl, hmg, hgs⟩ := h1.gs
  obtain ⟨g, hg0⟩ : ∃ g, V.gs.length = g := ⟨_, rfl⟩
  have c4 : W1.cell? ⟨w.heap.size, 4, none⟩ = some (.slice ss V.gs.length cs) := cell_of k1 rfl
  have hgt : Hid (∀ W, Below W1.heap.size W1 W → ∀ i, i < g → ∃ b off sp2 p2, ss = some ⟨b, off, none⟩ ∧ W.cell? ⟨b, off + i * 3, none⟩ = some (.int .i64 (V.gs.getD i g0).1) ∧ W.cell? ⟨b, off + i * 3 + 1, none⟩ = some (.int .i64 (V.gs.getD i g0).2.1) ∧ W.cell? ⟨b, off + i * 3 + 2, none⟩ = some (.slice sp2 (V.gs.getD i g0).2.2.length p2)) := Lib.hid fun W hW i hi => by
    obtain ⟨b, off, sv, e1, _, e3, e4, e5, e6⟩ := hgs i (by omega)
    obtain ⟨sp2, p2, rfl, _⟩ := e6
    exact ⟨b, off, sp2, p2, e1, cell_then hW e3, cell_then hW e4, cell_then hW e5⟩
  have hfin : Hid (∀ W, Below W1.heap.size W1 W → Below w.heap.size w W) := Lib.hid fun W hW => hb1.trans (hW.mono hb1.size)
  have hr0 : Hid (Below W1.heap.size W1 W1) := Lib.hid (Below.refl _ _)
  have hend : Hid ((∀ j, j < g → May ps (V.gs.getD j g0)) → ¬ Plc ps V) := Lib.hid fun a e => by
    obtain ⟨i, hi, e1⟩ := e
    exact e1 (a i (by omega))
  have hbad : Hid (∀ i, i < g → ¬ May ps (V.gs.getD i g0) → Plc ps V) := Lib.hid fun i hi e => ⟨i, by omega, e⟩
  unfold vv
  rw [hg0] at hmg c4
  rw [hg0] at hW1 ⊢
  clear h h1 k1 hb1 hgs hg0
  go_enter Try.func94, Try.ntmps94
  go_upto_region 1 with fail
  try rw [hW1]
  clear hW1
  go_wp2_with fail
  clear c4
  go_loopw [4, 11] (fun u4 u wr => ∃ i : Nat, u = .int .i64 i ∧ i ≤ g ∧ Hid (∀ j, j < i → May ps (V.gs.getD j g0)) ∧ Hid (Below W1.heap.size W1 wr)) (fun _ u _ => (g - (RowKit.intOf u).toNat))
  case atStart => exact ⟨0, rfl, by omega, Lib.hid fun j hj => absurd hj (by omega), hr0⟩
  case round =>
    obtain ⟨i, rfl, hi, hall, hbw⟩ := hrel
    have i0 : (0 : Int) ≤ (i : Int) := by omega
    by_cases hlt : i < g
    · have i2 : (i : Int) < (g : Int) := by omega
      obtain ⟨b, off, sp2, p2, rfl, e3, e4, e5⟩ := hgt.out wr hbw.out i hlt
      have hnx : Hid (May ps (V.gs.getD i g0) → ∀ j, j < i + 1 → May ps (V.gs.getD j g0)) := Lib.hid fun h0 j hj => by
        by_cases e : j = i
        · rw [e]; exact h0
        · exact hall.out j (by omega)
      have hbd := Lib.hid (hbad.out i hlt)
      have hb2 := Lib.hid (hbw.out.trans ((below_alloc (Below.refl _ wr) (.cells #[.int .i64 (V.gs.getD i g0).1, .int .i64 (V.gs.getD i g0).2.1, .slice sp2 (V.gs.getD i g0).2.2.length p2] 26)).mono hbw.out.size))
      obtain ⟨n, hn⟩ : ∃ n, (V.gs.getD i g0).2.2.length = n := ⟨_, rfl⟩
      obtain ⟨st, hst⟩ : ∃ n, (V.gs.getD i g0).1 = n := ⟨_, rfl⟩
      obtain ⟨P, hP⟩ : ∃ n, (V.gs.getD i g0).2.1 = n := ⟨_, rfl⟩
      unfold May at hnx hbd
      rw [hst, hP] at hnx hbd
      rw [hst] at e3
      rw [hP] at e4
      rw [hn] at e5
      rw [hst, hP, hn] at hb2
      clear hn hst hP hall hbad hend hgt
      by_cases s2 : st = 2
      · subst s2
        have e9 : (P == -1) = true ∨ (P == -1) = false := by cases (P == -1) <;> simp
        by_cases p0 : 0 ≤ P
        · have p0b : decide (0 ≤ P) = true := decide_eq_true p0
          have p0c : (P == -1) = false := by simp; omega
          by_cases p1 : P < ps
          · have p1b : decide (P < ps) = true := decide_eq_true p1
            have hnx2 := Lib.hid (hnx.out ⟨fun _ => ⟨p0, p1⟩, fun e => by omega, fun _ e => absurd rfl e⟩)
            clear hnx hbd
            go_wp2_with fail
            go_roundw
            case rel => exact ⟨i + 1, by go_num, by omega, hnx2, hb2⟩
            case measure => simp [RowKit.intOf]; omega
          · have p1b : decide (P < ps) = false := decide_eq_false p1
            have e8 := Lib.hid (hbd.out fun e => p1 (e.1 rfl).2)
            clear hnx hbd
            go_wp2_with fail
            go_ret
            exact ⟨_, rfl, yes_t e8.out, hfin.out _ hb2.out⟩
        · have p0b : decide (0 ≤ P) = false := decide_eq_false p0
          have e8 := Lib.hid (hbd.out fun e => p0 (e.1 rfl).1)
          clear hnx hbd
          obtain ⟨bb, hbb⟩ : ∃ bb, (P == -1) = bb := ⟨_, rfl⟩
          go_wp2_with fail
          go_ret
          exact ⟨_, rfl, yes_t e8.out, hfin.out _ hb2.out⟩
      · have s2b : (st == 2) = false := beq_eq_false_iff_ne.2 s2
        by_cases s1 : st = 1
        · subst s1
          by_cases p0 : -1 ≤ P
          · have p0b : decide (-1 ≤ P) = true := decide_eq_true p0
            by_cases p1 : P < ps
            · have p1b : decide (P < ps) = true := decide_eq_true p1
              have hnx2 := Lib.hid (hnx.out ⟨fun e => by omega, fun _ => ⟨p0, p1⟩, fun e => absurd rfl e⟩)
              clear hnx hbd
              go_wp2_with fail
              go_roundw
              case rel => exact ⟨i + 1, by go_num, by omega, hnx2, hb2⟩
              case measure => simp [RowKit.intOf]; omega
            · have p1b : decide (P < ps) = false := decide_eq_false p1
              have e8 := Lib.hid (hbd.out fun e => p1 (e.2.1 rfl).2)
              clear hnx hbd
              go_wp2_with fail
              go_ret
              exact ⟨_, rfl, yes_t e8.out, hfin.out _ hb2.out⟩
          · have p0b : decide (-1 ≤ P) = false := decide_eq_false p0
            have e8 := Lib.hid (hbd.out fun e => p0 (e.2.1 rfl).1)
            clear hnx hbd
            go_wp2_with fail
            go_ret
            exact ⟨_, rfl, yes_t e8.out, hfin.out _ hb2.out⟩
        · have s1b : (st == 1) = false := beq_eq_false_iff_ne.2 s1
          by_cases p0 : P = -1
          · have p0b : (P == -1) = true := by rw [p0]; rfl
            have hnx2 := Lib.hid (hnx.out ⟨fun e => absurd e s2, fun e => absurd e s1, fun _ _ => p0⟩)
            clear hnx hbd
            rw [p0] at hb2
            go_wp2_with fail
            go_roundw
            case rel => exact ⟨i + 1, by go_num, by omega, hnx2, hb2⟩
            case measure => simp [RowKit.intOf]; omega
          · have p0b : (P == -1) = false := beq_eq_false_iff_ne.2 p0
            have e8 := Lib.hid (hbd.out fun e => p0 (e.2.2 s1 s2))
            clear hnx hbd
            go_wp2_with fail
            go_ret
            exact ⟨_, rfl, yes_t e8.out, hfin.out _ hb2.out⟩
    · obtain rfl : g = i := by omega
      have i2 : ¬ ((g : Int) < (g : Int)) := by omega
      have e8 := Lib.hid (hend.out hall.out)
      clear hend hall
      go_wp2_with fail
      go_ret
      exact ⟨_, rfl, yes_f e8.out, hfin.out _ hbw.out⟩
end Vw
end Go.Proofs.Ytneibhcigbfigaa
