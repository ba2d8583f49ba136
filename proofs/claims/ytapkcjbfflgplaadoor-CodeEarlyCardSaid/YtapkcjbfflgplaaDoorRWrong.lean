/- The document's own: which part of an instruction is wrong, walked. -/
import Derived.Test.YtapkcjbfflgplaaDoorRFits
namespace Go.Proofs.YtapkcjbfflgplaaDoor
open Go.RowKit Go.Lib Fx Ho Gr
set_option linter.unusedVariables false
namespace Cd
variable {w w' W wr : World} {v fv : Value} {G nf len n : Int} {fs : List (List Ins)} {zs A : List Int} {l : List Ins}
def part (a b c : Int) (i : Nat) : Int := if i = 0 then a else if i = 1 then b else c
theorem wrong_at {op a b c : Int} {q : Nat} (h : op = (q : Int)) (q18 : q < 18) : (∀ i, i < 3 → (∀ i', i' < i → hasB G nf len (kd q i') (part a b c i') = true) → hasB G nf len (kd q i) (part a b c i) = false → wrongN G nf len (op, a, b, c) = (i : Int) + 1) ∧ ((∀ i, i < 3 → hasB G nf len (kd q i) (part a b c i) = true) → wrongN G nf len (op, a, b, c) = -1) := by
  subst h
  have e : wrongN G nf len ((q : Int), a, b, c) = if hasB G nf len (kd q 0) a = false then 1 else if hasB G nf len (kd q 1) b = false then 2 else if hasB G nf len (kd q 2) c = false then 3 else -1 := by
    unfold wrongN
    rw [if_neg (fun h => h (by simp only; omega))]
    simp only [Int.toNat_natCast]
  rw [e]
  refine ⟨fun i hi h1 h2 => ?_, fun h => ?_⟩
  · rcases (show i = 0 ∨ i = 1 ∨ i = 2 by omega) with rfl | rfl | rfl
    · have h2 : hasB G nf len (kd q 0) a = false := h2
      rw [if_pos h2]; rfl
    · have h2 : hasB G nf len (kd q 1) b = false := h2
      have g0 : hasB G nf len (kd q 0) a = true := h1 0 (by omega)
      rw [if_neg (by rw [g0]; simp), if_pos h2]; rfl
    · have h2 : hasB G nf len (kd q 2) c = false := h2
      have g0 : hasB G nf len (kd q 0) a = true := h1 0 (by omega)
      have g1 : hasB G nf len (kd q 1) b = true := h1 1 (by omega)
      rw [if_neg (by rw [g0]; simp), if_neg (by rw [g1]; simp), if_pos h2]; rfl
  · have g0 : hasB G nf len (kd q 0) a = true := h 0 (by omega)
    have g1 : hasB G nf len (kd q 1) b = true := h 1 (by omega)
    have g2 : hasB G nf len (kd q 2) c = true := h 2 (by omega)
    rw [if_neg (by rw [g0]; simp), if_neg (by rw [g1]; simp), if_neg (by rw [g2]; simp)]
set_option maxRecDepth 100000 in
set_option maxHeartbeats 4000000 in
theorem wrong_any (op a b c : Int) (w : World) : Calls Tryd.prog 51 #[.agg #[.int .i64 op, .int .i64 a, .int .i64 b, .int .i64 c], .int .i64 G, .int .i64 nf, .int .i64 len] w (AnsB (.int .i64 (wrongN G nf len (op, a, b, c))) w) := by
  have heq0 : ∀ W, (binOp .eql 36 (.slice none 0 0) (.slice none 0 0)).run Tryd.prog W = .ok (.bool true) W := fun _ => by rfl
  have heq1 : ∀ (a : Addr) W, (binOp .eql 36 (.slice (some a) 3 3) (.slice none 0 0)).run Tryd.prog W = .ok (.bool false) W := fun _ _ => by rfl
  have hin := heap_alloc_new w (.cells #[.int .i64 op, .int .i64 a, .int .i64 b, .int .i64 c] 29)
  have hU : Hid (Below w.heap.size w (w.alloc (.cells #[.int .i64 op, .int .i64 a, .int .i64 b, .int .i64 c] 29))) := Lib.hid (below_alloc (Below.refl _ _) _)
  have q0 : (w.alloc (.cells #[.int .i64 op, .int .i64 a, .int .i64 b, .int .i64 c] 29)).cell? ⟨w.heap.size, 0, none⟩ = some (.int .i64 op) := cell_of hin rfl
  have ck := kinds_any op (w.alloc (.cells #[.int .i64 op, .int .i64 a, .int .i64 b, .int .i64 c] 29))
  replace hin := Lib.hid hin
  obtain ⟨N, hN⟩ : ∃ N, w.heap.size = N := ⟨_, rfl⟩
  rw [hN] at hin q0
  go_enter Tryd.func51, Tryd.ntmps51
  go_wp2_with fail
  obtain ⟨U, hUe⟩ : ∃ U, w.alloc (.cells #[.int .i64 op, .int .i64 a, .int .i64 b, .int .i64 c] 29) = U := ⟨_, rfl⟩
  rw [hUe] at hU hin q0 ck ⊢
  clear hUe
  with_reducible refine Calls.mono ck ?_
  rintro e w3 ⟨hb3, ⟨hno, rfl⟩ | ⟨hop, B, rfl, hB⟩⟩
  · have hr : wrongN G nf len (op, a, b, c) = 0 := by unfold wrongN; rw [if_pos hno]
    have hbw := Lib.hid (hU.out.trans (hb3.mono hU.out.size))
    replace hr := Lib.hid hr
    clear ck hno hin hU q0 hb3
    go_wp2_with fail
    go_ret
    exact ⟨by rw [hr.out]; rfl, hbw.out⟩
  obtain ⟨q, hq⟩ : ∃ q : Nat, op = (q : Int) := ⟨op.toNat, by omega⟩
  have hwr := wrong_at (G := G) (nf := nf) (len := len) (a := a) (b := b) (c := c) hq (by omega)
  generalize wrongN G nf len (op, a, b, c) = r at *
  rw [show op.toNat = q by omega] at hB
  replace hwr := Lib.hid hwr
  have hin3 := (hb3.block _ (block_lt hin.out)).trans hin.out
  have i1 : w3.cell? ⟨N, 1, none⟩ = some (.int .i64 a) := cell_of hin3 rfl
  have i2 : w3.cell? ⟨N, 2, none⟩ = some (.int .i64 b) := cell_of hin3 rfl
  have i3 : w3.cell? ⟨N, 3, none⟩ = some (.int .i64 c) := cell_of hin3 rfl
  have hn := heap_alloc_new w3 (.cells #[.int .i64 a, .int .i64 b, .int .i64 c] 3)
  have hB4 := ((below_alloc (Below.refl w3.heap.size w3) (.cells #[.int .i64 a, .int .i64 b, .int .i64 c] 3)).block _ (block_lt hB)).trans hB
  have hcs : Hid (∀ V, Below (w3.alloc (.cells #[.int .i64 a, .int .i64 b, .int .i64 c] 3)).heap.size (w3.alloc (.cells #[.int .i64 a, .int .i64 b, .int .i64 c] 3)) V → ∀ i, i < 3 → V.cell? ⟨B, i, none⟩ = some (.int .i64 (rk (kd q i))) ∧ V.cell? ⟨w3.heap.size, i, none⟩ = some (.int .i64 (part a b c i))) := Lib.hid fun V hV i hi => by
    have k1 := (hV.block _ (block_lt hn)).trans hn
    have k2 := (hV.block _ (block_lt hB4)).trans hB4
    rcases (show i = 0 ∨ i = 1 ∨ i = 2 by omega) with rfl | rfl | rfl
    · exact ⟨cell_of k2 rfl, cell_of k1 rfl⟩
    · exact ⟨cell_of k2 rfl, cell_of k1 rfl⟩
    · exact ⟨cell_of k2 rfl, cell_of k1 rfl⟩
  have hbw := Lib.hid (below_alloc (hU.out.trans (hb3.mono hU.out.size)) (.cells #[.int .i64 a, .int .i64 b, .int .i64 c] 3))
  clear ck hin hin3 hn hB hB4 hU q0 hb3
  obtain ⟨J, hJ⟩ : ∃ J, w3.heap.size = J := ⟨_, rfl⟩
  rw [hJ] at hcs
  go_wp2_with fail
  obtain ⟨w4, hw4⟩ : ∃ w4, w3.alloc (.cells #[.int .i64 a, .int .i64 b, .int .i64 c] 3) = w4 := ⟨_, rfl⟩
  rw [hw4] at hcs hbw ⊢
  clear hw4 hJ i1 i2 i3
  go_loopw [11] (fun u11 wr => ∃ i : Nat, u11 = .int .i64 i ∧ i ≤ 3 ∧ Hid (∀ i', i' < i → hasB G nf len (kd q i') (part a b c i') = true) ∧ Hid (Below w4.heap.size w4 wr)) (fun y _ => (3 - (RowKit.intOf y).toNat))
  case atStart => exact ⟨0, rfl, by omega, Lib.hid (fun i h => by omega), Lib.hid (Below.refl _ _)⟩
  case round =>
    obtain ⟨i, rfl, i3, hall, hB⟩ := hrel
    have i0 : (0 : Int) ≤ (i : Int) := by omega
    have hbr := Lib.hid (hbw.out.trans (hB.out.mono hbw.out.size))
    by_cases hi : i < 3
    · have i1 : (i : Int) < 3 := by omega
      obtain ⟨d0, d1⟩ := hcs.out wr hB.out i hi
      have cf : Hid (∀ V, Below wr.heap.size wr V → Calls Tryd.prog 70 #[.int .i64 (rk (kd q i)), .int .i64 (part a b c i), .int .i64 G, .int .i64 nf, .int .i64 len] V fun e wz => e = .returned (.bool (hasB G nf len (kd q i) (part a b c i))) ∧ (wz.cell? ⟨B, i, none⟩ = some (.int .i64 (rk (kd q i))) ∧ wz.cell? ⟨J, i, none⟩ = some (.int .i64 (part a b c i))) ∧ Hid (Below w4.heap.size w4 wz)) := Lib.hid fun V hV => (fits_any (G := G) (nf := nf) (len := len) (kd q i) (part a b c i) (kd_le q i) V).mono fun e wz ⟨he, hz⟩ => by
        have h4 := hB.out.trans ((hV.trans (hz.mono hV.size)).mono hB.out.size)
        exact ⟨he, hcs.out wz h4 i hi, Lib.hid h4⟩
      have hyes : Hid (hasB G nf len (kd q i) (part a b c i) = true → ∀ i', i' < i + 1 → hasB G nf len (kd q i') (part a b c i') = true) := Lib.hid fun h i' hi' => by
        rcases Nat.lt_or_ge i' i with g | g
        · exact hall.out i' g
        · rw [show i' = i by omega]; exact h
      have hno : Hid (hasB G nf len (kd q i) (part a b c i) = false → r = (i : Int) + 1) := Lib.hid fun h => hwr.out.1 i hi hall.out h
      have wi : IntKind.i64.wrap ((i : Int) + 1) = (i : Int) + 1 := by rw [IntKind.wrap_i64]; omega
      generalize hasB G nf len (kd q i) (part a b c i) = t at *
      generalize rk (kd q i) = kq at *
      generalize part a b c i = pq at *
      clear hall hwr
      have hbd : Below wr.heap.size wr wr.drew := (Below.refl _ _).drew
      go_wp2_with fail
      go_region_held3 (fun W' => W'.cell? ⟨B, i, none⟩ = some (.int .i64 kq) ∧ W'.cell? ⟨J, i, none⟩ = some (.int .i64 pq)) (first | exact ⟨d0, d1⟩ | go_keep | assumption | (go_split_ands; exact ⟨cell_then (by assumption) (by assumption), cell_then (by assumption) (by assumption)⟩)) ((go_at_call 70; ((with_reducible refine (cf.out _ (by repeat (first | assumption | exact Below.refl _ _ | refine below_drewN ?_ _ | refine below_alloc ?_ _ | refine below_then ?_ (by assumption)))).mono ?_); rintro e wz ⟨rfl, hkz, hEnd⟩)))
      all_goals
        clear cf hcs hbd d0 d1 hkz heq0 heq1
        cases t
        · obtain rfl : r = (i : Int) + 1 := hno.out rfl
          have hbz := Lib.hid (hbw.out.trans (hEnd.out.mono hbw.out.size))
          clear hyes hno hEnd
          go_wp2_with fail
          go_ret
          exact ⟨rfl, hbz.out⟩
        · have hall := Lib.hid (hyes.out rfl)
          clear hyes hno
          go_wp2_with fail
          go_roundw
          case rel => exact ⟨i + 1, by go_num, by omega, hall, hEnd⟩
          case measure => simp [RowKit.intOf]; omega
    · obtain rfl : i = 3 := by omega
      obtain rfl : r = -1 := hwr.out.2 hall.out
      clear hwr hall hcs
      go_wp2_with fail
      go_ret
      exact ⟨rfl, hbr.out⟩
end Cd
end Go.Proofs.YtapkcjbfflgplaaDoor
