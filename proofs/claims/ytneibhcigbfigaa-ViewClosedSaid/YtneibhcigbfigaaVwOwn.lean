/- ref29.Find, and whether each object has an address of its own (treadmilllaw29.own). -/
import Derived.Test.YtneibhcigbfigaaVwClM
namespace Go.Proofs.Ytneibhcigbfigaa
open Go.RowKit Go.Lib Fx Ho Gr
set_option linter.unusedVariables false
set_option linter.unusedSimpArgs false
namespace Vw
variable {w w' W : World} {vg vs vo : Value} {V : Vi}
set_option maxRecDepth 100000 in
set_option maxHeartbeats 4000000 in
theorem rfind_any (h : IsV w V vg vs vo) (x : Int) : Calls Try.prog 23 #[vv V vg vs vo, .int .i64 x] w fun e w' => e = .returned (.int .i64 (fnd V.os x)) ∧ Below w.heap.size w w' := by
  obtain ⟨W1, hW1⟩ : ∃ W1, w.alloc (.cells #[.int .i64 V.ph, .int .i64 V.cy, .int .i64 V.ck, vg, vs, vo, .int .i64 V.gr, .int .i64 V.nt, .int .i64 V.rt] 32) = W1 := ⟨_, rfl⟩
  have hb1 := below_alloc (Below.refl _ w) (.cells #[.int .i64 V.ph, .int .i64 V.cy, .int .i64 V.ck, vg, vs, vo, .int .i64 V.gr, .int .i64 V.nt, .int .i64 V.rt] 32)
  have k1 := heap_alloc_new w (.cells #[.int .i64 V.ph, .int .i64 V.cy, .int .i64 V.ck, vg, vs, vo, .int .i64 V.gr, .int .i64 V.nt, .int .i64 V.rt] 32)
  rw [hW1] at hb1 k1
  have h1 := h.below hb1
  obtain ⟨sp, cap, rfl, hmx, hos⟩ := h1.os
  obtain ⟨m, hm0⟩ : ∃ m, V.os.length = m := ⟨_, rfl⟩
  have c5 : W1.cell? ⟨w.heap.size, 5, none⟩ = some (.slice sp V.os.length cap) := cell_of k1 rfl
  have hat : Hid (∀ i, i < m → ∃ b off, sp = some ⟨b, off, none⟩ ∧ W1.cell? ⟨b, off + i * 3, none⟩ = some (.int .i64 (V.os.getD i o0).1)) := Lib.hid fun i hi => by
    obtain ⟨b, off, sv, e1, _, e3, e4, e5, e6⟩ := hos i (by omega)
    exact ⟨b, off, e1, e3⟩
  have hnx : Hid (∀ i, i < m → (∀ o ∈ V.os.take i, o.1 ≠ x) → (V.os.getD i o0).1 ≠ x → ∀ o ∈ V.os.take (i + 1), o.1 ≠ x) := Lib.hid fun i hi h1 h2 o ho => by
    rw [take_app (by omega)] at ho
    rcases List.mem_append.1 ho with e | e
    · exact h1 o e
    · rw [List.mem_singleton.1 e]; exact h2
  have hyes : Hid (∀ i, i < m → (∀ o ∈ V.os.take i, o.1 ≠ x) → (V.os.getD i o0).1 = x → fnd V.os x = (i : Int)) := Lib.hid fun i hi h1 h2 => fnd_at (by omega) h1 h2
  have hno : Hid ((∀ o ∈ V.os.take m, o.1 ≠ x) → fnd V.os x = -1) := Lib.hid fun h => by rw [List.take_of_length_le (by omega)] at h; exact fnd_no h
  have hbB : Hid (Below w.heap.size w W1) := Lib.hid hb1
  unfold vv
  rw [hm0] at hmx c5
  rw [hm0] at hW1 ⊢
  clear h h1 hos k1 hb1 hm0
  go_enter Try.func23, Try.ntmps23
  go_upto_region 1 with fail
  try rw [hW1]
  clear hW1
  go_wp2_with fail
  go_loopw [4, 5] (fun u4 u5 wr => ∃ i : Nat, u5 = .int .i64 i ∧ i ≤ m ∧ Hid (∀ o ∈ V.os.take i, o.1 ≠ x) ∧ wr = W1) (fun _ u _ => (m - (RowKit.intOf u).toNat))
  case atStart => exact ⟨0, rfl, by omega, Lib.hid fun o ho => by simp at ho, rfl⟩
  case round =>
    obtain ⟨i, rfl, hi, hnone, rfl⟩ := hrel
    have i0 : (0 : Int) ≤ (i : Int) := by omega
    by_cases hlt : i < m
    · have i2 : (i : Int) < (m : Int) := by omega
      obtain ⟨b, off, rfl, e3⟩ := hat.out i hlt
      obtain ⟨oa, hoa⟩ : ∃ oa, (V.os.getD i o0).1 = oa := ⟨_, rfl⟩
      rw [hoa] at e3
      have hn1 := Lib.hid (hnx.out i hlt hnone.out)
      have hy1 := Lib.hid (hyes.out i hlt hnone.out)
      rw [hoa] at hn1 hy1
      clear hoa hnone
      by_cases hx : oa = x
      · have hfx := Lib.hid (hy1.out hx)
        have hxx : (oa == x) = true := by rw [hx]; exact beq_self_eq_true x
        clear hn1 hy1 hx
        go_wp2_with fail
        go_ret
        exact ⟨congrArg (fun z => Ending.returned (.int .i64 z)) hfx.out.symm, hbB.out⟩
      · have hxx : (oa == x) = false := beq_eq_false_iff_ne.2 hx
        have hnx2 := Lib.hid (hn1.out hx)
        clear hn1 hy1
        go_wp2_with fail
        go_roundw
        case rel => exact ⟨i + 1, by go_num, by omega, hnx2, by first | rfl | trivial⟩
        case measure => simp [RowKit.intOf]; omega
    · obtain rfl : i = m := by omega
      have i2 : ¬ ((i : Int) < (i : Int)) := by omega
      have hfx := Lib.hid (hno.out hnone.out)
      clear hnone
      go_wp2_with fail
      go_ret
      exact ⟨congrArg (fun z => Ending.returned (.int .i64 z)) hfx.out.symm, hbB.out⟩
def OwnR (w : World) (V : Vi) (e : Ending) (w' : World) : Prop := (∃ b, e = .returned (.bool b) ∧ (b = true → Own V)) ∧ Below w.heap.size w w'
set_option maxRecDepth 100000 in
set_option maxHeartbeats 4000000 in
theorem own_any (h : IsV w V vg vs vo) : Calls Try.prog 36 #[vv V vg vs vo] w (OwnR w V) := by
  obtain ⟨sg, cg, rfl, hml, -⟩ := id h.gl
  obtain ⟨ss, cs, rfl, hmg, -⟩ := id h.gs
  obtain ⟨sp, cap, rfl, hmx, hos⟩ := id h.os
  obtain ⟨m, hm0⟩ : ∃ m, V.os.length = m := ⟨_, rfl⟩
  obtain ⟨vg, hvg⟩ : ∃ v : Value, v = .slice sg V.gl.length cg := ⟨_, rfl⟩
  obtain ⟨vs, hvs⟩ : ∃ v : Value, v = .slice ss V.gs.length cs := ⟨_, rfl⟩
  obtain ⟨vo, hvo⟩ : ∃ v : Value, v = .slice sp V.os.length cap := ⟨_, rfl⟩
  rw [← hvg, ← hvs, ← hvo] at h ⊢
  obtain ⟨W1, hW1⟩ : ∃ W1, w.alloc (.cells #[.int .i64 V.ph, .int .i64 V.cy, .int .i64 V.ck, vg, vs, vo, .int .i64 V.gr, .int .i64 V.nt, .int .i64 V.rt] 32) = W1 := ⟨_, rfl⟩
  have hb1 := below_alloc (Below.refl _ w) (.cells #[.int .i64 V.ph, .int .i64 V.cy, .int .i64 V.ck, vg, vs, vo, .int .i64 V.gr, .int .i64 V.nt, .int .i64 V.rt] 32)
  have k1 := heap_alloc_new w (.cells #[.int .i64 V.ph, .int .i64 V.cy, .int .i64 V.ck, vg, vs, vo, .int .i64 V.gr, .int .i64 V.nt, .int .i64 V.rt] 32)
  rw [hW1] at hb1 k1
  have h1 := Lib.hid (h.below hb1)
  have hB1 := Lib.hid (box9_of (V := V) k1)
  have hat : Hid (∀ W, Below W1.heap.size W1 W → ∀ i, i < m → ∃ b off, sp = some ⟨b, off, none⟩ ∧ W.cell? ⟨b, off + i * 3, none⟩ = some (.int .i64 (V.os.getD i o0).1)) := Lib.hid fun W hW i hi => by
    obtain ⟨b, off, sv, e1, _, e3, e4, e5, e6⟩ := hos i (by omega)
    exact ⟨b, off, e1, cell_then (hb1.trans (hW.mono hb1.size)) e3⟩
  have hfin : Hid (∀ W, Below W1.heap.size W1 W → Below w.heap.size w W) := Lib.hid fun W hW => hb1.trans (hW.mono hb1.size)
  have hOwn : Hid ((∀ j, j < m → (V.os.getD j o0).1 ≠ 0 ∧ fnd V.os (V.os.getD j o0).1 = (j : Int)) → Own V) := Lib.hid fun h0 j hj => h0 j (by omega)
  have cf := fun (W : World) (hW : Below W1.heap.size W1 W) x => rfind_any (h1.out.below hW) x
  unfold vv at cf ⊢
  rw [hm0] at hvo hmx
  subst hvg hvs hvo
  clear h k1 hb1 hm0 hos
  replace cf := Lib.hid cf
  go_enter Try.func36, Try.ntmps36
  go_upto_region 1 with fail
  try rw [hW1]
  clear hW1
  obtain ⟨p, hp⟩ : ∃ p, w.heap.size = p := ⟨_, rfl⟩
  rw [hp] at hB1 ⊢
  go_wp2_with fail
  go_loopw [2, 3] (fun u2 u3 wr => ∃ i : Nat, u3 = .int .i64 i ∧ i ≤ m ∧ Hid (∀ j, j < i → (V.os.getD j o0).1 ≠ 0 ∧ fnd V.os (V.os.getD j o0).1 = (j : Int)) ∧ Hid (Below W1.heap.size W1 wr)) (fun _ u _ => (m - (RowKit.intOf u).toNat))
  case atStart => exact ⟨0, rfl, by omega, Lib.hid fun j hj => absurd hj (by omega), Lib.hid (Below.refl _ _)⟩
  case round =>
    obtain ⟨i, rfl, hi, hall, hbw⟩ := hrel
    have i0 : (0 : Int) ≤ (i : Int) := by omega
    obtain ⟨g0, g1, g2, g3, g4, g5, g6, g7, g8⟩ := hB1.out.below hbw.out
    by_cases hlt : i < m
    · have i2 : (i : Int) < (m : Int) := by omega
      obtain ⟨b, off, rfl, e3⟩ := hat.out wr hbw.out i hlt
      obtain ⟨oa, hoa⟩ : ∃ oa, (V.os.getD i o0).1 = oa := ⟨_, rfl⟩
      rw [hoa] at e3
      obtain ⟨fd, hfd⟩ : ∃ fd, fnd V.os oa = fd := ⟨_, rfl⟩
      have hnx : Hid (oa ≠ 0 → fd = (i : Int) → ∀ j, j < i + 1 → (V.os.getD j o0).1 ≠ 0 ∧ fnd V.os (V.os.getD j o0).1 = (j : Int)) := Lib.hid fun h0 h1 j hj => by
        by_cases e : j = i
        · rw [e, hoa]; exact ⟨h0, by rw [hfd]; exact h1⟩
        · exact hall.out j (by omega)
      have cf1 := cf.out wr hbw.out oa
      have cf0 := cf
      have hfd0 := hfd
      rw [hfd] at cf1
      clear hoa hfd hall cf
      by_cases hz : oa = 0
      · have hzz : (oa == 0) = true := by rw [hz]; rfl
        clear cf1
        go_upto_region 4 with fail
        go_big_quiet (fail)
        go_wp2_with fail
        go_ret
        exact ⟨⟨false, rfl, fun hh => by cases hh⟩, hfin.out _ (below_drewN hbw.out _)⟩
      · have hzz : (oa == 0) = false := beq_eq_false_iff_ne.2 hz
        replace cf1 := cf0.out wr.drew hbw.out.drew oa
        rw [hfd0] at cf1
        have hbd := Lib.hid hbw.out.drew
        clear cf0 hfd0
        by_cases hfi : fd = (i : Int)
        · have hff : (fd == (i : Int)) = true := by rw [hfi]; exact beq_self_eq_true _
          have hfn : (fd != (i : Int)) = false := by unfold bne; rw [hff]; rfl
          have hnx2 := Lib.hid (hnx.out hz hfi)
          clear hnx hz
          go_upto_region 4 with fail
          go_region_with (first | (go_at_call 23; ((refine Calls.mono cf1 ?_); rintro e w5 ⟨rfl, hb5⟩; have hb6 := Lib.hid (hbd.out.trans (hb5.mono hbd.out.size)); clear hb5)))
          all_goals
            go_wp2_with fail
            go_roundw
            case rel => exact ⟨i + 1, by go_num, by omega, hnx2, hb6⟩
            case measure => simp [RowKit.intOf]; omega
        · have hff : (fd == (i : Int)) = false := beq_eq_false_iff_ne.2 hfi
          have hfn : (fd != (i : Int)) = true := by unfold bne; rw [hff]; rfl
          clear hnx hz
          go_upto_region 4 with fail
          go_region_with (first | (go_at_call 23; ((refine Calls.mono cf1 ?_); rintro e w5 ⟨rfl, hb5⟩; have hb6 := Lib.hid (hbd.out.trans (hb5.mono hbd.out.size)); clear hb5)))
          all_goals
            go_wp2_with fail
            go_ret
            exact ⟨⟨false, rfl, fun hh => by cases hh⟩, hfin.out _ hb6.out⟩
    · obtain rfl : m = i := by omega
      have i2 : ¬ ((m : Int) < (m : Int)) := by omega
      have e8 := Lib.hid (hOwn.out hall.out)
      clear cf hall hOwn
      go_wp2_with fail
      go_ret
      exact ⟨⟨true, rfl, fun _ => e8.out⟩, hfin.out _ hbw.out⟩
end Vw
end Go.Proofs.Ytneibhcigbfigaa
