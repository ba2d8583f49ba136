/- The rules of audit: lost, objects, white. -/
import Derived.Test.YtneibhcigbfigaaVwAu2
import Derived.Test.YtneibhcigbfigaaVwFew
namespace Go.Proofs.Ytneibhcigbfigaa
open Go.RowKit Go.Lib Fx Ho Gr
set_option linter.unusedVariables false
set_option linter.unusedSimpArgs false
namespace Vw
variable {w w' W : World} {vg vs vo : Value} {V : Vi} {gs : List Gor} {os : List Ob} {i g m : Nat} {ps p : Int}
/-- Rule 1. -/
def Lo (V : Vi) : Prop := ∃ x, Lst (rootsL V.gl V.gs) V.os x
/-- Rule 6. -/
def Wh (V : Vi) : Prop := V.ph = 2 ∧ ∃ x, Rch (rootsL V.gl V.gs) V.os x ∧ mkd V.os x = false
theorem wf_range {x : Int} (h : WfI x) : -9223372036854775808 ≤ x ∧ x ≤ 9223372036854775807 := by
  have h : (decide (-9223372036854775808 ≤ x) && decide (x ≤ 9223372036854775807)) = true := h
  simp at h
  exact h
theorem pos_iff {ts : List Int} {P : Int → Prop} (h : ∀ a, a ∈ ts ↔ P a) : 0 < ts.length ↔ ∃ x, P x := by
  constructor
  · intro h0
    exact ⟨ts.getD 0 0, (h _).1 (getD_mem 0 h0)⟩
  · rintro ⟨x, hx⟩
    exact List.length_pos_of_mem ((h x).2 hx)
set_option maxRecDepth 100000 in
set_option maxHeartbeats 4000000 in
theorem alost_any (h : IsV w V vg vs vo) (hf : Fw V) (ps : Int) : Calls Try.prog 91 #[vv V vg vs vo, .int .i64 ps] w (YesR w (Lo V)) := by
  obtain ⟨W1, hW1⟩ : ∃ W1, w.alloc (.cells #[.int .i64 V.ph, .int .i64 V.cy, .int .i64 V.ck, vg, vs, vo, .int .i64 V.gr, .int .i64 V.nt, .int .i64 V.rt] 32) = W1 := ⟨_, rfl⟩
  have hb1 := below_alloc (Below.refl _ w) (.cells #[.int .i64 V.ph, .int .i64 V.cy, .int .i64 V.ck, vg, vs, vo, .int .i64 V.gr, .int .i64 V.nt, .int .i64 V.rt] 32)
  have k1 := heap_alloc_new w (.cells #[.int .i64 V.ph, .int .i64 V.cy, .int .i64 V.ck, vg, vs, vo, .int .i64 V.gr, .int .i64 V.nt, .int .i64 V.rt] 32)
  rw [hW1] at hb1 k1
  have h1 := h.below hb1
  have hB1 := Lib.hid (box9_of (V := V) k1)
  have cc := viewLost_any h1 hf
  unfold LostV vv at cc
  unfold vv
  replace hb1 := Lib.hid hb1
  clear h h1 k1
  go_enter Try.func91, Try.ntmps91
  go_upto_region 1 with fail
  try rw [hW1]
  clear hW1
  obtain ⟨g0, g1, g2, g3, g4, g5, g6, g7, g8⟩ := hB1.out
  go_wp2_with fail
  with_reducible refine Calls.mono cc ?_
  rintro e w5 ⟨v, ts, rfl, hts, hi, hb⟩
  have hb5 := Lib.hid (hb1.out.trans (hb.mono hb1.out.size))
  have hp := Lib.hid (pos_iff hts.mem)
  obtain ⟨sp, cp, rfl, -⟩ := hi
  obtain ⟨n, hn⟩ : ∃ n, ts.length = n := ⟨_, rfl⟩
  rw [hn] at hp ⊢
  clear cc hts hb hn g0 g1 g2 g3 g4 g5 g6 g7 g8
  go_wp2_with fail
  go_ret
  exact ⟨_, rfl, by rw [show Lo V ↔ 0 < n from hp.out.symm]; simp, hb5.out⟩
set_option maxRecDepth 100000 in
set_option maxHeartbeats 4000000 in
theorem awhite_any (h : IsV w V vg vs vo) (hf : Fw V) (ps : Int) : Calls Try.prog 96 #[vv V vg vs vo, .int .i64 ps] w (YesR w (Wh V)) := by
  obtain ⟨W1, hW1⟩ : ∃ W1, w.alloc (.cells #[.int .i64 V.ph, .int .i64 V.cy, .int .i64 V.ck, vg, vs, vo, .int .i64 V.gr, .int .i64 V.nt, .int .i64 V.rt] 32) = W1 := ⟨_, rfl⟩
  have hb1 := below_alloc (Below.refl _ w) (.cells #[.int .i64 V.ph, .int .i64 V.cy, .int .i64 V.ck, vg, vs, vo, .int .i64 V.gr, .int .i64 V.nt, .int .i64 V.rt] 32)
  have k1 := heap_alloc_new w (.cells #[.int .i64 V.ph, .int .i64 V.cy, .int .i64 V.ck, vg, vs, vo, .int .i64 V.gr, .int .i64 V.nt, .int .i64 V.rt] 32)
  rw [hW1] at hb1 k1
  have h1 := h.below hb1
  have hB1 := Lib.hid (box9_of (V := V) k1)
  have cc := viewWhite_any h1 hf
  unfold WhiteV vv at cc
  unfold vv
  replace hb1 := Lib.hid hb1
  clear h h1 k1
  go_enter Try.func96, Try.ntmps96
  go_upto_region 1 with fail
  try rw [hW1]
  clear hW1
  obtain ⟨g0, g1, g2, g3, g4, g5, g6, g7, g8⟩ := hB1.out
  by_cases hp2 : V.ph = 2
  · have hp2b : (V.ph == 2) = true := by rw [hp2]; rfl
    rw [hp2] at cc
    go_wp2_with fail
    with_reducible refine Calls.mono cc ?_
    rintro e w5 ⟨v, ts, rfl, hts, hi, hb⟩
    have hb5 := Lib.hid (hb1.out.trans (hb.mono hb1.out.size))
    have hp := Lib.hid (pos_iff hts.mem)
    obtain ⟨sp, cp, rfl, -⟩ := hi
    obtain ⟨n, hn⟩ : ∃ n, ts.length = n := ⟨_, rfl⟩
    rw [hn] at hp ⊢
    clear cc hts hb hn g0 g1 g2 g3 g4 g5 g6 g7 g8
    go_wp2_with fail
    go_ret
    refine ⟨_, rfl, ?_, hb5.out⟩
    have h3 : Wh V ↔ 0 < n := by rw [hp.out]; exact ⟨fun e => e.2, fun e => ⟨hp2, e⟩⟩
    rw [h3]; simp
  · have hp2b : (V.ph == 2) = false := beq_eq_false_iff_ne.2 hp2
    clear cc
    go_wp2_with fail
    go_ret
    exact ⟨_, rfl, yes_f fun e => hp2 e.1, hb1.out⟩
/-- Rule 2. -/
def BadO (os : List Ob) (i : Nat) : Prop := (os.getD i o0).1 < 64 ∨ sz (os.getD i o0) = 0 ∨ (i + 1 < os.length ∧ ((os.getD (i + 1) o0).1 < (os.getD i o0).1 ∨ (os.getD (i + 1) o0).1 - (os.getD i o0).1 < sz (os.getD i o0)))
def Obj (V : Vi) : Prop := ∃ i, i < V.os.length ∧ BadO V.os i
set_option maxRecDepth 100000 in
set_option maxHeartbeats 4000000 in
theorem objects_any (h : IsV w V vg vs vo) (hl : V.os.length ≤ 1000000) (ps : Int) : Calls Try.prog 92 #[vv V vg vs vo, .int .i64 ps] w (YesR w (Obj V)) := by
  obtain ⟨W1, hW1⟩ : ∃ W1, w.alloc (.cells #[.int .i64 V.ph, .int .i64 V.cy, .int .i64 V.ck, vg, vs, vo, .int .i64 V.gr, .int .i64 V.nt, .int .i64 V.rt] 32) = W1 := ⟨_, rfl⟩
  have hb1 := below_alloc (Below.refl _ w) (.cells #[.int .i64 V.ph, .int .i64 V.cy, .int .i64 V.ck, vg, vs, vo, .int .i64 V.gr, .int .i64 V.nt, .int .i64 V.rt] 32)
  have k1 := heap_alloc_new w (.cells #[.int .i64 V.ph, .int .i64 V.cy, .int .i64 V.ck, vg, vs, vo, .int .i64 V.gr, .int .i64 V.nt, .int .i64 V.rt] 32)
  rw [hW1] at hb1 k1
  have h1 := h.below hb1
  obtain ⟨so, co, rfl, hmo, hos⟩ := h1.os
  obtain ⟨m, hm0⟩ : ∃ m, V.os.length = m := ⟨_, rfl⟩
  have c5 : W1.cell? ⟨w.heap.size, 5, none⟩ = some (.slice so V.os.length co) := cell_of k1 rfl
  have hot : Hid (∀ W, Below W1.heap.size W1 W → ∀ i, i < m → ∃ b off sp2 p2, so = some ⟨b, off, none⟩ ∧ W.cell? ⟨b, off + i * 3, none⟩ = some (.int .i64 (V.os.getD i o0).1) ∧ W.cell? ⟨b, off + i * 3 + 1, none⟩ = some (.slice sp2 (V.os.getD i o0).2.1.length p2) ∧ W.cell? ⟨b, off + i * 3 + 2, none⟩ = some (.bool (V.os.getD i o0).2.2)) := Lib.hid fun W hW i hi => by
    obtain ⟨b, off, sv, e1, _, e3, e4, e5, e6⟩ := hos i (by omega)
    obtain ⟨sp2, p2, rfl, _⟩ := e6
    exact ⟨b, off, sp2, p2, e1, cell_then hW e3, cell_then hW e4, cell_then hW e5⟩
  have hfin : Hid (∀ W, Below W1.heap.size W1 W → Below w.heap.size w W) := Lib.hid fun W hW => hb1.trans (hW.mono hb1.size)
  have hr0 : Hid (Below W1.heap.size W1 W1) := Lib.hid (Below.refl _ _)
  have hwf : Hid (∀ i, i < m → WfI (V.os.getD i o0).1) := Lib.hid fun i hi => h.wf.oa _ (getD_mem o0 (by omega))
  have hend : Hid ((∀ j, j < m → ¬ BadO V.os j) → ¬ Obj V) := Lib.hid fun a e => by
    obtain ⟨i, hi, e1⟩ := e
    exact a i (by omega) e1
  have hbad : Hid (∀ i, i < m → BadO V.os i → Obj V) := Lib.hid fun i hi e => ⟨i, by omega, e⟩
  have hbo : Hid (∀ i, BadO V.os i ↔ ((V.os.getD i o0).1 < 64 ∨ sz (V.os.getD i o0) = 0 ∨ (i + 1 < m ∧ ((V.os.getD (i + 1) o0).1 < (V.os.getD i o0).1 ∨ (V.os.getD (i + 1) o0).1 - (V.os.getD i o0).1 < sz (V.os.getD i o0))))) := Lib.hid fun i => by unfold BadO; rw [hm0]
  have m6 : m ≤ 1000000 := by omega
  have hc5 : Hid (∀ W, Below W1.heap.size W1 W → W.cell? ⟨w.heap.size, 5, none⟩ = some (.slice so m co)) := Lib.hid fun W hW => by rw [← hm0]; exact cell_then hW c5
  clear hl
  unfold vv
  rw [hm0] at hmo c5
  rw [hm0] at hW1 ⊢
  clear h h1 k1 hb1 hos hm0
  go_enter Try.func92, Try.ntmps92
  go_upto_region 1 with fail
  try rw [hW1]
  clear hW1
  obtain ⟨q, hq⟩ : ∃ q, w.heap.size = q := ⟨_, rfl⟩
  rw [hq] at hc5 c5
  try rw [hq]
  go_wp2_with fail
  clear c5
  go_loopw [4, 11] (fun u4 u wr => ∃ i : Nat, u = .int .i64 i ∧ i ≤ m ∧ Hid (∀ j, j < i → ¬ BadO V.os j) ∧ Hid (Below W1.heap.size W1 wr)) (fun _ u _ => (m - (RowKit.intOf u).toNat))
  case atStart => exact ⟨0, rfl, by omega, Lib.hid fun j hj => absurd hj (by omega), hr0⟩
  case round =>
    obtain ⟨i, rfl, hi, hall, hbw⟩ := hrel
    have i0 : (0 : Int) ≤ (i : Int) := by omega
    by_cases hlt : i < m
    · have i2 : (i : Int) < (m : Int) := by omega
      obtain ⟨b, off, sp2, p2, rfl, e3, e4, e5⟩ := hot.out wr hbw.out i hlt
      have hnx : Hid (¬ BadO V.os i → ∀ j, j < i + 1 → ¬ BadO V.os j) := Lib.hid fun h0 j hj => by
        by_cases e : j = i
        · rw [e]; exact h0
        · exact hall.out j (by omega)
      have hbd := Lib.hid (hbad.out i hlt)
      rw [hbo.out i] at hnx hbd
      obtain ⟨X, hX⟩ : ∃ X, wr.alloc (.cells #[.int .i64 (V.os.getD i o0).1, .slice sp2 (V.os.getD i o0).2.1.length p2, .bool (V.os.getD i o0).2.2] 29) = X := ⟨_, rfl⟩
      have kX := heap_alloc_new wr (.cells #[.int .i64 (V.os.getD i o0).1, .slice sp2 (V.os.getD i o0).2.1.length p2, .bool (V.os.getD i o0).2.2] 29)
      have bX := below_alloc (Below.refl _ wr) (.cells #[.int .i64 (V.os.getD i o0).1, .slice sp2 (V.os.getD i o0).2.1.length p2, .bool (V.os.getD i o0).2.2] 29)
      rw [hX] at kX bX
      obtain ⟨O, hO⟩ : ∃ O, wr.heap.size = O := ⟨_, rfl⟩
      rw [hO] at kX
      have hb2 := Lib.hid (hbw.out.trans (bX.mono hbw.out.size))
      have k0 : X.cell? ⟨O, 0, none⟩ = some (.int .i64 (V.os.getD i o0).1) := cell_of kX rfl
      have k1 : X.cell? ⟨O, 1, none⟩ = some (.slice sp2 (V.os.getD i o0).2.1.length p2) := cell_of kX rfl
      have hsz := sz_le (V.os.getD i o0)
      obtain ⟨s, hs⟩ : ∃ s, sz (V.os.getD i o0) = s := ⟨_, rfl⟩
      have c1 := fun W => Go.Proofs.Ytneibhcigbfigaa.of_any ((V.os.getD i o0).2.1.length : Int) W
      have c2 := fun W => Go.Proofs.Ytneibhcigbfigaa.size_any4 (Go.Proofs.Ytneibhcigbfigaa.Cl.ofI ((V.os.getD i o0).2.1.length : Int)) W
      rw [show Go.Proofs.Ytneibhcigbfigaa.Cl.sizeI (Go.Proofs.Ytneibhcigbfigaa.Cl.ofI ((V.os.getD i o0).2.1.length : Int)) = s from hs] at c2
      rw [hs] at hsz hnx hbd
      obtain ⟨n, hn⟩ : ∃ n, (V.os.getD i o0).2.1.length = n := ⟨_, rfl⟩
      obtain ⟨a, ha⟩ : ∃ a, (V.os.getD i o0).1 = a := ⟨_, rfl⟩
      obtain ⟨mk, hmk⟩ : ∃ mk, (V.os.getD i o0).2.2 = mk := ⟨_, rfl⟩
      have hwa := hwf.out i hlt
      rw [ha] at e3 k0 hnx hbd hwa
      rw [hn] at e4 k1 c1 c2
      rw [hmk] at e5
      rw [ha, hn, hmk] at hX
      clear hs hn ha hmk kX bX hall
      go_upto_region 4 with fail
      try rw [hX]
      clear hX
      try rw [hO]
      clear hO
      have d1 := c1 X
      go_wp2_with fail
      with_reducible refine Calls.mono d1 ?_
      rintro e w5 ⟨rfl, hb5⟩
      have d2 := c2 w5
      have k0 : w5.cell? ⟨O, 0, none⟩ = some (.int .i64 a) := cell_then hb5 k0
      have hb6 := Lib.hid (hb2.out.trans (hb5.mono hb2.out.size))
      clear d1 c1 c2 hb5 k1 hb2
      go_wp2_with fail
      with_reducible refine Calls.mono d2 ?_
      rintro e w6 ⟨rfl, hb5⟩
      have k0 : w6.cell? ⟨O, 0, none⟩ = some (.int .i64 a) := cell_then hb5 k0
      have hb7 := Lib.hid (hb6.out.trans (hb5.mono hb6.out.size))
      have k5 := hc5.out w6 hb7.out
      have hnxt : Hid (i + 1 < m → ∃ a', (V.os.getD (i + 1) o0).1 = a' ∧ WfI a' ∧ w6.cell? ⟨b, off + (i + 1) * 3, none⟩ = some (.int .i64 a')) := Lib.hid fun h1 => by
        obtain ⟨b', off', sp', p', e1, e3', _, _⟩ := hot.out w6 hb7.out (i + 1) h1
        cases e1
        exact ⟨_, rfl, hwf.out _ h1, e3'⟩
      clear d2 hb5 hb6 hot hc5 hwf e3 e4 e5
      by_cases a64 : a < 64
      · have a64b : decide (a < 64) = true := decide_eq_true a64
        have e8 := Lib.hid (hbd.out (.inl a64))
        clear hnx hbd
        go_wp2_with fail
        go_ret
        exact ⟨_, rfl, yes_t e8.out, hfin.out _ hb7.out⟩
      · have a64b : decide (a < 64) = false := decide_eq_false a64
        by_cases s0 : s = 0
        · have s0b : (s == 0) = true := by rw [s0]; rfl
          have e8 := Lib.hid (hbd.out (.inr (.inl s0)))
          clear hnx hbd
          go_wp2_with fail
          go_ret
          exact ⟨_, rfl, yes_t e8.out, hfin.out _ hb7.out⟩
        · have s0b : (s == 0) = false := beq_eq_false_iff_ne.2 s0
          have x1 : IntKind.i64.wrap ((i : Int) + 1) = (i : Int) + 1 := by rw [IntKind.wrap_i64]; omega
          have x0 : (0 : Int) ≤ (i : Int) + 1 := by omega
          go_upto_region 7 with fail
          by_cases hl : i + 1 < m
          · have l1 : (i : Int) + 1 < (m : Int) := by omega
            have l1b : decide ((i : Int) + 1 < (m : Int)) = true := decide_eq_true l1
            have l2 : ((i : Int) + 1).toNat = i + 1 := by omega
            obtain ⟨a', ha', hwa', e9⟩ := hnxt.out hl
            rw [ha'] at hnx hbd
            have hw1 := wf_range hwa'
            have ew : IntKind.i64.wrap (a' - a) = a' - a ∨ a' < a := by
              by_cases e : a' < a
              · exact .inr e
              · refine .inl ?_
                rw [IntKind.wrap_i64]; omega
            by_cases o1 : a' < a
            · have o1b : decide (a' < a) = true := decide_eq_true o1
              have e8 := Lib.hid (hbd.out (.inr (.inr ⟨hl, .inl o1⟩)))
              clear hnx hbd ha'
              go_big_quiet (fail)
              go_wp2_with fail
              go_ret
              exact ⟨_, rfl, yes_t e8.out, hfin.out _ (below_drewN hb7.out _)⟩
            · have o1b : decide (a' < a) = false := decide_eq_false o1
              have ew := ew.resolve_right o1
              by_cases o2 : a' - a < s
              · have o2b : decide (a' - a < s) = true := decide_eq_true o2
                have e8 := Lib.hid (hbd.out (.inr (.inr ⟨hl, .inr o2⟩)))
                clear hnx hbd ha'
                go_big_quiet (fail)
                go_wp2_with fail
                go_ret
                exact ⟨_, rfl, yes_t e8.out, hfin.out _ (below_drewN hb7.out _)⟩
              · have o2b : decide (a' - a < s) = false := decide_eq_false o2
                have hnx2 := Lib.hid (hnx.out fun e => by
                  rcases e with e | e | ⟨_, e | e⟩
                  · first | omega | exact a64 e
                  · first | omega | exact s0 e
                  · first | omega | exact o1 e
                  · first | omega | exact o2 e)
                clear hnx hbd ha'
                go_big_quiet (fail)
                go_wp2_with fail
                go_roundw
                case rel => exact ⟨i + 1, by go_num, by omega, hnx2, Lib.hid (below_drewN hb7.out _)⟩
                case measure => simp [RowKit.intOf]; omega
          · have l1 : ¬ ((i : Int) + 1 < (m : Int)) := by omega
            have l1b : decide ((i : Int) + 1 < (m : Int)) = false := decide_eq_false l1
            have hnx2 := Lib.hid (hnx.out fun e => by
              rcases e with e | e | ⟨e, _⟩
              · first | omega | exact a64 e
              · first | omega | exact s0 e
              · first | omega | exact hl e)
            clear hnx hbd
            go_big_quiet (fail)
            go_wp2_with fail
            go_roundw
            case rel => exact ⟨i + 1, by go_num, by omega, hnx2, Lib.hid (below_drewN hb7.out _)⟩
            case measure => simp [RowKit.intOf]; omega
    · obtain rfl : m = i := by omega
      have i2 : ¬ ((m : Int) < (m : Int)) := by omega
      have e8 := Lib.hid (hend.out hall.out)
      clear hend hall
      go_wp2_with fail
      go_ret
      exact ⟨_, rfl, yes_f e8.out, hfin.out _ hbw.out⟩
end Vw
end Go.Proofs.Ytneibhcigbfigaa
