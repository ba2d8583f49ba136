/- The document's own May. -/
import Derived.Test.YtapkcjbfflgplaaDoorRWrong
namespace Go.Proofs.YtapkcjbfflgplaaDoor
open Go.RowKit Go.Lib Fx Ho Gr
set_option linter.unusedVariables false
namespace Cd
variable {w w' W wr : World} {v fv : Value} {G nf len n : Int} {fs : List (List Ins)} {zs A : List Int} {l : List Ins}
set_option maxRecDepth 100000 in
set_option maxHeartbeats 4000000 in
theorem refmay_any (h : FRow w v fs) (G : Int) : Calls Tryd.prog 32 #[.agg #[.int .i64 G, v]] w (MayR G fs w) := by
  obtain ⟨sp, cap, rfl, hat⟩ := h.fix
  obtain ⟨m, hm⟩ : ∃ m, fs.length = m := ⟨_, rfl⟩
  have hat : Hid (∀ i, i < m → ∃ b off sv cp, sp = some ⟨b, off, none⟩ ∧ ∀ wr, Below w.heap.size w wr → wr.cell? ⟨b, off + i, none⟩ = some (.slice sv (fs.getD i []).length cp) ∧ IRow wr (.slice sv (fs.getD i []).length cp) (fs.getD i [])) := Lib.hid fun i hi => hat i (by omega)
  have hfin : Hid (¬ (1 ≤ m ∧ m ≤ 16 ∧ 0 ≤ G ∧ G ≤ 32 ∧ ∀ i, i < m → 1 ≤ (fs.getD i []).length ∧ (fs.getD i []).length ≤ 64) → MayIs G fs 1) := Lib.hid fun h => .inl ⟨fun hc => h (by unfold CntOk at hc; rw [hm] at hc; exact hc), rfl⟩
  have hcnt : Hid ((1 ≤ m ∧ m ≤ 16 ∧ 0 ≤ G ∧ G ≤ 32 ∧ ∀ i, i < m → 1 ≤ (fs.getD i []).length ∧ (fs.getD i []).length ≤ 64) → CntOk G fs) := Lib.hid fun h => by unfold CntOk; rw [hm]; exact h
  clear h
  rw [hm]
  replace hm := Lib.hid hm
  have hbU : Hid (Below w.heap.size w (w.alloc (.cells #[.int .i64 G, .slice sp m cap] 49))) := Lib.hid (below_alloc (Below.refl _ _) _)
  by_cases h3 : G < 0
  · have e5 : decide (G < 0) = true := decide_eq_true h3
    have hr := Lib.hid (hfin.out (by omega))
    clear hat hfin hcnt
    go_enter Tryd.func32, Tryd.ntmps32
    go_wp2_with fail
    go_ret
    exact ⟨1, rfl, hr.out, hbU.out⟩
  have e5 : decide (G < 0) = false := decide_eq_false h3
  by_cases h4 : 32 < G
  · have e6 : decide (32 < G) = true := decide_eq_true h4
    have hr := Lib.hid (hfin.out (by omega))
    clear hat hfin hcnt
    go_enter Tryd.func32, Tryd.ntmps32
    go_wp2_with fail
    go_ret
    exact ⟨1, rfl, hr.out, hbU.out⟩
  have e6 : decide (32 < G) = false := decide_eq_false h4
  by_cases h1 : m < 1
  · have e1 : (m : Int) < 1 := by omega
    have e2 : decide ((m : Int) < 1) = true := decide_eq_true e1
    have hr := Lib.hid (hfin.out (by omega))
    clear hat hfin hcnt
    go_enter Tryd.func32, Tryd.ntmps32
    go_wp2_with fail
    go_ret
    exact ⟨1, rfl, hr.out, hbU.out⟩
  have e1 : ¬ (m : Int) < 1 := by omega
  have e2 : decide ((m : Int) < 1) = false := decide_eq_false e1
  by_cases h2 : 16 < m
  · have e3 : (16 : Int) < (m : Int) := by omega
    have e4 : decide ((16 : Int) < (m : Int)) = true := decide_eq_true e3
    have hr := Lib.hid (hfin.out (by omega))
    clear hat hfin hcnt
    go_enter Tryd.func32, Tryd.ntmps32
    go_wp2_with fail
    go_ret
    exact ⟨1, rfl, hr.out, hbU.out⟩
  have e3 : ¬ (16 : Int) < (m : Int) := by omega
  have e4 : decide ((16 : Int) < (m : Int)) = false := decide_eq_false e3
  have hC := heap_alloc_new w (.cells #[.int .i64 G, .slice sp m cap] 49)
  have c0 : (w.alloc (.cells #[.int .i64 G, .slice sp m cap] 49)).cell? ⟨w.heap.size, 0, none⟩ = some (.int .i64 G) := cell_of hC rfl
  have c1 : (w.alloc (.cells #[.int .i64 G, .slice sp m cap] 49)).cell? ⟨w.heap.size, 1, none⟩ = some (.slice sp m cap) := cell_of hC rfl
  have hP : Hid (∀ V, Below (w.alloc (.cells #[.int .i64 G, .slice sp m cap] 49)).heap.size (w.alloc (.cells #[.int .i64 G, .slice sp m cap] 49)) V → V.cell? ⟨w.heap.size, 0, none⟩ = some (.int .i64 G) ∧ V.cell? ⟨w.heap.size, 1, none⟩ = some (.slice sp m cap)) := Lib.hid fun V hb => ⟨cell_then hb c0, cell_then hb c1⟩
  clear hC
  obtain ⟨N, hN⟩ : ∃ N, w.heap.size = N := ⟨_, rfl⟩
  rw [hN] at c0 c1 hP
  go_enter Tryd.func32, Tryd.ntmps32
  go_wp2_with fail
  obtain ⟨U, hU⟩ : ∃ U, w.alloc (.cells #[.int .i64 G, .slice sp m cap] 49) = U := ⟨_, rfl⟩
  rw [hU] at hbU c0 c1 hP ⊢
  clear hU
  go_loopw [3] (fun u3 wr => ∃ j : Nat, u3 = .int .i64 j ∧ j ≤ m ∧ Hid (∀ i, i < j → 1 ≤ (fs.getD i []).length ∧ (fs.getD i []).length ≤ 64) ∧ wr = U) (fun y _ => (m - (RowKit.intOf y).toNat))
  case atStart => exact ⟨0, rfl, by omega, Lib.hid (fun i h => by omega), rfl⟩
  case round =>
    obtain ⟨j, rfl, jm, hL, ew⟩ := hrel
    have ew := ew.symm
    subst ew
    have j0 : (0 : Int) ≤ (j : Int) := by omega
    by_cases hj : j < m
    · have j1 : (j : Int) < (m : Int) := by omega
      obtain ⟨b, off, sv, cp, rfl, hv⟩ := hat.out j hj
      have d0 := (hv U hbU.out).1
      clear hv
      obtain ⟨l, hl⟩ : ∃ l, (fs.getD j []).length = l := ⟨_, rfl⟩
      rw [hl] at d0
      replace hl := Lib.hid hl
      by_cases h5 : l < 1
      · have f1 : (l : Int) < 1 := by omega
        have f2 : decide ((l : Int) < 1) = true := decide_eq_true f1
        have hr := Lib.hid (hfin.out (fun h => by have := h.2.2.2.2 j hj; have := hl.out; omega))
        clear hat hfin hL hcnt
        go_wp2_with fail
        go_ret
        exact ⟨1, rfl, hr.out, hbU.out⟩
      · have f1 : ¬ (l : Int) < 1 := by omega
        have f2 : decide ((l : Int) < 1) = false := decide_eq_false f1
        by_cases h6 : 64 < l
        · have f3 : (64 : Int) < (l : Int) := by omega
          have f4 : decide ((64 : Int) < (l : Int)) = true := decide_eq_true f3
          have hr := Lib.hid (hfin.out (fun h => by have := h.2.2.2.2 j hj; have := hl.out; omega))
          clear hat hfin hL hcnt
          go_wp2_with fail
          go_ret
          exact ⟨1, rfl, hr.out, hbU.out⟩
        · have f3 : ¬ (64 : Int) < (l : Int) := by omega
          have f4 : decide ((64 : Int) < (l : Int)) = false := decide_eq_false f3
          have hL2 : Hid (∀ i, i < j + 1 → 1 ≤ (fs.getD i []).length ∧ (fs.getD i []).length ≤ 64) := Lib.hid fun i hi => by
            rcases Nat.lt_or_ge i j with q | q
            · exact hL.out i q
            · rw [show i = j by omega]; have := hl.out; omega
          clear hL
          go_wp2_with fail
          go_roundw
          case rel => exact ⟨j + 1, by go_num, by omega, hL2, by first | rfl | trivial⟩
          case measure => simp [RowKit.intOf]; omega
    · obtain rfl : j = m := by omega
      have j1 : ¬ (j : Int) < (j : Int) := by omega
      have hk : Hid (CntOk G fs) := Lib.hid (hcnt.out ⟨by omega, by omega, by omega, by omega, hL.out⟩)
      have m16 : j ≤ 16 := by omega
      clear hfin hL hcnt e5 e6
      go_wp2_with fail
      clear c0 c1
      go_loopw [4, 5, 6] (fun u4 u5 u6 wr => ∃ i : Nat, u5 = .int .i64 i ∧ u4 = .int .i64 (pos fs i : Nat) ∧ i ≤ j ∧ Hid (∀ i', i' < i → ∀ j', j' < (fs.getD i' []).length → okAt G fs i' j' = true) ∧ Hid (Below U.heap.size U wr)) (fun _ y _ _ => (j - (RowKit.intOf y).toNat))
      case atStart => exact ⟨0, rfl, rfl, by omega, Lib.hid (fun i h => by omega), Lib.hid (Below.refl _ _)⟩
      case round =>
        obtain ⟨i, rfl, rfl, im, hok, hB⟩ := hrel
        have i0 : (0 : Int) ≤ (i : Int) := by omega
        have hpl := pos_le hk.out i (by have := hm.out; omega)
        have hps : Hid (pos fs (i + 1) = pos fs i + (fs.getD i []).length) := Lib.hid rfl
        obtain ⟨p, hp⟩ : ∃ p, pos fs i = p := ⟨_, rfl⟩
        rw [hp] at hpl hps ⊢
        replace hp := Lib.hid hp
        have hbw := Lib.hid (hbU.out.trans (hB.out.mono hbU.out.size))
        obtain ⟨p0, p1⟩ := hP.out wr hB.out
        by_cases hi : i < j
        · have i1 : (i : Int) < (j : Int) := by omega
          obtain ⟨b, off, sv, cp, rfl, hv⟩ := hat.out i hi
          have d0 := (hv wr hbw.out).1
          have hv := Lib.hid hv
          obtain ⟨l, hl⟩ : ∃ l, (fs.getD i []).length = l := ⟨_, rfl⟩
          have hl64 := (hk.out.2.2.2.2 i (by have := hm.out; omega)).2
          rw [hl] at d0 hps hl64
          replace hl := Lib.hid hl
          go_wp2_with fail
          clear p0 p1 d0
          go_loopw [4, 6] (fun u4 u6 wx => ∃ k : Nat, u6 = .int .i64 k ∧ u4 = .int .i64 (p + k : Nat) ∧ k ≤ l ∧ Hid (∀ j', j' < k → okAt G fs i j' = true) ∧ Hid (Below U.heap.size U wx)) (fun _ y _ => (l - (RowKit.intOf y).toNat))
          case atStart => exact ⟨0, rfl, rfl, by omega, Lib.hid (fun i h => by omega), hB⟩
          case round =>
            clear hB hbw
            obtain ⟨k, rfl, rfl, kl, hokk, hB⟩ := hrel
            have k0 : (0 : Int) ≤ (k : Int) := by omega
            have hbw := Lib.hid (hbU.out.trans (hB.out.mono hbU.out.size))
            obtain ⟨p0, p1⟩ := hP.out wr hB.out
            have hv0 := hv.out wr hbw.out
            have d0 := hv0.1
            rw [hl.out] at d0
            by_cases hkl : k < l
            · have k1 : (k : Int) < (l : Int) := by omega
              obtain ⟨g, o, op, a, b', c, rfl, hins, q0, q1, q2, q3⟩ := hv0.2.at_ wr (Below.refl _ _) k (by have := hl.out; omega)
              have hokE : Hid (okAt G fs i k = decide (wrongN G j l (op, a, b', c) < 0)) := Lib.hid (by rw [← wrong_ok]; unfold okAt; rw [hm.out, hl.out, hins])
              have hcells : Hid (∀ V, Below wr.heap.size wr V → V.cell? ⟨N, 0, none⟩ = some (.int .i64 G) ∧ V.cell? ⟨N, 1, none⟩ = some (.slice (some ⟨b, off, none⟩) j cap) ∧ V.cell? ⟨b, off + i, none⟩ = some (.slice (some ⟨g, o, none⟩) l cp) ∧ V.cell? ⟨g, o + k * 4, none⟩ = some (.int .i64 op) ∧ V.cell? ⟨g, o + k * 4 + 1, none⟩ = some (.int .i64 a) ∧ V.cell? ⟨g, o + k * 4 + 2, none⟩ = some (.int .i64 b') ∧ V.cell? ⟨g, o + k * 4 + 3, none⟩ = some (.int .i64 c)) := Lib.hid fun V hV => ⟨cell_then hV p0, cell_then hV p1, cell_then hV d0, cell_then hV q0, cell_then hV q1, cell_then hV q2, cell_then hV q3⟩
              have cw : Hid (∀ V, Below wr.heap.size wr V → Calls Tryd.prog 51 #[.agg #[.int .i64 op, .int .i64 a, .int .i64 b', .int .i64 c], .int .i64 G, .int .i64 j, .int .i64 l] V fun e wz => e = .returned (.int .i64 (wrongN G j l (op, a, b', c))) ∧ (wz.cell? ⟨N, 0, none⟩ = some (.int .i64 G) ∧ wz.cell? ⟨N, 1, none⟩ = some (.slice (some ⟨b, off, none⟩) j cap) ∧ wz.cell? ⟨b, off + i, none⟩ = some (.slice (some ⟨g, o, none⟩) l cp) ∧ wz.cell? ⟨g, o + k * 4, none⟩ = some (.int .i64 op) ∧ wz.cell? ⟨g, o + k * 4 + 1, none⟩ = some (.int .i64 a) ∧ wz.cell? ⟨g, o + k * 4 + 2, none⟩ = some (.int .i64 b') ∧ wz.cell? ⟨g, o + k * 4 + 3, none⟩ = some (.int .i64 c)) ∧ Hid (Below U.heap.size U wz)) := Lib.hid fun V hV => (wrong_any (G := G) (nf := (j : Int)) (len := (l : Int)) op a b' c V).mono fun e wz ⟨he, hz⟩ => by
                have h4 := hV.trans (hz.mono hV.size)
                exact ⟨he, hcells.out wz h4, Lib.hid (hB.out.trans (h4.mono hB.out.size))⟩
              generalize wrongN G j l (op, a, b', c) = r at *
              have z1 : (p : Int) ≤ 2000 := by omega
              have z4 : IntKind.i64.wrap (((p + k : Nat) : Int) + 1) = ((p + (k + 1) : Nat) : Int) := by rw [IntKind.wrap_i64]; omega
              have z5 : IntKind.i64.wrap (2 + ((p + k : Nat) : Int)) = 2 + (p : Int) + (k : Int) := by rw [IntKind.wrap_i64]; omega
              have hbd : Below wr.heap.size wr wr.drew := (Below.refl _ _).drew
              clear hcells hv0 hbw hins
              go_wp2_with fail
              go_region_held3 (fun W' => W'.cell? ⟨N, 0, none⟩ = some (.int .i64 G) ∧ W'.cell? ⟨N, 1, none⟩ = some (.slice (some ⟨b, off, none⟩) j cap) ∧ W'.cell? ⟨b, off + i, none⟩ = some (.slice (some ⟨g, o, none⟩) l cp) ∧ W'.cell? ⟨g, o + k * 4, none⟩ = some (.int .i64 op) ∧ W'.cell? ⟨g, o + k * 4 + 1, none⟩ = some (.int .i64 a) ∧ W'.cell? ⟨g, o + k * 4 + 2, none⟩ = some (.int .i64 b') ∧ W'.cell? ⟨g, o + k * 4 + 3, none⟩ = some (.int .i64 c)) (first | exact ⟨p0, p1, d0, q0, q1, q2, q3⟩ | go_keep | assumption | (go_split_ands; exact ⟨cell_then (by assumption) (by assumption), cell_then (by assumption) (by assumption), cell_then (by assumption) (by assumption), cell_then (by assumption) (by assumption), cell_then (by assumption) (by assumption), cell_then (by assumption) (by assumption), cell_then (by assumption) (by assumption)⟩)) ((go_at_call 51; ((with_reducible refine (cw.out _ (by repeat (first | assumption | exact Below.refl _ _ | refine below_drewN ?_ _ | refine below_alloc ?_ _ | refine below_then ?_ (by assumption)))).mono ?_); rintro e wz ⟨rfl, hkz, hEnd⟩)))
              all_goals
                clear cw hbd d0 p0 p1 q0 q1 q2 q3 hkz
                by_cases hr0 : r < 0
                · have r1 : ¬ (0 : Int) ≤ r := by omega
                  have r2 : decide ((0 : Int) ≤ r) = false := decide_eq_false r1
                  have hok2 : Hid (∀ j', j' < k + 1 → okAt G fs i j' = true) := Lib.hid fun j' h => by
                    rcases Nat.lt_or_ge j' k with q | q
                    · exact hokk.out j' q
                    · rw [show j' = k by omega, hokE.out]; exact decide_eq_true hr0
                  clear hokk hokE
                  go_wp2_with fail
                  go_roundw
                  case rel => exact ⟨k + 1, by go_num, rfl, by omega, hok2, hEnd⟩
                  case measure => simp [RowKit.intOf]; omega
                · have r1 : (0 : Int) ≤ r := by omega
                  have r2 : decide ((0 : Int) ≤ r) = true := decide_eq_true r1
                  have hfin : Hid (MayIs G fs (2 + ((p : Int) + (k : Int)))) := Lib.hid (.inr (.inr ⟨hk.out, i, k, by have := hm.out; omega, by have := hl.out; omega, hok.out, hokk.out, by rw [hokE.out]; exact decide_eq_false hr0, by rw [hp.out]; omega⟩))
                  have hbz := Lib.hid (hbU.out.trans (hEnd.out.mono hbU.out.size))
                  clear hokk hokE hok hP hat hv
                  go_wp2_with fail
                  go_ret
                  exact ⟨_, rfl, hfin.out, hbz.out⟩
            · obtain rfl : k = l := by omega
              have k1 : ¬ (k : Int) < (k : Int) := by omega
              have hok2 : Hid (∀ i', i' < i + 1 → ∀ j', j' < (fs.getD i' []).length → okAt G fs i' j' = true) := Lib.hid fun i' h j' hj' => by
                rcases Nat.lt_or_ge i' i with q | q
                · exact hok.out i' q j' hj'
                · obtain rfl : i' = i := by omega
                  exact hokk.out j' (by have := hl.out; omega)
              have hps2 : Hid (Value.int .i64 (p + k : Nat) = Value.int .i64 (pos fs (i + 1) : Nat)) := Lib.hid (by rw [hps.out])
              clear hokk hok hv0
              go_wp2_with fail
              go_roundw
              case rel => exact ⟨i + 1, by go_num, hps2.out, by omega, hok2, hB⟩
              case measure => simp [RowKit.intOf]; omega
        · obtain rfl : i = j := by omega
          have i1 : ¬ (i : Int) < (i : Int) := by omega
          have hfin : Hid (MayIs G fs 0) := Lib.hid (.inr (.inl ⟨hk.out, fun i' hi' j' hj' => hok.out i' (by have := hm.out; omega) j' hj', rfl⟩))
          clear hok hat hP
          go_wp2_with fail
          go_ret
          exact ⟨0, rfl, hfin.out, hbw.out⟩
end Cd
end Go.Proofs.YtapkcjbfflgplaaDoor
