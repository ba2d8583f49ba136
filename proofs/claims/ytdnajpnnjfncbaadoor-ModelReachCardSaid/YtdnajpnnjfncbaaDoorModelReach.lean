import Derived.Test.YtdnajpnnjfncbaaDoorMdRl
import Derived.Test.YtdnajpnnjfncbaaDoorMB4
import Derived.Test.YtdnajpnnjfncbaaDoorOp16
import Derived.Test.YtdnajpnnjfncbaaDoorMA4
import Derived.WalkKit
import Derived.ProofKit
import Derived.OpenShut
import Derived.Test.YtdnajpnnjfncbaaDoorTie
import Derived.Test.YtdnajpnnjfncbaaDoorCards
import Derived.LaidMore
import Derived.Stop.Joined
import Derived.SevenTiedAt
import Derived.Deep.RegionHeld3
import Derived.Deep.RegionWith
import Derived.Deep.Cut
import Derived.Deep.CutBlock
import Derived.Deep.CutRange
import Derived.Deep.LoopGhost
import Derived.Deep.DeepCutAuto
import Derived.RegionTactic
import Derived.StillTailTactics
import Derived.Deep.RegionLaw
/- What was reachable and is not any more never comes back; what is new is reachable as it comes (16.1): any program that may be, any picks (at most 150). No further condition but the listed table. -/
namespace Go.Proofs.YtdnajpnnjfncbaaDoor.modelReach
open Go.ChangeShapes Go.WideShapes Go.ChangeAt Go.WideElems Go.RowKit Go.Lib Fx Ho Gr Cd
set_option linter.unusedVariables false

theorem own : ownKnob Tryd.prog.godebug = none := by kernel_rfl

set_option maxRecDepth 100000 in
set_option maxHeartbeats 4000000 in
theorem walk (g0 : Int) (v0 : Value) (fs0 : List (List Ins)) (v1 : Value) (zb1 : List (Int × Int)) (w : World) (hT : Tk w) (h0 : FRow w v0 fs0) (h1 : Rw.Op16 w v1 zb1) :
    Calls Tryd.prog 11 #[.agg #[.int .i64 g0, v0], v1] w fun e w' => e = .returned (.bool true) ∧ Below w.heap.size w w' := by
  obtain ⟨sp, cap, rfl, -⟩ := h0.fix
  obtain ⟨sb, cb, rfl, hlb, hbat⟩ := h1
  have hbU : Hid (Below w.heap.size w (w.alloc (.cells #[.int .i64 g0, .slice sp fs0.length cap] 49))) := Lib.hid (below_alloc (Below.refl _ _) _)
  have hC := heap_alloc_new w (.cells #[.int .i64 g0, .slice sp fs0.length cap] 49)
  have c0 : (w.alloc (.cells #[.int .i64 g0, .slice sp fs0.length cap] 49)).cell? ⟨w.heap.size, 0, none⟩ = some (.int .i64 g0) := cell_of hC rfl
  have c1 : (w.alloc (.cells #[.int .i64 g0, .slice sp fs0.length cap] 49)).cell? ⟨w.heap.size, 1, none⟩ = some (.slice sp fs0.length cap) := cell_of hC rfl
  have cg := great_any (h0.below hbU.out) g0
  have hall : Hid (∀ V, Below w.heap.size w V → Tk V ∧ FRow V (.slice sp fs0.length cap) fs0) := Lib.hid fun V hV => ⟨hT.below hV, h0.below hV⟩
  obtain ⟨nb, hnb⟩ : ∃ n, zb1.length = n := ⟨_, rfl⟩
  have hbs : Hid (∀ i, i < nb → ∃ b off, sb = some ⟨b, off, none⟩ ∧ ∀ V, Below w.heap.size w V → V.cell? ⟨b, off + i * 2, none⟩ = some (.int .i64 (zb1.getD i (0, 0)).1) ∧ V.cell? ⟨b, off + (i * 2 + 1), none⟩ = some (.int .i64 (zb1.getD i (0, 0)).2)) := Lib.hid fun i hi => by
    obtain ⟨b, off, e, _, hc, hc2⟩ := hbat i (by omega)
    exact ⟨b, off, e, fun V hV => ⟨cell_then hV hc, cell_then hV hc2⟩⟩
  rw [hnb] at hlb ⊢
  clear h0 hT hbat hnb
  obtain ⟨N, hN⟩ : ∃ N, w.heap.size = N := ⟨_, rfl⟩
  rw [hN] at c0 c1
  generalize fs0.length = m at *
  go_enter Tryd.func11, Tryd.ntmps11
  go_wp2_with fail
  obtain ⟨U, hU⟩ : ∃ U, w.alloc (.cells #[.int .i64 g0, .slice sp m cap] 49) = U := ⟨_, rfl⟩
  rw [hU] at hbU c0 c1 cg ⊢
  clear hU hC
  with_reducible refine Calls.mono cg ?_
  rintro e w1 ⟨rfl | rfl, hb1⟩
  · have hbw := Lib.hid (hbU.out.trans (hb1.mono hbU.out.size))
    clear cg c0 c1 hb1 hbU
    have ct := Md.told_any (hall.out w1 hbw.out).1
    clear hall hbs
    go_wp2_with fail
    with_reducible refine Calls.mono ct ?_
    rintro e wz ⟨rfl, hbz⟩
    have hfin := Lib.hid (hbw.out.trans (hbz.mono hbw.out.size))
    clear ct hbz hbw
    go_wp2_with fail
    go_ret
    exact ⟨rfl, hfin.out⟩
  · have hbw := Lib.hid (hbU.out.trans (hb1.mono hbU.out.size))
    have c0 := cell_then hb1 c0
    have c1 := cell_then hb1 c1
    have cm := refmay_any (hall.out w1 hbw.out).2 g0
    clear cg hb1 hbU
    go_wp2_with fail
    with_reducible refine Calls.mono cm ?_
    rintro e w2 ⟨r, rfl, hr, hb2⟩
    have c0 := cell_then hb2 c0
    have c1 := cell_then hb2 c1
    have hbw2 := Lib.hid (hbw.out.trans (hb2.mono hbw.out.size))
    clear cm hb2
    replace hbw := hbw2
    clear hbw2
    by_cases hr0 : r = 0
    case neg =>
      have e0 : (r != 0) = true := by simp [hr0]
      have e1 : decide (r = 0) = false := decide_eq_false hr0
      have e2 : (r == 0) = false := beq_eq_false_iff_ne.2 hr0
      clear hr
      have ct := Md.told_any (hall.out w2 hbw.out).1
      clear hall hbs
      go_wp2_with fail
      with_reducible refine Calls.mono ct ?_
      rintro e wz ⟨rfl, hbz⟩
      have hfin := Lib.hid (hbw.out.trans (hbz.mono hbw.out.size))
      clear ct hbz hbw
      go_wp2_with fail
      go_ret
      exact ⟨rfl, hfin.out⟩
    case pos =>
      subst hr0
      obtain ⟨G, rfl⟩ : ∃ G : Nat, g0 = (G : Int) := by
        rcases hr with ⟨_, e⟩ | ⟨h1, _⟩ | ⟨_, i, j, _, _, _, _, _, e⟩
        · exact absurd e (by decide)
        · exact ⟨g0.toNat, by have := h1.2.2.1; omega⟩
        · omega
      have hP := Lib.hid (Md.pg_of hr)
      have cn := Md.ms_new (hall.out w2 hbw.out).1 (hall.out w2 hbw.out).2 hr
      clear hr
      go_wp2_with fail
      with_reducible refine Calls.mono cn ?_
      rintro e w3 ⟨p, rfl, hm⟩
      have cr := Md.rl_first (hm.sub (F' := fun k => k ∈ []) (fun k hk => by cases hk))
      clear cn hm c0 c1
      go_wp2_with fail
      with_reducible refine Calls.mono cr ?_
      rintro e w4 ⟨vw, Sw, zw, rfl, hrl⟩
      clear cr
      obtain ⟨sw, cw, evw, _, _⟩ := hrl.was
      subst evw
      replace hrl := Lib.hid hrl
      go_wp2_with fail
      go_loopw [7, 8, 9] (fun u7 u8 u wr => ∃ (i : Nat) (M : Md.Mo) (sg : Option Addr) (cg : Nat) (sw : Option Addr) (cw : Nat) (Sw : Ho.Home) (zg zw : List Int), u7 = .slice sg zg.length cg ∧ u8 = .slice sw zw.length cw ∧ u = .int .i64 i ∧ i ≤ nb ∧ i ≤ 150 ∧ Hid (Md.Rl w2 wr G fs0 p M (2 * i) (i + 1) (.slice sg zg.length cg) (.slice sw zw.length cw) Sw zg zw)) (fun _ _ u _ => (nb - (RowKit.intOf u).toNat))
      case atStart => exact ⟨0, Md.mo0 G, none, 0, sw, cw, Sw, [], zw, rfl, rfl, rfl, by omega, by omega, hrl⟩
      case round =>
        obtain ⟨i, M, sg, cg, sw, cw, Sw, zg, zw, rfl, rfl, rfl, hin, hi5, hrl2⟩ := hrel
        clear hrl
        have i0 : (0 : Int) ≤ (i : Int) := by omega
        by_cases hlt : i < nb
        · have i2 : (i : Int) < (nb : Int) := by omega
          by_cases h150 : i < 150
          · have i3 : (i : Int) < 150 := by omega
            obtain ⟨b, off, rfl, hcz⟩ := hbs.out i hlt
            have hcz2 : Hid (∀ V, Below w2.heap.size w2 V → V.cell? ⟨b, off + i * 2, none⟩ = some (.int .i64 (zb1.getD i (0, 0)).1) ∧ V.cell? ⟨b, off + (i * 2 + 1), none⟩ = some (.int .i64 (zb1.getD i (0, 0)).2)) := Lib.hid fun V hV => hcz V (hbw.out.trans (hV.mono hbw.out.size))
            clear hcz
            obtain ⟨gx, hgx⟩ : ∃ x, (zb1.getD i (0, 0)).1 = x := ⟨_, rfl⟩
            obtain ⟨tx, htx⟩ : ∃ x, (zb1.getD i (0, 0)).2 = x := ⟨_, rfl⟩
            rw [hgx, htx] at hcz2
            clear hgx htx
            have cz1 := (hcz2.out wr hrl2.out.ms.bel).2
            have cz1' := cz1
            rw [← Nat.add_assoc] at cz1'
            obtain ⟨tq, htq⟩ : ∃ t : Int, tx.tmod 500 = t := ⟨_, rfl⟩
            have htq5 : tq ≤ 500 := by
              have := Int.emod_emod_of_dvd tx (show (500 : Int) ∣ 500 from ⟨1, rfl⟩)
              rw [← htq]
              have := Int.tmod_lt_of_pos tx (show (0 : Int) < 500 by decide)
              omega
            have cti := Md.rl_tick hrl2.out (by omega) tq htq5
            have h500 : ¬ (500 : Int) = 0 := by decide
            go_wp2_with fail
            try rw [htq]
            with_reducible refine Calls.mono cti ?_
            rintro e w5 ⟨vt, M1, rfl, hr1⟩
            clear cti cz1 cz1' htq htq5 hrl2
            have cz0 := (hcz2.out w5 hr1.ms.bel).1
            have hcz3 : Hid (∀ V, Below w5.heap.size w5 V → V.cell? ⟨b, off + i * 2, none⟩ = some (.int .i64 gx)) := Lib.hid fun V hV => (hcz2.out V (hr1.ms.bel.trans (hV.mono hr1.ms.bel.size))).1
            have hfew := hr1.few
            have cgs : Hid (∀ V, Below w5.heap.size w5 V → Calls Tryd.prog 16 #[.pointer (some ⟨p, 0, none⟩)] V (Still (.int .i64 M1.gs.length) V)) := Lib.hid fun V hV => Md.rl_gs (hr1.below hV)
            have cdA : Hid (∀ x, Calls Tryd.prog 12 #[.pointer (some ⟨p, 0, none⟩), .int .i64 x] w5.drew (fun e w' => ∃ (g f pc op v : Int) (ft : Bool) (er : Int), e = .returned (.tuple #[.agg #[.int .i64 g, .int .i64 f, .int .i64 pc, .int .i64 op, .int .i64 v, .bool ft], .int .i64 er]) ∧ Hid (∃ M', Md.Rl w2 w' G fs0 p M' (2 * i + 2) (i + 2) (.slice sg zg.length cg) (.slice sw zw.length cw) Sw zg zw ∧ (er = 0 → op = 1 → ∃ j : Nat, v = (j : Int) ∧ Md.Rc M' j)))) := Lib.hid fun x => (Md.rl_do (hr1.below (Below.refl _ _).drew) hP.out (by omega) (by omega) x).mono fun e w' ⟨g, f, pc, op, v, ft, er, M', h1, h2, h3⟩ => ⟨g, f, pc, op, v, ft, er, h1, Lib.hid ⟨M', h2, h3⟩⟩
            have kZ := heap_alloc_new w5 (.cells #[.int .i64 0, .int .i64 0, .int .i64 0, .int .i64 0, .int .i64 0, .bool false] 24)
            have hZl : w5.heap.size < (w5.alloc (.cells #[.int .i64 0, .int .i64 0, .int .i64 0, .int .i64 0, .int .i64 0, .bool false] 24)).drew.heap.size := block_lt kZ
            have cdB : Hid (∀ x, Calls Tryd.prog 12 #[.pointer (some ⟨p, 0, none⟩), .int .i64 x] (w5.alloc (.cells #[.int .i64 0, .int .i64 0, .int .i64 0, .int .i64 0, .int .i64 0, .bool false] 24)).drew (fun e w' => ∃ (g f pc op v : Int) (ft : Bool) (er : Int), e = .returned (.tuple #[.agg #[.int .i64 g, .int .i64 f, .int .i64 pc, .int .i64 op, .int .i64 v, .bool ft], .int .i64 er]) ∧ w'.heap[w5.heap.size]? = some (.cells #[.int .i64 0, .int .i64 0, .int .i64 0, .int .i64 0, .int .i64 0, .bool false] 24 (0, 0)) ∧ Hid (∃ M', (∀ W', Wrote (fun k => k = w5.heap.size) w' (fun k => k = w5.heap.size) W' → Md.Rl w2 W' G fs0 p M' (2 * i + 2) (i + 2) (.slice sg zg.length cg) (.slice sw zw.length cw) Sw zg zw) ∧ (er = 0 → op = 1 → ∃ j : Nat, v = (j : Int) ∧ Md.Rc M' j)))) := Lib.hid fun x => (Md.rl_do2 hr1 (below_alloc (Below.refl _ _) _).drew ⟨Nat.le_refl _, hZl⟩ hP.out (by omega) (by omega) x).mono fun e w' ⟨g, f, pc, op, v, ft, er, M', h1, hN, h2, h3⟩ => ⟨g, f, pc, op, v, ft, er, h1, hN.trans kZ, Lib.hid ⟨M', h2, h3⟩⟩
            clear hr1 hcz2 kZ
            generalize M1.gs.length = n1 at *
            obtain ⟨m1, hm1⟩ : ∃ m : Nat, max (n1 : Int) 1 = (m : Int) := ⟨(max (n1 : Int) 1).toNat, by omega⟩
            have hm2 : 1 ≤ m1 ∧ m1 ≤ 1000 := by omega
            have hm3 : IntKind.u64.wrap (m1 : Int) = (m1 : Int) := by rw [IntKind.wrap_u64]; omega
            have hm4 : ¬ (m1 : Int) = 0 := by omega
            have hm5 : ¬ m1 = 0 := by omega
            go_upto_region 12 with fail
            go_cut [10, 11] from 55 to 70 (fun u10 u11 wx => ∃ (N : Nat) (g f pc op v : Int) (ft : Bool) (er : Int), u10 = .pointer (some ⟨N, 0, none⟩) ∧ u11 = .int .i64 er ∧ Hid (wx.heap[N]? = some (.cells #[.int .i64 g, .int .i64 f, .int .i64 pc, .int .i64 op, .int .i64 v, .bool ft] 24 (0, 0)) ∧ ∃ M', Md.Rl w2 wx G fs0 p M' (2 * i + 2) (i + 2) (.slice sg zg.length cg) (.slice sw zw.length cw) Sw zg zw ∧ (er = 0 → op = 1 → ∃ j : Nat, v = (j : Int) ∧ Md.Rc M' j)))
            case first =>
              have bl : b < w5.heap.size := World.block_lt_of_cell? _ _ cz0
              have ccz : Hid (∀ V, Below w5.heap.size w5 V → V.cell? ⟨b, off + i * 2, none⟩ = some (.int .i64 gx)) := hcz3
              go_region_law (first | (refine Md.step_call1 rfl 16 (.tmp 62) rfl (.pointer (some ⟨p, 0, none⟩)) ?_ ?_ (cgs.out _ (by repeat (first | assumption | exact Below.refl _ _ | refine below_drewN ?_ _ | refine Below.drew ?_ | refine below_alloc ?_ _ | refine below_then ?_ (by assumption)))) ?_; rfl; rfl; rintro e wz ⟨rfl, rfl⟩; refine ⟨_, rfl, ?_⟩) | (refine Md.step_call2' rfl 12 (.tmp 55) (.tmp 67) rfl (.pointer (some ⟨p, 0, none⟩)) (.int .i64 (IntKind.i64.wrap ((IntKind.u64.wrap gx).tmod (m1 : Int)))) ?_ ?_ ?_ (cdB.out _) ?_; rfl; rfl; rfl; rintro e wz ⟨g, f, pc, op, v, ft, er, rfl, kx, hTB⟩; have b0 := cell_of kx (j := 0) rfl; have b1 := cell_of kx (j := 1) rfl; have b2 := cell_of kx (j := 2) rfl; have b3 := cell_of kx (j := 3) rfl; have b4 := cell_of kx (j := 4) rfl; have b5 := cell_of kx (j := 5) rfl; have f0 := frozen_of_row _ _ 0 _ _ kx; have f1 := frozen_of_row _ _ 1 _ _ kx; have f2 := frozen_of_row _ _ 2 _ _ kx; have f3 := frozen_of_row _ _ 3 _ _ kx; have f4 := frozen_of_row _ _ 4 _ _ kx; have f5 := frozen_of_row _ _ 5 _ _ kx; replace kx := Lib.hid kx; refine ⟨_, rfl, ?_⟩) | (refine Md.step_call2' rfl 12 (.tmp 55) (.tmp 67) rfl (.pointer (some ⟨p, 0, none⟩)) (.int .i64 (IntKind.i64.wrap ((IntKind.u64.wrap gx).tmod (m1 : Int)))) ?_ ?_ ?_ (cdA.out _) ?_; rfl; rfl; rfl; rintro e wz ⟨g, f, pc, op, v, ft, er, rfl, hTA⟩; refine ⟨_, rfl, ?_⟩))
              all_goals
                go_wp2_with fail
                go_meet
                first
                  | (obtain ⟨M', hT1, hT2⟩ := hTA.out; exact ⟨_, g, f, pc, op, v, ft, er, rfl, rfl, Lib.hid ⟨heap_alloc_new _ _, M', hT1.below (below_alloc (Below.refl _ _) _), hT2⟩⟩)
                  | (obtain ⟨M', hT1, hT2⟩ := hTB.out; exact ⟨_, g, f, pc, op, v, ft, er, rfl, rfl, Lib.hid ⟨(Md.six_h kx.out).1, M', hT1 _ (Md.six_h kx.out).2, hT2⟩⟩)
            case rest =>
              obtain ⟨Nc, g, f, pc, op, v, ft, er, rfl, rfl, hk0⟩ := hcut
              obtain ⟨hkc, M2, hr2, hal⟩ := hk0.out
              have cr := Md.rl_reach hr2 (by omega)
              have hkk : Hid (∀ V, Below wc.heap.size wc V → V.heap[Nc]? = some (.cells #[.int .i64 g, .int .i64 f, .int .i64 pc, .int .i64 op, .int .i64 v, .bool ft] 24 (0, 0))) := Lib.hid fun V hV => (hV.block _ (block_lt hkc)).trans hkc
              replace hal := Lib.hid hal
              clear hk0 hkc hr2 cgs cdA cdB hcz3 cz0
              go_wp2_with fail
              with_reducible refine Calls.mono cr ?_
              rintro e w6 ⟨vn, Sn, zn, rfl, hrn, hb6⟩
              obtain ⟨sn, cn, evn, hzl, _⟩ := hrn.now
              subst evn
              replace hb6 := Lib.hid hb6
              have hal2 : Hid (er = 0 → op = 1 → v ∈ zn) := Lib.hid fun e1 e2 => by
                obtain ⟨j, e3, hj⟩ := hal.out e1 e2
                exact (hrn.nw.mem v).2 ⟨j, e3, hj⟩
              have hwl : zw.length ≤ 9223372036854775807 := by obtain ⟨_, _, _, hb, _⟩ := hrn.was; exact hb
              replace hrn := Lib.hid hrn
              clear cr hal
              go_wp2_with fail
              go_loopw [7, 13] (fun u7 u wr => ∃ (k : Nat) (sg : Option Addr) (cg : Nat) (zg : List Int), u7 = .slice sg zg.length cg ∧ u = .int .i64 k ∧ k ≤ zw.length ∧ Hid (Md.Rn w2 wr G fs0 p M2 (2 * i + 2) (i + 2) (.slice sg zg.length cg) (.slice sw zw.length cw) (.slice sn zn.length cn) Sw Sn zg zw zn ∧ Below w6.heap.size w6 wr)) (fun _ u _ => (zw.length - (RowKit.intOf u).toNat))
              case atStart => exact ⟨0, sg, cg, zg, rfl, rfl, by omega, Lib.hid ⟨hrn.out, Below.refl _ _⟩⟩
              case round =>
                obtain ⟨k, sg, cg, zg, rfl, rfl, hkl, hrr⟩ := hrel
                obtain ⟨hr3, hb3⟩ := hrr.out
                clear hrr hrn
                have k0 : (0 : Int) ≤ (k : Int) := by omega
                by_cases hk : k < zw.length
                · have k1 : (k : Int) < (zw.length : Int) := by omega
                  obtain ⟨sp', cp', ev, _, hc⟩ := hr3.was
                  obtain ⟨bw, ow, e2, _, _, czk⟩ := hc k hk
                  have e1 : sp' = sw := by injection ev with e1 e3 e4; exact e1.symm
                  subst e1
                  subst e2
                  have hmem := Md.getD_mem (0 : Int) hk
                  obtain ⟨y, hy⟩ : ∃ y, zw.getD k 0 = y := ⟨_, rfl⟩
                  rw [hy] at czk hmem
                  have ch := Rw.has_any y hr3.now
                  by_cases hin : y ∈ zn
                  · rw [decide_eq_true hin] at ch
                    replace hr3 := Lib.hid hr3
                    replace hb3 := Lib.hid hb3
                    clear hc ev hmem hy hin
                    go_wp2_with fail
                    with_reducible refine Calls.mono ch ?_
                    rintro e w7 ⟨rfl, rfl⟩
                    clear ch
                    go_wp2_with fail
                    go_roundw
                    case rel => exact ⟨k + 1, sg, cg, zg, rfl, by go_num, by omega, Lib.hid ⟨hr3.out, hb3.out⟩⟩
                    case measure => simp [RowKit.intOf]; omega
                  · rw [decide_eq_false hin] at ch
                    have cp := Md.rn_put hr3 (by omega) hmem hin
                    replace hr3 := Lib.hid hr3
                    replace hb3 := Lib.hid hb3
                    clear hc ev hmem hy hin
                    go_wp2_with fail
                    with_reducible refine Calls.mono ch ?_
                    rintro e w7 ⟨rfl, rfl⟩
                    clear ch
                    go_wp2_with fail
                    with_reducible refine Calls.mono cp ?_
                    rintro e w8 ⟨v', rfl, hr4, hb4⟩
                    obtain ⟨s9, c9, e9⟩ := Qu.OffRow.slice hr4.gone
                    subst e9
                    have hnx := Lib.hid (show _ ∧ _ from ⟨hr4, hb3.out.trans (hb4.mono hb3.out.size)⟩)
                    clear cp hr4 hb4 hr3 hb3 czk
                    go_wp2_with fail
                    go_roundw
                    case rel => exact ⟨k + 1, s9, c9, _, rfl, by go_num, by omega, hnx⟩
                    case measure => simp [RowKit.intOf]; omega
                · obtain rfl : k = zw.length := by omega
                  have hzw := hr3.was
                  replace hr3 := Lib.hid hr3
                  replace hb3 := Lib.hid hb3
                  clear hzw
                  go_wp2_with fail
                  have st0 : Hid (Md.Rn w2 wr G fs0 p M2 (2 * i + 2) (i + 2) (.slice sg zg.length cg) (.slice sw zw.length cw) (.slice sn zn.length cn) Sw Sn zg zw zn ∧ Below w6.heap.size w6 wr) := Lib.hid ⟨hr3.out, hb3.out⟩
                  clear hr3 hb3
                  go_loopw [14] (fun u wr => ∃ (k : Nat), u = .int .i64 k ∧ k ≤ zn.length ∧ Hid (Md.Rn w2 wr G fs0 p M2 (2 * i + 2) (i + 2) (.slice sg zg.length cg) (.slice sw zw.length cw) (.slice sn zn.length cn) Sw Sn zg zw zn ∧ Below w6.heap.size w6 wr)) (fun u _ => (zn.length - (RowKit.intOf u).toNat))
                  case atStart => exact ⟨0, rfl, by omega, st0⟩
                  case round =>
                    obtain ⟨k, rfl, hkl, hww⟩ := hrel
                    clear st0
                    obtain ⟨hr3, hb3⟩ := hww.out
                    replace hr3 := Lib.hid hr3
                    replace hb3 := Lib.hid hb3
                    clear hww
                    have k0 : (0 : Int) ≤ (k : Int) := by omega
                    by_cases hk : k < zn.length
                    · have k1 : (k : Int) < (zn.length : Int) := by omega
                      obtain ⟨sp', cp', ev, _, hc⟩ := hr3.out.now
                      obtain ⟨bw, ow, e2, _, _, czk⟩ := hc k hk
                      have e1 : sp' = sn := by injection ev with e1 e3 e4; exact e1.symm
                      subst e1
                      subst e2
                      have hmem := Md.getD_mem (0 : Int) hk
                      obtain ⟨y, hy⟩ : ∃ y, zn.getD k 0 = y := ⟨_, rfl⟩
                      rw [hy] at czk hmem
                      have ch := Rw.has_any y (Qu.OffRow.ints hr3.out.gone)
                      rw [decide_eq_false (hr3.out.apart hmem)] at ch
                      clear hc ev hmem hy
                      go_wp2_with fail
                      with_reducible refine Calls.mono ch ?_
                      rintro e w7 ⟨rfl, rfl⟩
                      clear ch
                      go_wp2_with fail
                      go_roundw
                      case rel => exact ⟨k + 1, by go_num, by omega, Lib.hid ⟨hr3.out, hb3.out⟩⟩
                      case measure => simp [RowKit.intOf]; omega
                    · obtain rfl : k = zn.length := by omega
                      have hkc := hkk.out wr (below_then hb6.out hb3.out)
                      have d3 := cell_of hkc (j := 3) rfl
                      have d4 := cell_of hkc (j := 4) rfl
                      have ch := Rw.has_any v hr3.out.now
                      have hnx : Hid (∀ V, Below wr.heap.size wr V → Md.Rl w2 V G fs0 p M2 (2 * (i + 1)) (i + 1 + 1) (.slice sg zg.length cg) (.slice sn zn.length cn) Sn zg zn) := Lib.hid fun V hV => (hr3.out.below hV).next
                      clear hkc hr3 hkk hb6 hb3
                      by_cases he0 : er = 0
                      · subst he0
                        by_cases he1 : op = 1
                        · subst he1
                          rw [decide_eq_true (hal2.out rfl rfl)] at ch
                          go_wp2_with fail
                          with_reducible refine Calls.mono ch ?_
                          rintro e w7 ⟨rfl, rfl⟩
                          clear ch d3 d4
                          go_wp2_with fail
                          go_roundw
                          case rel => exact ⟨i + 1, M2, sg, cg, sn, cn, Sn, zg, zn, rfl, rfl, by go_num, by omega, by omega, Lib.hid (hnx.out _ (Below.refl _ _))⟩
                          case measure => simp [RowKit.intOf]; omega
                        · have q1 : (op == 1) = false := beq_eq_false_iff_ne.2 he1
                          have q2 : decide (op = 1) = false := decide_eq_false he1
                          clear ch
                          go_wp2_with fail
                          go_roundw
                          case rel => exact ⟨i + 1, M2, sg, cg, sn, cn, Sn, zg, zn, rfl, rfl, by go_num, by omega, by omega, Lib.hid (hnx.out _ (Below.refl _ _))⟩
                          case measure => simp [RowKit.intOf]; omega
                      · have q3 : (er == 0) = false := beq_eq_false_iff_ne.2 he0
                        have q4 : decide (er = 0) = false := decide_eq_false he0
                        clear ch
                        go_wp2_with fail
                        go_roundw
                        case rel => exact ⟨i + 1, M2, sg, cg, sn, cn, Sn, zg, zn, rfl, rfl, by go_num, by omega, by omega, Lib.hid (hnx.out _ (Below.refl _ _))⟩
                        case measure => simp [RowKit.intOf]; omega
          · have i3 : ¬ (i : Int) < 150 := by omega
            have i3' : decide ((i : Int) < 150) = false := decide_eq_false i3
            have hbr : Below w.heap.size w wr := hbw.out.trans (hrl2.out.ms.bel.mono hbw.out.size)
            have ct := Md.told_any (hall.out wr hbr).1
            replace hbr := Lib.hid hbr
            clear hrl2 hbw hall hbs
            go_wp2_with fail
            with_reducible refine Calls.mono ct ?_
            rintro e wz ⟨rfl, hbz⟩
            have hfin := Lib.hid (hbr.out.trans (hbz.mono hbr.out.size))
            clear ct hbz hbr
            go_wp2_with fail
            go_ret
            exact ⟨rfl, hfin.out⟩
        · have i2 : ¬ (i : Int) < (nb : Int) := by omega
          have i2' : decide ((i : Int) < (nb : Int)) = false := decide_eq_false i2
          have hbr : Below w.heap.size w wr := hbw.out.trans (hrl2.out.ms.bel.mono hbw.out.size)
          have ct := Md.told_any (hall.out wr hbr).1
          replace hbr := Lib.hid hbr
          clear hrl2 hbw hall hbs
          go_wp2_with fail
          with_reducible refine Calls.mono ct ?_
          rintro e wz ⟨rfl, hbz⟩
          have hfin := Lib.hid (hbr.out.trans (hbz.mono hbr.out.size))
          clear ct hbz hbr
          go_wp2_with fail
          go_ret
          exact ⟨rfl, hfin.out⟩

set_option maxRecDepth 100000 in
theorem lifted (os : Os) (started : os.Started) (H : Type) (enc : TypeId × Value → H) :
    ReturnsInHanded {} Tryd.checked os 11 .any (fun w args => (Rows.modelReachSpec.pre enc Tryd.prog Tryd.f11 [] false w args ∧ laidMetH Tryd.prog [("treadmill/code.takes", Rows.laid_treadmill_code_takes)] w) ∧ sizedMet enc Tryd.prog Tryd.f11 (OpenSpec.ofChange Rows.modelReachSpec) false w args) (Rows.modelReachSpec.post enc Tryd.prog Tryd.f11 false true false false) := by
  refine returnsInHanded_of_change_and (C := Tryd.checked) (X := fun w _ => laidMetH Tryd.prog [("treadmill/code.takes", Rows.laid_treadmill_code_takes)] w) (fun _ _ _ hh h => h.of_heap hh) own started (by kernel_rfl) Tryd.func11
    (ChangeSpec.witness_shaped (enc := enc) (C := Tryd.checked) (os := os) (X := fun w _ => laidMetH Tryd.prog [("treadmill/code.takes", Rows.laid_treadmill_code_takes)] w) false (World.doorLaid Tryd.prog 400 os) #[.agg #[.int .i64 0, .slice none 0 0], .slice none 0 0] 8 rfl (World.shaped_of_RefB (by kernel_rfl) (by kernel_rfl)) (by kernel_rfl) (by kernel_rfl) (by kernel_rfl) (door_met os _)) ?_
  intro W base args ds gs before hval0 hW _ _ hL _
  have hval : ∀ (j : Nat) t v, Tryd.f11.params[j]? = some t → args[j]? = some v → Value.okWide Tryd.prog W .any base t v := hval0
  have hW' := hW
  obtain ⟨p, q, hA0, hV, rfl, hfz, hnd⟩ := hW
  have hA : DataW.TrodAll enc Tryd.prog W 0 (fun _ => true) true Tryd.f11.params.toList args.toList ds p := hA0
  rw [Tryd.params11] at hA hval
  obtain ⟨v0, vs0, d0, ds0, p0, q0, hargs, rfl, rfl, h0, r0⟩ := trodAll_cons hA
  obtain ⟨v1, vs1, d1, ds1, p1, q1, rfl, rfl, rfl, h1, r1⟩ := trodAll_cons r0
  obtain ⟨rfl, rfl, rfl⟩ := trodAll_nil r1
  obtain rfl : args = #[v0, v1] := by cases args; simp_all
  obtain ⟨rfl, rfl⟩ := trodVars_none hV
  obtain ⟨g0, fv0, fs0, rfl, i0⟩ := prog_arg (hval 0 49 v0 rfl rfl) h0
  obtain ⟨zb1, i1⟩ := Rw.op16_arg (hval 1 57 v1 rfl rfl) h1
  clear hA0 hval0
  simp only [List.append_nil] at hW'
  have lt0 : ∀ x ∈ p0, x.block < W.heap.size := fun x hx => by have := hW'.lt x (by simp [hx]); simpa using this
  have lt1 : ∀ x ∈ p1, x.block < W.heap.size := fun x hx => by have := hW'.lt x (by simp [hx]); simpa using this
  refine (walk g0 fv0 fs0 v1 zb1 W (tk_of_laid hL) i0 i1).mono fun e W' ⟨he, hg⟩ => ?_
  subst he
  exact ⟨_, rfl, post_of_kept (pa := _) (pv := []) hW' (fun _ _ _ => (trodAll_cons_mk (shut_bool Tryd.underlying4 _) trodAll_mk0)) (trodAll_cons_mk (Below.trod laidOut (by kernel_rfl) (of_decide_eq_true (by kernel_rfl)) h0 hg lt0) (trodAll_cons_mk (Below.trod laidOut (by kernel_rfl) (of_decide_eq_true (by kernel_rfl)) h1 hg lt1) trodAll_mk0)) (fun _ _ => rfl) (by simp) hg⟩

theorem over : Rows.modelReachRow.holds Tryd.pinned (OpenSpec.ofChange Rows.modelReachSpec) :=
  OpenClaim.holds_of_wide 11 Tryd.f11 rfl rfl rfl rfl rfl rfl rfl ⟨rfl, rfl, rfl, rfl, rfl⟩ rfl rfl rfl rfl rfl (by kernel_rfl) Tryd.func11 (by kernel_rfl)
    (of_decide_eq_true (by kernel_rfl)) (by unfold Func.isWrapper; first | (rw [if_pos (by decide +kernel)]; kernel_rfl) | (rw [if_neg (by decide +kernel)]; exact ⟨rfl, rfl⟩))
    (fun os started H enc _ => lifted os started H enc)

theorem proved : Rows.ModelReachCardSaid :=
  Claim7.holds_tied_plain_at .later [] [.data] true Rows.modelReachCard.stood.harness true
    over (fun _ h => by cases h) (by kernel_rfl) (fun _ h => by cases h) modelReach_row_tie rfl ⟨rfl, rfl⟩ (by kernel_rfl) rfl
    (fun f fn hf hfn => by
      obtain rfl : f = 11 := Option.some.inj ((show Tryd.prog.funcNamed "treadmill/treadmilllaw16.ModelReach" = some 11 by kernel_rfl).symm.trans hf) |>.symm
      obtain rfl : fn = Tryd.f11 := (Option.some.inj (Tryd.func11.symm.trans hfn)).symm
      exact ⟨by kernel_rfl, fun j t ht => by
        rw [Tryd.params11] at ht
        have hm : t ∈ [49, 57] := by simpa using Array.mem_of_getElem? ht
        have hall : ([49, 57].all fun u => !Tryd.prog.wantsStandIn u) = true := by kernel_rfl
        exact (show Tryd.prog.wantsStandIn t = false by simpa using List.all_eq_true.1 hall t hm)⟩)
    (by kernel_rfl)
#print axioms proved
end Go.Proofs.YtdnajpnnjfncbaaDoor.modelReach
