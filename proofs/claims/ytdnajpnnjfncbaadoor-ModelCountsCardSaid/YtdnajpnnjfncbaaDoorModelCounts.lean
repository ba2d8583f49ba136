import Derived.Test.YtdnajpnnjfncbaaDoorMB7
import Derived.Test.YtdnajpnnjfncbaaDoorMB4
import Derived.WalkKit
import Derived.ProofKit
import Derived.OpenShut
import Derived.Test.YtdnajpnnjfncbaaDoorTie
import Derived.Test.YtdnajpnnjfncbaaDoorCards
import Derived.LaidMore
import Derived.Stop.Joined
import Derived.SevenTiedAt
import Derived.Deep.RegionHeld3
import Derived.Deep.RegionWith
import Derived.Deep.Cut
import Derived.Deep.CutBlock
import Derived.Deep.CutRange
import Derived.Deep.LoopGhost
import Derived.Deep.DeepCutAuto
import Derived.RegionTactic
import Derived.StillTailTactics
import Derived.Deep.RegionLaw
/- A loop that counts down goes round just so often (16.1): two goroutines by turns, any count from 0 to 700 and from 0 to 50. No further condition but the listed table. -/
namespace Go.Proofs.YtdnajpnnjfncbaaDoor.modelCounts
open Go.ChangeShapes Go.WideShapes Go.ChangeAt Go.WideElems Go.RowKit Go.Lib Fx Ho Gr Cd
set_option linter.unusedVariables false

theorem own : ownKnob Tryd.prog.godebug = none := by kernel_rfl

set_option maxRecDepth 100000 in
set_option maxHeartbeats 4000000 in
theorem walk (a0 : Int) (a1 : Int) (w : World) (hT : Tk w) (w0 : (Lit.int .i64 a0).wf = true) (w1 : (Lit.int .i64 a1).wf = true) :
    Calls Tryd.prog 5 #[.int .i64 a0, .int .i64 a1] w fun e w' => e = .returned (.bool true) ∧ Below w.heap.size w w' := by
  obtain ⟨Y0, h00⟩ : ∃ Y : Int, IntKind.u64.wrap a0 = Y := ⟨_, rfl⟩
  obtain ⟨Y1, h01⟩ : ∃ Y : Int, IntKind.u64.wrap a1 = Y := ⟨_, rfl⟩
  have p0 : 0 ≤ Y0 := by rw [← h00, IntKind.wrap_u64]; omega
  have p1 : 0 ≤ Y1 := by rw [← h01, IntKind.wrap_u64]; omega
  obtain ⟨k, hk⟩ : ∃ k : Nat, Y0 % 700 = (k : Int) := ⟨(Y0 % 700).toNat, by omega⟩
  obtain ⟨j, hj⟩ : ∃ k : Nat, Y1 % 50 = (k : Int) := ⟨(Y1 % 50).toNat, by omega⟩
  have k7 : k < 700 := by omega
  have j5 : j < 50 := by omega
  have hP := Lib.hid (Md.pgC k7 j5)
  have hT := Lib.hid hT
  go_enter Tryd.func5, Tryd.ntmps5
  go_upto_region 2 with fail
  try rw [h00]
  try rw [h01]
  try rw [hk]
  try rw [hj]
  clear h00 h01 hk hj
  go_upto_region 3 with fail
  have k0 : (0 : Int) ≤ (k : Int) := by omega
  have j0 : (0 : Int) ≤ (j : Int) := by omega
  have hA2 : (#[.int .i64 16, .int .i64 ((k : Int) / 256), .int .i64 (bits .and .i64 (k : Int) 255), .int .i64 0, .int .i64 4, .int .i64 1, .int .i64 2, .int .i64 0, .int .i64 17, .int .i64 2, .int .i64 0, .int .i64 0] : Array Value) = (ca (Md.c0 k)).toArray := by rw [Md.band k (by omega), Md.bdiv]; rfl
  have hpw := Md.pw_lit w Md.cA (by decide)
  have hb1 := below_alloc (Below.refl _ (w.alloc (.cells #[.int .i64 8, .int .i64 1, .int .i64 0, .int .i64 0] 29))) (.cells #[.int .i64 16, .int .i64 ((k : Int) / 256), .int .i64 (bits .and .i64 (k : Int) 255), .int .i64 0, .int .i64 4, .int .i64 1, .int .i64 2, .int .i64 0, .int .i64 17, .int .i64 2, .int .i64 0, .int .i64 0] 29)
  have hrow : Hid (GRow 4 ((w.alloc (.cells #[.int .i64 8, .int .i64 1, .int .i64 0, .int .i64 0] 29)).alloc (.cells #[.int .i64 16, .int .i64 ((k : Int) / 256), .int .i64 (bits .and .i64 (k : Int) 255), .int .i64 0, .int .i64 4, .int .i64 1, .int .i64 2, .int .i64 0, .int .i64 17, .int .i64 2, .int .i64 0, .int .i64 0] 29)) (.slice (some ⟨w.heap.size, 0, none⟩) 1 1) 1 (ca Md.cA)) := Lib.hid (hpw.row.below hb1)
  have hsrc : Hid (Src Tryd.prog 4 30 (.slice (some ⟨w.heap.size + 1, 0, none⟩) 3 3) 3 (ca (Md.c0 k)) ((w.alloc (.cells #[.int .i64 8, .int .i64 1, .int .i64 0, .int .i64 0] 29)).alloc (.cells #[.int .i64 16, .int .i64 ((k : Int) / 256), .int .i64 (bits .and .i64 (k : Int) 255), .int .i64 0, .int .i64 4, .int .i64 1, .int .i64 2, .int .i64 0, .int .i64 17, .int .i64 2, .int .i64 0, .int .i64 0] 29))) := Lib.hid (by rw [hA2]; have := Md.src_lit (w.alloc (.cells #[.int .i64 8, .int .i64 1, .int .i64 0, .int .i64 0] 29)) (Md.c0 k) (by show 0 < 3; omega) (by show 3 ≤ 1000; omega); rw [Md.s_alloc] at this; exact this)
  have hbd : 1 + 3 ≤ 1000000 := by omega
  have key : Hid (∀ u8 w8, GRow 4 w8 u8 (1 + 3) (ca Md.cA ++ ca (Md.c0 k)) → Wrote (fun k => (Value.slice (some ⟨w.heap.size, 0, none⟩) 1 1).ownBlock = some k) ((w.alloc (.cells #[.int .i64 8, .int .i64 1, .int .i64 0, .int .i64 0] 29)).alloc (.cells #[.int .i64 16, .int .i64 ((k : Int) / 256), .int .i64 (bits .and .i64 (k : Int) 255), .int .i64 0, .int .i64 4, .int .i64 1, .int .i64 2, .int .i64 0, .int .i64 17, .int .i64 2, .int .i64 0, .int .i64 0] 29)) (fun k => u8.ownBlock = some k) w8 → ∃ s c, u8 = .slice s 4 c ∧ Hid (Md.Pw w w8 (.slice s 4 c) (Md.cA ++ Md.c0 k))) := Lib.hid fun u8 w8 g1 g2 => by
    obtain ⟨s8, c8, rfl⟩ := g1.slice
    exact ⟨s8, c8, rfl, Lib.hid (hpw.more (l := Md.c0 k) hb1 g1 g2)⟩
  clear hpw hb1 hA2
  generalize ca (Md.c0 k) = XX at *
  go_wp2_with (at_builtin; refine wpList_append_g rfl (.tmp 23) (.tmp 31) rfl rfl eltIns hrow.out rfl rfl hsrc.out hbd ?_; intro u8 w8 g1 g2; have hk := key.out u8 w8 g1 g2; obtain ⟨s9, c9, rfl, hnx⟩ := hk; clear key g1 g2 hrow hsrc)
  have cc := Md.clos (w := w8) j (by omega)
  with_reducible refine Calls.mono cc ?_
  rintro e w3 ⟨rfl, rfl⟩
  clear cc
  obtain ⟨hF, hbU⟩ := hnx.out.prog2 (Md.c1 j) 3 rfl (by decide)
  have cb := Md.ms_build (G := 0) (hT.out.below hbU) (fs := Md.fsC k j) hF (Md.may_of hP.out)
  generalize ca (Md.c1 j) = YY at *
  go_wp2_with fail
  obtain ⟨U, hU⟩ : ∃ U, (w8.alloc (.cells YY.toArray 29)).alloc (.cells #[.slice s9 4 c9, .slice (some ⟨w8.heap.size, 0, none⟩) 3 3] 30) = U := ⟨_, rfl⟩
  rw [hU] at cb hbU
  try rw [hU]
  replace hbU := Lib.hid hbU
  clear hnx hF hU
  with_reducible refine Calls.mono cb ?_
  rintro e w2 ⟨p, rfl, hm⟩
  clear cb
  have hmk := Md.made_two
  obtain ⟨h1, h2, -⟩ := hm.var #[.int .i64 0, .int .i64 0] 3
  have st0 : Hid (Md.Rd U (w2.alloc (.cells #[.int .i64 0, .int .i64 0] 3)) k j p w2.heap.size 0) := Lib.hid (.inl ⟨rfl, h1, h2⟩)
  clear h1 h2 hm
  obtain ⟨N, hN⟩ : ∃ N, w2.heap.size = N := ⟨_, rfl⟩
  rw [hN] at st0
  go_upto_region 7 with fail
  try rw [hN]
  clear hN hmk
  go_wp2_with fail
  go_loopw [10] (fun u wr => ∃ i : Nat, u = .int .i64 i ∧ Hid (Md.Rd U wr k j p N i)) (fun u _ => (5000 - (RowKit.intOf u).toNat))
  case atStart => exact ⟨0, rfl, st0⟩
  case round =>
    obtain ⟨i, rfl, hrd⟩ := hrel
    clear st0
    have i0 : (0 : Int) ≤ (i : Int) := by omega
    have hi5 := hrd.out.lt k7 j5
    have i2 : (i : Int) < 5000 := by omega
    have ew : IntKind.i64.wrap ((i : Int) + 1) = (i : Int) + 1 := by rw [IntKind.wrap_i64]; omega
    rcases hrd.out with ⟨hi, hc⟩ | ⟨a, b, r0, t0, m0, r1, t1, m1, h0, h1, hc, hn, hl0, hl5⟩
    · have em : (i : Int) % 2 = 0 := by omega
      clear hrd
      go_wp2_with fail
      with_reducible refine Calls.mono (Md.cs_s00 hc) ?_
      rintro e wq ⟨rfl, rfl⟩
      go_wp2_with fail
      with_reducible refine Calls.mono (Md.cs_gs0 hc) ?_
      rintro e wq ⟨rfl, rfl⟩
      have cd := Md.cs_spawn hc hP.out (by omega)
      go_wp2_with fail
      with_reducible refine Calls.mono cd ?_
      rintro e w5 ⟨rfl, hc5⟩
      clear cd
      obtain ⟨hc6, kc⟩ := hc5.var #[.int .i64 0, .int .i64 0, .int .i64 0, .int .i64 8, .int .i64 1, .bool false] 24
      have d3 := cell_of kc (j := 3) rfl
      have d0 := cell_of kc (j := 0) rfl
      go_upto_region 16 with fail
      obtain ⟨W6, hW6⟩ : ∃ W, w5.alloc (.cells #[.int .i64 0, .int .i64 0, .int .i64 0, .int .i64 8, .int .i64 1, .bool false] 24) = W := ⟨_, rfl⟩
      rw [hW6] at hc6 d3 d0
      try rw [hW6]
      obtain ⟨Nc, hNc⟩ : ∃ N, w5.heap.size = N := ⟨_, rfl⟩
      rw [hNc] at d3 d0
      try rw [hNc]
      clear hW6 hNc kc hc5
      have hnx : Hid (Md.Rd U W6 k j p N (i + 1)) := Lib.hid (by
        subst hi
        exact .inr ⟨0, 0, _, _, 0, _, _, 0, .init, .init, hc6, fun e => absurd e.1 (by decide), fun _ => by omega, fun e => absurd e (by decide)⟩)
      go_wp2_with fail
      with_reducible refine Calls.mono (Md.cs_gs hc6) ?_
      rintro e wq ⟨rfl, rfl⟩
      go_wp2_with fail
      with_reducible refine Calls.mono (Md.cs_s0 hc6) ?_
      rintro e wq ⟨rfl, rfl⟩
      clear hc6 hc d3 d0
      go_wp2_with fail
      go_roundw
      case rel => exact ⟨i + 1, by go_num, hnx⟩
      case measure => simp [RowKit.intOf]; omega
    · clear hrd
      have hK : i < 90000 := by omega
      have s0 := h0.st
      rcases s0 with ⟨rfl, ha⟩ | ⟨rfl, ha, hm0⟩
      · replace hl0 := hl0 rfl
        clear hl5 hn
        rcases (show (i : Int) % 2 = 0 ∨ (i : Int) % 2 = 1 by omega) with em | em
        · go_wp2_with fail
          with_reducible refine Calls.mono (Md.cs_s0 hc) ?_
          rintro e wq ⟨rfl, rfl⟩
          go_wp2_with fail
          with_reducible refine Calls.mono (Md.cs_gs hc) ?_
          rintro e wq ⟨rfl, rfl⟩
          have cd := Md.cs_do0 hc hP.out hK h0 rfl
          go_wp2_with fail
          with_reducible refine Calls.mono cd ?_
          rintro e w5 ⟨r', t', m', pc, op, h0', htl, rfl, hc5⟩
          clear cd
          obtain ⟨hc6, kc⟩ := hc5.var #[.int .i64 0, .int .i64 0, .int .i64 pc, .int .i64 op, .int .i64 0, .bool false] 24
          have d3 := cell_of kc (j := 3) rfl
          have d0 := cell_of kc (j := 0) rfl
          go_upto_region 16 with fail
          obtain ⟨W6, hW6⟩ : ∃ W, w5.alloc (.cells #[.int .i64 0, .int .i64 0, .int .i64 pc, .int .i64 op, .int .i64 0, .bool false] 24) = W := ⟨_, rfl⟩
          rw [hW6] at hc6 d3 d0
          try rw [hW6]
          obtain ⟨Nc, hNc⟩ : ∃ N, w5.heap.size = N := ⟨_, rfl⟩
          rw [hNc] at d3 d0
          try rw [hNc]
          clear hW6 hNc kc hc5
          have hle := h0.le
          have hle' := h0'.le
          rcases htl with ⟨rfl, rfl, rfl⟩ | ⟨hop, rfl⟩
          · have fz : W6.frozen? ⟨N, 0, none⟩ = false := frozen_of_row _ _ _ _ _ hc6.mv
            have dm := cell_of hc6.mv (j := 0) rfl
            have em1 : IntKind.i64.wrap ((m0 : Int) + 1) = (m0 : Int) + 1 := by rw [IntKind.wrap_i64]; omega
            replace hc6 := Lib.hid (hc6.set0 ((m0 : Int) + 1))
            go_upto_region 18 with fail
            obtain ⟨W7, hW7⟩ : ∃ W, W6.setCell ⟨N, 0, none⟩ (.int .i64 ((m0 : Int) + 1)) = W := ⟨_, rfl⟩
            rw [hW7] at hc6
            try rw [hW7]
            clear hW7 fz dm em1 d3 d0
            have hc6 := hc6.out
            have hnx : Hid (Md.Rd U W7 k j p N (i + 1)) := Lib.hid (.inr ⟨_, _, _, _, _, _, _, _, h0', h1, hc6, fun e => absurd e.1 (by decide), fun _ => by omega, fun e => absurd e (by decide)⟩)
            go_wp2_with fail
            with_reducible refine Calls.mono (Md.cs_gs hc6) ?_
            rintro e wq ⟨rfl, rfl⟩
            go_wp2_with fail
            with_reducible refine Calls.mono (Md.cs_s0 hc6) ?_
            rintro e wq ⟨rfl, rfl⟩
            clear hc6 hc
            go_wp2_with fail
            go_roundw
            case rel => exact ⟨i + 1, by go_num, hnx⟩
            case measure => simp [RowKit.intOf]; omega
          · go_upto_region 18 with fail
            clear d3 d0
            have s1 := h0'.st
            rcases s1 with ⟨rfl, ha1⟩ | ⟨rfl, ha1, hm1⟩
            · have hnx : Hid (Md.Rd U W6 k j p N (i + 1)) := Lib.hid (.inr ⟨_, _, _, _, _, _, _, _, h0', h1, hc6, fun e => absurd e.1 (by decide), fun _ => by omega, fun e => absurd e (by decide)⟩)
              go_wp2_with fail
              with_reducible refine Calls.mono (Md.cs_gs hc6) ?_
              rintro e wq ⟨rfl, rfl⟩
              go_wp2_with fail
              with_reducible refine Calls.mono (Md.cs_s0 hc6) ?_
              rintro e wq ⟨rfl, rfl⟩
              clear hc6 hc
              go_wp2_with fail
              go_roundw
              case rel => exact ⟨i + 1, by go_num, hnx⟩
              case measure => simp [RowKit.intOf]; omega
            · have s2 := h1.st
              rcases s2 with ⟨rfl, hb1⟩ | ⟨rfl, hb1, hm2⟩
              · have hnx : Hid (Md.Rd U W6 k j p N (i + 1)) := Lib.hid (.inr ⟨_, _, _, _, _, _, _, _, h0', h1, hc6, fun e => absurd e.2 (by decide), fun e => absurd e (by decide), fun _ => by omega⟩)
                go_wp2_with fail
                with_reducible refine Calls.mono (Md.cs_gs hc6) ?_
                rintro e wq ⟨rfl, rfl⟩
                go_wp2_with fail
                with_reducible refine Calls.mono (Md.cs_s0 hc6) ?_
                rintro e wq ⟨rfl, rfl⟩
                go_wp2_with fail
                with_reducible refine Calls.mono (Md.cs_s1 hc6) ?_
                rintro e wq ⟨rfl, rfl⟩
                clear hc6 hc
                go_wp2_with fail
                go_roundw
                case rel => exact ⟨i + 1, by go_num, hnx⟩
                case measure => simp [RowKit.intOf]; omega
              · have em0 : (m' : Int) = (k : Int) + 1 := by omega
                have em1 : (m1 : Int) = (j : Int) + 1 := by omega
                rw [em0, em1] at hc6
                clear em0 em1
                go_wp2_with fail
                with_reducible refine Calls.mono (Md.cs_gs hc6) ?_
                rintro e wq ⟨rfl, rfl⟩
                go_wp2_with fail
                with_reducible refine Calls.mono (Md.cs_s0 hc6) ?_
                rintro e wq ⟨rfl, rfl⟩
                go_wp2_with fail
                with_reducible refine Calls.mono (Md.cs_s1 hc6) ?_
                rintro e wq ⟨rfl, rfl⟩
                have hmd := hc6.ms.bel
                have hbr := Lib.hid (hbU.out.trans (hmd.mono hbU.out.size))
                have ct := Md.told_any (hT.out.below hbr.out)
                go_wp2_with fail
                with_reducible refine Calls.mono ct ?_
                rintro e wz ⟨rfl, hbz⟩
                have hcz := hc6.below hbz
                have dz0 := cell_of hcz.mv (j := 0) rfl
                have dz1 := cell_of hcz.mv (j := 1) rfl
                have hfin := Lib.hid (hbr.out.trans (hbz.mono hbr.out.size))
                have ek : IntKind.i64.wrap ((k : Int) + 1) = (k : Int) + 1 := by rw [IntKind.wrap_i64]; omega
                have ej : IntKind.i64.wrap ((j : Int) + 1) = (j : Int) + 1 := by rw [IntKind.wrap_i64]; omega
                clear ct hbz hbr hmd hc6
                go_wp2_with fail
                with_reducible refine Calls.mono (Md.cs_s0 hcz) ?_
                rintro e wq ⟨rfl, rfl⟩
                go_wp2_with fail
                with_reducible refine Calls.mono (Md.cs_s1 hcz) ?_
                rintro e wq ⟨rfl, rfl⟩
                go_wp2_with fail
                with_reducible refine Calls.mono (Md.cs_stuck hcz) ?_
                rintro e wq ⟨rfl, rfl⟩
                go_wp2_with fail
                go_ret
                exact ⟨rfl, hfin.out⟩
        · have s2 := h1.st
          rcases s2 with ⟨rfl, hb1⟩ | ⟨rfl, hb1, hm2⟩
          · go_wp2_with fail
            with_reducible refine Calls.mono (Md.cs_s0 hc) ?_
            rintro e wq ⟨rfl, rfl⟩
            go_wp2_with fail
            with_reducible refine Calls.mono (Md.cs_gs hc) ?_
            rintro e wq ⟨rfl, rfl⟩
            have cd := Md.cs_do1 hc hP.out hK h1 rfl
            go_wp2_with fail
            with_reducible refine Calls.mono cd ?_
            rintro e w5 ⟨r', t', m', pc, op, h1', htl, rfl, hc5⟩
            clear cd
            obtain ⟨hc6, kc⟩ := hc5.var #[.int .i64 1, .int .i64 1, .int .i64 pc, .int .i64 op, .int .i64 0, .bool false] 24
            have d3 := cell_of kc (j := 3) rfl
            have d0 := cell_of kc (j := 0) rfl
            go_upto_region 16 with fail
            obtain ⟨W6, hW6⟩ : ∃ W, w5.alloc (.cells #[.int .i64 1, .int .i64 1, .int .i64 pc, .int .i64 op, .int .i64 0, .bool false] 24) = W := ⟨_, rfl⟩
            rw [hW6] at hc6 d3 d0
            try rw [hW6]
            obtain ⟨Nc, hNc⟩ : ∃ N, w5.heap.size = N := ⟨_, rfl⟩
            rw [hNc] at d3 d0
            try rw [hNc]
            clear hW6 hNc kc hc5
            have hle := h1.le
            rcases htl with ⟨rfl, rfl, rfl⟩ | ⟨hop, rfl⟩
            · have fz : W6.frozen? ⟨N, 1, none⟩ = false := frozen_of_row _ _ _ _ _ hc6.mv
              have dm := cell_of hc6.mv (j := 1) rfl
              have em1 : IntKind.i64.wrap ((m1 : Int) + 1) = (m1 : Int) + 1 := by rw [IntKind.wrap_i64]; omega
              replace hc6 := Lib.hid (hc6.set1 ((m1 : Int) + 1))
              go_upto_region 18 with fail
              obtain ⟨W7, hW7⟩ : ∃ W, W6.setCell ⟨N, 1, none⟩ (.int .i64 ((m1 : Int) + 1)) = W := ⟨_, rfl⟩
              rw [hW7] at hc6
              try rw [hW7]
              clear hW7 fz dm em1 d3 d0
              have hc6 := hc6.out
              have hnx : Hid (Md.Rd U W7 k j p N (i + 1)) := Lib.hid (.inr ⟨_, _, _, _, _, _, _, _, h0, h1', hc6, fun e => absurd e.1 (by decide), fun _ => by omega, fun e => absurd e (by decide)⟩)
              go_wp2_with fail
              with_reducible refine Calls.mono (Md.cs_gs hc6) ?_
              rintro e wq ⟨rfl, rfl⟩
              go_wp2_with fail
              with_reducible refine Calls.mono (Md.cs_s0 hc6) ?_
              rintro e wq ⟨rfl, rfl⟩
              clear hc6 hc
              go_wp2_with fail
              go_roundw
              case rel => exact ⟨i + 1, by go_num, hnx⟩
              case measure => simp [RowKit.intOf]; omega
            · go_upto_region 18 with fail
              clear d3 d0
              have hnx : Hid (Md.Rd U W6 k j p N (i + 1)) := Lib.hid (.inr ⟨_, _, _, _, _, _, _, _, h0, h1', hc6, fun e => absurd e.1 (by decide), fun _ => by omega, fun e => absurd e (by decide)⟩)
              go_wp2_with fail
              with_reducible refine Calls.mono (Md.cs_gs hc6) ?_
              rintro e wq ⟨rfl, rfl⟩
              go_wp2_with fail
              with_reducible refine Calls.mono (Md.cs_s0 hc6) ?_
              rintro e wq ⟨rfl, rfl⟩
              clear hc6 hc
              go_wp2_with fail
              go_roundw
              case rel => exact ⟨i + 1, by go_num, hnx⟩
              case measure => simp [RowKit.intOf]; omega
          · go_wp2_with fail
            with_reducible refine Calls.mono (Md.cs_s0 hc) ?_
            rintro e wq ⟨rfl, rfl⟩
            go_wp2_with fail
            with_reducible refine Calls.mono (Md.cs_gs hc) ?_
            rintro e wq ⟨rfl, rfl⟩
            have cd := Md.cs_not hc hP.out hK rfl
            go_wp2_with fail
            with_reducible refine Calls.mono cd ?_
            rintro e w5 ⟨rfl, hc5⟩
            clear cd
            obtain ⟨hc6, kc⟩ := hc5.var #[.int .i64 0, .int .i64 0, .int .i64 0, .int .i64 0, .int .i64 0, .bool false] 24
            have d3 := cell_of kc (j := 3) rfl
            have d0 := cell_of kc (j := 0) rfl
            go_upto_region 16 with fail
            obtain ⟨W6, hW6⟩ : ∃ W, w5.alloc (.cells #[.int .i64 0, .int .i64 0, .int .i64 0, .int .i64 0, .int .i64 0, .bool false] 24) = W := ⟨_, rfl⟩
            rw [hW6] at hc6 d3 d0
            try rw [hW6]
            obtain ⟨Nc, hNc⟩ : ∃ N, w5.heap.size = N := ⟨_, rfl⟩
            rw [hNc] at d3 d0
            try rw [hNc]
            clear hW6 hNc kc hc5
            go_upto_region 18 with fail
            clear d3 d0
            have hnx : Hid (Md.Rd U W6 k j p N (i + 1)) := Lib.hid (.inr ⟨_, _, _, _, _, _, _, _, h0, h1, hc6, fun e => absurd e.1 (by decide), fun _ => by omega, fun e => absurd e (by decide)⟩)
            go_wp2_with fail
            with_reducible refine Calls.mono (Md.cs_gs hc6) ?_
            rintro e wq ⟨rfl, rfl⟩
            go_wp2_with fail
            with_reducible refine Calls.mono (Md.cs_s0 hc6) ?_
            rintro e wq ⟨rfl, rfl⟩
            clear hc6 hc
            go_wp2_with fail
            go_roundw
            case rel => exact ⟨i + 1, by go_num, hnx⟩
            case measure => simp [RowKit.intOf]; omega
      · have e1 := h1.st
        have ht1 : t1 = 1 := by rcases e1 with ⟨e, _⟩ | ⟨e, _⟩; exact e; exact absurd ⟨rfl, e⟩ hn
        replace hl5 := hl5 rfl
        clear hl0 hn e1
        obtain rfl := ht1
        go_wp2_with fail
        with_reducible refine Calls.mono (Md.cs_s0 hc) ?_
        rintro e wq ⟨rfl, rfl⟩
        go_wp2_with fail
        with_reducible refine Calls.mono (Md.cs_gs hc) ?_
        rintro e wq ⟨rfl, rfl⟩
        have cd := Md.cs_do1 hc hP.out hK h1 rfl
        go_wp2_with fail
        with_reducible refine Calls.mono cd ?_
        rintro e w5 ⟨r', t', m', pc, op, h1', htl, rfl, hc5⟩
        clear cd
        obtain ⟨hc6, kc⟩ := hc5.var #[.int .i64 1, .int .i64 1, .int .i64 pc, .int .i64 op, .int .i64 0, .bool false] 24
        have d3 := cell_of kc (j := 3) rfl
        have d0 := cell_of kc (j := 0) rfl
        go_upto_region 16 with fail
        obtain ⟨W6, hW6⟩ : ∃ W, w5.alloc (.cells #[.int .i64 1, .int .i64 1, .int .i64 pc, .int .i64 op, .int .i64 0, .bool false] 24) = W := ⟨_, rfl⟩
        rw [hW6] at hc6 d3 d0
        try rw [hW6]
        obtain ⟨Nc, hNc⟩ : ∃ N, w5.heap.size = N := ⟨_, rfl⟩
        rw [hNc] at d3 d0
        try rw [hNc]
        clear hW6 hNc kc hc5
        have hle := h1.le
        rcases htl with ⟨rfl, rfl, rfl⟩ | ⟨hop, rfl⟩
        · have fz : W6.frozen? ⟨N, 1, none⟩ = false := frozen_of_row _ _ _ _ _ hc6.mv
          have dm := cell_of hc6.mv (j := 1) rfl
          have em1 : IntKind.i64.wrap ((m1 : Int) + 1) = (m1 : Int) + 1 := by rw [IntKind.wrap_i64]; omega
          replace hc6 := Lib.hid (hc6.set1 ((m1 : Int) + 1))
          go_upto_region 18 with fail
          obtain ⟨W7, hW7⟩ : ∃ W, W6.setCell ⟨N, 1, none⟩ (.int .i64 ((m1 : Int) + 1)) = W := ⟨_, rfl⟩
          rw [hW7] at hc6
          try rw [hW7]
          clear hW7 fz dm em1 d3 d0
          have hc6 := hc6.out
          have hnx : Hid (Md.Rd U W7 k j p N (i + 1)) := Lib.hid (.inr ⟨_, _, _, _, _, _, _, _, h0, h1', hc6, fun e => absurd e.2 (by decide), fun e => absurd e (by decide), fun _ => by omega⟩)
          go_wp2_with fail
          with_reducible refine Calls.mono (Md.cs_gs hc6) ?_
          rintro e wq ⟨rfl, rfl⟩
          go_wp2_with fail
          with_reducible refine Calls.mono (Md.cs_s0 hc6) ?_
          rintro e wq ⟨rfl, rfl⟩
          go_wp2_with fail
          with_reducible refine Calls.mono (Md.cs_s1 hc6) ?_
          rintro e wq ⟨rfl, rfl⟩
          clear hc6 hc
          go_wp2_with fail
          go_roundw
          case rel => exact ⟨i + 1, by go_num, hnx⟩
          case measure => simp [RowKit.intOf]; omega
        · go_upto_region 18 with fail
          clear d3 d0
          have s1 := h1'.st
          rcases s1 with ⟨rfl, ha1⟩ | ⟨rfl, ha1, hm1⟩
          · have hnx : Hid (Md.Rd U W6 k j p N (i + 1)) := Lib.hid (.inr ⟨_, _, _, _, _, _, _, _, h0, h1', hc6, fun e => absurd e.2 (by decide), fun e => absurd e (by decide), fun _ => by omega⟩)
            go_wp2_with fail
            with_reducible refine Calls.mono (Md.cs_gs hc6) ?_
            rintro e wq ⟨rfl, rfl⟩
            go_wp2_with fail
            with_reducible refine Calls.mono (Md.cs_s0 hc6) ?_
            rintro e wq ⟨rfl, rfl⟩
            go_wp2_with fail
            with_reducible refine Calls.mono (Md.cs_s1 hc6) ?_
            rintro e wq ⟨rfl, rfl⟩
            clear hc6 hc
            go_wp2_with fail
            go_roundw
            case rel => exact ⟨i + 1, by go_num, hnx⟩
            case measure => simp [RowKit.intOf]; omega
          · have em0 : (m0 : Int) = (k : Int) + 1 := by omega
            have em1 : (m' : Int) = (j : Int) + 1 := by omega
            rw [em0, em1] at hc6
            clear em0 em1
            go_wp2_with fail
            with_reducible refine Calls.mono (Md.cs_gs hc6) ?_
            rintro e wq ⟨rfl, rfl⟩
            go_wp2_with fail
            with_reducible refine Calls.mono (Md.cs_s0 hc6) ?_
            rintro e wq ⟨rfl, rfl⟩
            go_wp2_with fail
            with_reducible refine Calls.mono (Md.cs_s1 hc6) ?_
            rintro e wq ⟨rfl, rfl⟩
            have hmd := hc6.ms.bel
            have hbr := Lib.hid (hbU.out.trans (hmd.mono hbU.out.size))
            have ct := Md.told_any (hT.out.below hbr.out)
            go_wp2_with fail
            with_reducible refine Calls.mono ct ?_
            rintro e wz ⟨rfl, hbz⟩
            have hcz := hc6.below hbz
            have dz0 := cell_of hcz.mv (j := 0) rfl
            have dz1 := cell_of hcz.mv (j := 1) rfl
            have hfin := Lib.hid (hbr.out.trans (hbz.mono hbr.out.size))
            have ek : IntKind.i64.wrap ((k : Int) + 1) = (k : Int) + 1 := by rw [IntKind.wrap_i64]; omega
            have ej : IntKind.i64.wrap ((j : Int) + 1) = (j : Int) + 1 := by rw [IntKind.wrap_i64]; omega
            clear ct hbz hbr hmd hc6
            go_wp2_with fail
            with_reducible refine Calls.mono (Md.cs_s0 hcz) ?_
            rintro e wq ⟨rfl, rfl⟩
            go_wp2_with fail
            with_reducible refine Calls.mono (Md.cs_s1 hcz) ?_
            rintro e wq ⟨rfl, rfl⟩
            go_wp2_with fail
            with_reducible refine Calls.mono (Md.cs_stuck hcz) ?_
            rintro e wq ⟨rfl, rfl⟩
            go_wp2_with fail
            go_ret
            exact ⟨rfl, hfin.out⟩

set_option maxRecDepth 100000 in
theorem lifted (os : Os) (started : os.Started) (H : Type) (enc : TypeId × Value → H) :
    ReturnsInHanded {} Tryd.checked os 5 .any (fun w args => (Rows.modelCountsSpec.pre enc Tryd.prog Tryd.f5 [] false w args ∧ laidMetH Tryd.prog [("treadmill/code.takes", Rows.laid_treadmill_code_takes)] w) ∧ sizedMet enc Tryd.prog Tryd.f5 (OpenSpec.ofChange Rows.modelCountsSpec) false w args) (Rows.modelCountsSpec.post enc Tryd.prog Tryd.f5 false true false false) := by
  refine returnsInHanded_of_change_and (C := Tryd.checked) (X := fun w _ => laidMetH Tryd.prog [("treadmill/code.takes", Rows.laid_treadmill_code_takes)] w) (fun _ _ _ hh h => h.of_heap hh) own started (by kernel_rfl) Tryd.func5
    (ChangeSpec.witness_shaped (enc := enc) (C := Tryd.checked) (os := os) (X := fun w _ => laidMetH Tryd.prog [("treadmill/code.takes", Rows.laid_treadmill_code_takes)] w) false (World.doorLaid Tryd.prog 400 os) #[.int .i64 0, .int .i64 0] 8 rfl (World.shaped_of_RefB (by kernel_rfl) (by kernel_rfl)) (by kernel_rfl) (by kernel_rfl) (by kernel_rfl) (door_met os _)) ?_
  intro W base args ds gs before hval0 hW _ _ hL _
  have hval : ∀ (j : Nat) t v, Tryd.f5.params[j]? = some t → args[j]? = some v → Value.okWide Tryd.prog W .any base t v := hval0
  have hW' := hW
  obtain ⟨p, q, hA0, hV, rfl, hfz, hnd⟩ := hW
  have hA : DataW.TrodAll enc Tryd.prog W 0 (fun _ => true) true Tryd.f5.params.toList args.toList ds p := hA0
  rw [Tryd.params5] at hA hval
  obtain ⟨v0, vs0, d0, ds0, p0, q0, hargs, rfl, rfl, h0, r0⟩ := trodAll_cons hA
  obtain ⟨v1, vs1, d1, ds1, p1, q1, rfl, rfl, rfl, h1, r1⟩ := trodAll_cons r0
  obtain ⟨rfl, rfl, rfl⟩ := trodAll_nil r1
  obtain rfl : args = #[v0, v1] := by cases args; simp_all
  obtain ⟨rfl, rfl⟩ := trodVars_none hV
  obtain ⟨a0, rfl, rfl, rfl, w0⟩ := open_int Tryd.underlying3 (hval 0 3 v0 rfl rfl) h0
  obtain ⟨a1, rfl, rfl, rfl, w1⟩ := open_int Tryd.underlying3 (hval 1 3 v1 rfl rfl) h1
  clear hA0 hval0
  simp only [List.append_nil] at hW'
  refine (walk a0 a1 W (tk_of_laid hL) w0 w1).mono fun e W' ⟨he, hg⟩ => ?_
  subst he
  exact ⟨_, rfl, post_of_kept (pa := _) (pv := []) hW' (fun _ _ _ => (trodAll_cons_mk (shut_bool Tryd.underlying4 _) trodAll_mk0)) (trodAll_cons_mk (shut_int Tryd.underlying3 w0) (trodAll_cons_mk (shut_int Tryd.underlying3 w1) trodAll_mk0)) (fun _ _ => rfl) (by simp) hg⟩

theorem over : Rows.modelCountsRow.holds Tryd.pinned (OpenSpec.ofChange Rows.modelCountsSpec) :=
  OpenClaim.holds_of_wide 5 Tryd.f5 rfl rfl rfl rfl rfl rfl rfl ⟨rfl, rfl, rfl, rfl, rfl⟩ rfl rfl rfl rfl rfl (by kernel_rfl) Tryd.func5 (by kernel_rfl)
    (of_decide_eq_true (by kernel_rfl)) (by unfold Func.isWrapper; first | (rw [if_pos (by decide +kernel)]; kernel_rfl) | (rw [if_neg (by decide +kernel)]; exact ⟨rfl, rfl⟩))
    (fun os started H enc _ => lifted os started H enc)

theorem proved : Rows.ModelCountsCardSaid :=
  Claim7.holds_tied_plain_at .later [] [.data] true Rows.modelCountsCard.stood.harness true
    over (fun _ h => by cases h) (by kernel_rfl) (fun _ h => by cases h) modelCounts_row_tie rfl ⟨rfl, rfl⟩ (by kernel_rfl) rfl
    (fun f fn hf hfn => by
      obtain rfl : f = 5 := Option.some.inj ((show Tryd.prog.funcNamed "treadmill/treadmilllaw16.ModelCounts" = some 5 by kernel_rfl).symm.trans hf) |>.symm
      obtain rfl : fn = Tryd.f5 := (Option.some.inj (Tryd.func5.symm.trans hfn)).symm
      exact ⟨by kernel_rfl, fun j t ht => by
        rw [Tryd.params5] at ht
        have hm : t ∈ [3] := by simpa using Array.mem_of_getElem? ht
        have hall : ([3].all fun u => !Tryd.prog.wantsStandIn u) = true := by kernel_rfl
        exact (show Tryd.prog.wantsStandIn t = false by simpa using List.all_eq_true.1 hall t hm)⟩)
    (by kernel_rfl)
#print axioms proved
end Go.Proofs.YtdnajpnnjfncbaaDoor.modelCounts
