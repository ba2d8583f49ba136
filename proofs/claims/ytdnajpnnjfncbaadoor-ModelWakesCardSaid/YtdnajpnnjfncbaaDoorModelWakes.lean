import Derived.Test.YtdnajpnnjfncbaaDoorMB6
import Derived.Test.YtdnajpnnjfncbaaDoorMB4
import Derived.WalkKit
import Derived.ProofKit
import Derived.OpenShut
import Derived.Test.YtdnajpnnjfncbaaDoorTie
import Derived.Test.YtdnajpnnjfncbaaDoorCards
import Derived.LaidMore
import Derived.Stop.Joined
import Derived.SevenTiedAt
import Derived.Deep.RegionHeld3
import Derived.Deep.RegionWith
import Derived.Deep.Cut
import Derived.Deep.CutBlock
import Derived.Deep.CutRange
import Derived.Deep.LoopGhost
import Derived.Deep.DeepCutAuto
import Derived.RegionTactic
import Derived.StillTailTactics
import Derived.Deep.RegionLaw
/- Who waits longest is woken first; a wake where nobody waits is lost; with all waiting it is stuck (16.1): so many goroutines (1 to 20) that wait at one place, so many wakes. No further condition but the listed table. -/
namespace Go.Proofs.YtdnajpnnjfncbaaDoor.modelWakes
open Go.ChangeShapes Go.WideShapes Go.ChangeAt Go.WideElems Go.RowKit Go.Lib Fx Ho Gr Cd
set_option linter.unusedVariables false

theorem own : ownKnob Tryd.prog.godebug = none := by kernel_rfl

set_option maxRecDepth 100000 in
set_option maxHeartbeats 4000000 in
theorem walk (a0 : Int) (a1 : Int) (w : World) (hT : Tk w) (w0 : (Lit.int .i64 a0).wf = true) (w1 : (Lit.int .i64 a1).wf = true) :
    Calls Tryd.prog 7 #[.int .i64 a0, .int .i64 a1] w fun e w' => e = .returned (.bool true) ∧ Below w.heap.size w w' := by
  obtain ⟨Y0, h00⟩ : ∃ Y : Int, IntKind.u64.wrap a0 = Y := ⟨_, rfl⟩
  obtain ⟨Y1, h01⟩ : ∃ Y : Int, IntKind.u64.wrap a1 = Y := ⟨_, rfl⟩
  have p0 : 0 ≤ Y0 := by rw [← h00, IntKind.wrap_u64]; omega
  have p1 : 0 ≤ Y1 := by rw [← h01, IntKind.wrap_u64]; omega
  obtain ⟨k, hk⟩ : ∃ k : Nat, 1 + Y0 % 20 = (k : Int) := ⟨(1 + Y0 % 20).toNat, by omega⟩
  obtain ⟨n, hn⟩ : ∃ k : Nat, Y1 % 25 = (k : Int) := ⟨(Y1 % 25).toNat, by omega⟩
  have k1 : 1 ≤ k := by omega
  have k20 : k ≤ 20 := by omega
  have n24 : n ≤ 24 := by omega
  have hP := Lib.hid (Md.pgW (n := n) k1 k20 n24)
  have hT := Lib.hid hT
  go_enter Tryd.func7, Tryd.ntmps7
  go_upto_region 2 with fail
  try rw [h00]
  try rw [h01]
  try rw [hk]
  try rw [hn]
  clear h00 h01 hk hn
  have st0 : Hid (Md.Pw w w (.slice none 0 0) (Md.lS 0)) := Lib.hid (Md.pw_start w)
  go_wp2_with fail
  go_loopw [7, 8] (fun u7 u wr => ∃ (i : Nat) (s : Option Addr) (c : Nat), u7 = .slice s i c ∧ u = .int .i64 i ∧ i ≤ k ∧ Hid (Md.Pw w wr (.slice s i c) (Md.lS i))) (fun _ u _ => (k - (RowKit.intOf u).toNat))
  case atStart => exact ⟨0, none, 0, rfl, rfl, by omega, st0⟩
  case round =>
    obtain ⟨i, s, c, rfl, rfl, hik, hpw⟩ := hrel
    clear st0
    have i0 : (0 : Int) ≤ (i : Int) := by omega
    by_cases hlt : i < k
    · have i2 : (i : Int) < (k : Int) := by omega
      have hb1 := below_alloc (Below.refl wr.heap.size wr) (.cells #[.int .i64 8, .int .i64 1, .int .i64 0, .int .i64 0] 29)
      have hrow : Hid (GRow 4 (wr.alloc (.cells #[.int .i64 8, .int .i64 1, .int .i64 0, .int .i64 0] 29)) (.slice s i c) i (ca (Md.lS i))) := Lib.hid (by have := hpw.out.row.below hb1; rw [Md.lS_len] at this; exact this)
      have hsrc : Hid (Src Tryd.prog 4 30 (.slice (some ⟨wr.heap.size, 0, none⟩) 1 1) 1 (ca [(8, 1, 0, 0)]) (wr.alloc (.cells #[.int .i64 8, .int .i64 1, .int .i64 0, .int .i64 0] 29))) := Lib.hid (Md.src_lit wr [(8, 1, 0, 0)] (by decide) (by decide))
      have hbd : i + 1 ≤ 1000000 := by omega
      have key : Hid (∀ u8 w8, GRow 4 w8 u8 (i + 1) (ca (Md.lS i) ++ ca [(8, 1, 0, 0)]) → Wrote (fun k => (Value.slice s i c).ownBlock = some k) (wr.alloc (.cells #[.int .i64 8, .int .i64 1, .int .i64 0, .int .i64 0] 29)) (fun k => u8.ownBlock = some k) w8 → ∃ s c, u8 = .slice s (i + 1) c ∧ Hid (Md.Pw w w8 (.slice s (i + 1) c) ((Md.lS i) ++ [(8, 1, 0, 0)]))) := Lib.hid fun u8 w8 g1 g2 => by
        obtain ⟨s8, c8, rfl⟩ := g1.slice
        exact ⟨s8, c8, rfl, Lib.hid (hpw.out.more (l := [(8, 1, 0, 0)]) hb1 (by rw [Md.lS_len]; exact g1) g2)⟩
      clear hpw hb1
      generalize ca (Md.lS i) = XX at *
      go_wp2_with (at_builtin; refine wpList_append_g rfl (.tmp 37) (.tmp 39) rfl rfl eltIns hrow.out rfl rfl hsrc.out hbd ?_; intro u8 w8 g1 g2; have hk := key.out u8 w8 g1 g2; obtain ⟨s9, c9, rfl, hnx⟩ := hk; clear key g1 g2 hrow hsrc)
      go_roundw
      case rel => exact ⟨i + 1, s9, c9, rfl, by go_num, by omega, hnx⟩
      case measure => simp [RowKit.intOf]; omega
    · obtain rfl : i = k := by omega
      have st1 : Hid (Md.Pw w wr (.slice s (i + 0) c) (Md.lW (Md.lS i) 0)) := hpw
      clear hpw
      go_wp2_with fail
      go_loopw [7, 9] (fun u7 u wr => ∃ (j : Nat) (s : Option Addr) (c : Nat), u7 = .slice s (i + j) c ∧ u = .int .i64 j ∧ j ≤ n ∧ Hid (Md.Pw w wr (.slice s (i + j) c) (Md.lW (Md.lS i) j))) (fun _ u _ => (n - (RowKit.intOf u).toNat))
      case atStart => exact ⟨0, s, c, rfl, rfl, by omega, st1⟩
      case round =>
        obtain ⟨j, s, c, rfl, rfl, hjn, hpw⟩ := hrel
        clear st1
        have j0 : (0 : Int) ≤ (j : Int) := by omega
        by_cases hlt2 : j < n
        · have j2 : (j : Int) < (n : Int) := by omega
          have hb1 := below_alloc (Below.refl wr.heap.size wr) (.cells #[.int .i64 12, .int .i64 3, .int .i64 0, .int .i64 0] 29)
          have hrow : Hid (GRow 4 (wr.alloc (.cells #[.int .i64 12, .int .i64 3, .int .i64 0, .int .i64 0] 29)) (.slice s (i + j) c) (i + j) (ca (Md.lW (Md.lS i) j))) := Lib.hid (by have := hpw.out.row.below hb1; rw [Md.lW_len] at this; exact this)
          have hsrc : Hid (Src Tryd.prog 4 30 (.slice (some ⟨wr.heap.size, 0, none⟩) 1 1) 1 (ca [(12, 3, 0, 0)]) (wr.alloc (.cells #[.int .i64 12, .int .i64 3, .int .i64 0, .int .i64 0] 29))) := Lib.hid (Md.src_lit wr [(12, 3, 0, 0)] (by decide) (by decide))
          have hbd : (i + j) + 1 ≤ 1000000 := by omega
          have key : Hid (∀ u8 w8, GRow 4 w8 u8 ((i + j) + 1) (ca (Md.lW (Md.lS i) j) ++ ca [(12, 3, 0, 0)]) → Wrote (fun k => (Value.slice s (i + j) c).ownBlock = some k) (wr.alloc (.cells #[.int .i64 12, .int .i64 3, .int .i64 0, .int .i64 0] 29)) (fun k => u8.ownBlock = some k) w8 → ∃ s c, u8 = .slice s ((i + j) + 1) c ∧ Hid (Md.Pw w w8 (.slice s ((i + j) + 1) c) ((Md.lW (Md.lS i) j) ++ [(12, 3, 0, 0)]))) := Lib.hid fun u8 w8 g1 g2 => by
            obtain ⟨s8, c8, rfl⟩ := g1.slice
            exact ⟨s8, c8, rfl, Lib.hid (hpw.out.more (l := [(12, 3, 0, 0)]) hb1 (by rw [Md.lW_len]; exact g1) g2)⟩
          clear hpw hb1
          generalize ca (Md.lW (Md.lS i) j) = XX at *
          go_wp2_with (at_builtin; refine wpList_append_g rfl (.tmp 46) (.tmp 48) rfl rfl eltIns hrow.out rfl rfl hsrc.out hbd ?_; intro u8 w8 g1 g2; have hk := key.out u8 w8 g1 g2; obtain ⟨s9, c9, rfl, hnx⟩ := hk; clear key g1 g2 hrow hsrc)
          go_roundw
          case rel => exact ⟨j + 1, s9, c9, rfl, by go_num, by omega, hnx⟩
          case measure => simp [RowKit.intOf]; omega
        · obtain rfl : j = n := by omega
          have hb1 := below_alloc (Below.refl wr.heap.size wr) (.cells #[.int .i64 11, .int .i64 3, .int .i64 0, .int .i64 0] 29)
          have hrow : Hid (GRow 4 (wr.alloc (.cells #[.int .i64 11, .int .i64 3, .int .i64 0, .int .i64 0] 29)) (.slice s (i + j) c) (i + j) (ca (Md.lW (Md.lS i) j))) := Lib.hid (by have := hpw.out.row.below hb1; rw [Md.lW_len] at this; exact this)
          have hsrc : Hid (Src Tryd.prog 4 30 (.slice (some ⟨wr.heap.size, 0, none⟩) 1 1) 1 (ca Md.lB) (wr.alloc (.cells #[.int .i64 11, .int .i64 3, .int .i64 0, .int .i64 0] 29))) := Lib.hid (Md.src_lit wr Md.lB (by decide) (by decide))
          have hbd : (i + j) + 1 ≤ 1000000 := by omega
          have key : Hid (∀ u8 w8, GRow 4 w8 u8 ((i + j) + 1) (ca (Md.lW (Md.lS i) j) ++ ca Md.lB) → Wrote (fun k => (Value.slice s (i + j) c).ownBlock = some k) (wr.alloc (.cells #[.int .i64 11, .int .i64 3, .int .i64 0, .int .i64 0] 29)) (fun k => u8.ownBlock = some k) w8 → ∃ s c, u8 = .slice s ((i + j) + 1) c ∧ Hid (Md.Pw w w8 (.slice s ((i + j) + 1) c) ((Md.lW (Md.lS i) j) ++ Md.lB))) := Lib.hid fun u8 w8 g1 g2 => by
            obtain ⟨s8, c8, rfl⟩ := g1.slice
            exact ⟨s8, c8, rfl, Lib.hid (hpw.out.more (l := Md.lB) hb1 (by rw [Md.lW_len]; exact g1) g2)⟩
          clear hpw hb1
          generalize ca (Md.lW (Md.lS i) j) = XX at *
          go_wp2_with (at_builtin; refine wpList_append_g rfl (.tmp 50) (.tmp 52) rfl rfl eltIns hrow.out rfl rfl hsrc.out hbd ?_; intro u8 w8 g1 g2; have hk := key.out u8 w8 g1 g2; obtain ⟨s9, c9, rfl, hnx⟩ := hk; clear key g1 g2 hrow hsrc)
          obtain ⟨hF, hbU⟩ := hnx.out.prog2 Md.lB 1 rfl (by decide)
          have cb := Md.ms_build (G := 0) (hT.out.below hbU) (fs := Md.fsW i j) hF (Md.may_of hP.out)
          obtain ⟨U, hU⟩ : ∃ U, (w8.alloc (.cells #[.int .i64 11, .int .i64 3, .int .i64 0, .int .i64 0] 29)).alloc (.cells #[.slice s9 (i + j + 1) c9, .slice (some ⟨w8.heap.size, 0, none⟩) 1 1] 30) = U := ⟨_, rfl⟩
          have hU' : (w8.alloc (.cells (ca Md.lB).toArray 29)).alloc (.cells #[.slice s9 (i + j + 1) c9, .slice (some ⟨w8.heap.size, 0, none⟩) 1 1] 30) = U := hU
          rw [hU'] at cb hbU
          try rw [hU]
          replace hbU := Lib.hid hbU
          clear hnx hF hU hU'
          with_reducible refine Calls.mono cb ?_
          rintro e w2 ⟨p, rfl, hm⟩
          clear cb
          rw [Md.mW0] at hm
          have hm : Hid (Md.Ms U w2 0 (Md.fsW i j) p (Md.mW 0 (List.replicate 0 (Md.gW 1)) 1 (List.replicate 0 3) (Md.nums 0 0)) (2 * 0) (fun k => k ∈ [])) := Lib.hid hm
          go_wp2_with fail
          go_loopw [11] (fun u wr => ∃ r : Nat, u = .int .i64 r ∧ r ≤ i ∧ Hid (Md.Ms U wr 0 (Md.fsW i j) p (Md.mW r (List.replicate r (Md.gW 1)) 1 (List.replicate r 3) (Md.nums 0 r)) (2 * r) (fun k => k ∈ []))) (fun u _ => (i - (RowKit.intOf u).toNat))
          case atStart => exact ⟨0, rfl, by omega, hm⟩
          case round =>
            obtain ⟨r, rfl, hri, hmr⟩ := hrel
            clear hm
            have r0 : (0 : Int) ≤ (r : Int) := by omega
            by_cases hlt3 : r < i
            · have r2 : (r : Int) < (i : Int) := by omega
              obtain ⟨e1, hc⟩ := Md.stW1 (n := j) hlt3 k20
              have cd := Md.ms_step (g := 0) hmr.out hP.out (by omega) (by show (List.replicate r (Md.gW 1)).length + 1 < 1000; rw [List.length_replicate]; omega) (by show 0 < (List.replicate r (Md.gW 1)).length + 1; omega) rfl
              rw [hc, e1] at cd
              unfold Md.comV at cd
              rw [show ((r + 1 : Nat) : Int) = (r : Int) + 1 by omega] at cd
              clear hmr e1 hc
              go_wp2_with fail
              with_reducible refine Calls.mono cd ?_
              rintro e w5 ⟨rfl, hm5, -⟩
              clear cd
              go_upto_region 18 with fail
              obtain ⟨hm6, kc, -⟩ := hm5.var #[.int .i64 0, .int .i64 0, .int .i64 r, .int .i64 8, .int .i64 ((r : Int) + 1), .bool false] 24
              have d4 := cell_of kc (j := 4) rfl
              obtain ⟨W6, hW6⟩ : ∃ W, w5.alloc (.cells #[.int .i64 0, .int .i64 0, .int .i64 r, .int .i64 8, .int .i64 ((r : Int) + 1), .bool false] 24) = W := ⟨_, rfl⟩
              rw [hW6] at hm6 d4
              try rw [hW6]
              obtain ⟨Nc, hNc⟩ : ∃ N, w5.heap.size = N := ⟨_, rfl⟩
              rw [hNc] at d4 hm6
              try rw [hNc]
              have hm7 := hm6.sub (F' := fun k => k ∈ []) (fun k hk => by cases hk)
              have cd2 := Md.ms_step (g := r + 1) hm7 hP.out (by omega) (by show (List.replicate r (Md.gW 1) ++ [Md.gW 0]).length + 1 < 1000; rw [List.length_append, List.length_replicate]; show r + 1 + 1 < 1000; omega) (by show r + 1 < (List.replicate r (Md.gW 1) ++ [Md.gW 0]).length + 1; rw [List.length_append, List.length_replicate]; show r + 1 < r + 1 + 1; omega) (by show (List.replicate r (3 : Int) ++ [1]).getD r 0 = 1; exact Md.rep_get r [])
              rw [Md.stW2] at cd2
              obtain ⟨gq, fq, pq, oq, vq, bq, hcq⟩ : ∃ g f pc op v b, Md.comM (Md.fsW i j) (Md.mW (r + 1) (List.replicate r (Md.gW 1) ++ [Md.gW 0]) 1 (List.replicate r 3 ++ [1]) (Md.nums 0 r)) (r + 1) = .agg #[.int .i64 g, .int .i64 f, .int .i64 pc, .int .i64 op, .int .i64 v, .bool b] := ⟨_, _, _, _, _, _, rfl⟩
              rw [hcq] at cd2
              have e7 : IntKind.i64.wrap ((r : Int) + 1) = (r : Int) + 1 := by rw [IntKind.wrap_i64]; omega
              rw [show ((r + 1 : Nat) : Int) = (r : Int) + 1 by omega] at cd2
              have cd2 := Lib.hid cd2
              clear hW6 hNc hm5 hm6 kc hm7 hcq
              go_wp2_with fail
              with_reducible refine Calls.mono cd2.out ?_
              rintro e w8 ⟨rfl, hm8, -⟩
              have hnx : Hid (Md.Ms U (w8.alloc (.cells #[.int .i64 gq, .int .i64 fq, .int .i64 pq, .int .i64 oq, .int .i64 vq, .bool bq] 24)) 0 (Md.fsW i j) p (Md.mW (r + 1) (List.replicate (r + 1) (Md.gW 1)) 1 (List.replicate (r + 1) 3) (Md.nums 0 (r + 1))) (2 * (r + 1)) (fun k => k ∈ [])) := Lib.hid (hm8.below (below_alloc (Below.refl _ _) _))
              clear cd2 hm8 d4
              go_wp2_with fail
              go_roundw
              case rel => exact ⟨r + 1, by go_num, by omega, hnx⟩
              case measure => simp [RowKit.intOf]; omega
            · obtain rfl : r = i := by omega
              rw [Md.mB0] at hmr
              have st3 : Hid (Md.Ms U wr 0 (Md.fsW r j) p (Md.mB r 0) (2 * r + 0) (fun k => k ∈ [])) := hmr
              clear hmr
              go_wp2_with fail
              go_loopw [16] (fun u wr => ∃ t : Nat, u = .int .i64 t ∧ t ≤ j ∧ Hid (Md.Ms U wr 0 (Md.fsW r j) p (Md.mB r t) (2 * r + t) (fun k => k ∈ []))) (fun u _ => (j - (RowKit.intOf u).toNat))
              case atStart => exact ⟨0, rfl, by omega, st3⟩
              case round =>
                obtain ⟨t, rfl, htj, hmt⟩ := hrel
                clear st3
                have t0 : (0 : Int) ≤ (t : Int) := by omega
                by_cases hlt4 : t < j
                · have t2 : (t : Int) < (j : Int) := by omega
                  obtain ⟨e1, hc⟩ := Md.mB_step (k := r) hlt4
                  have cd := Md.ms_step (g := 0) hmt.out hP.out (by omega) (by rw [Md.mB_len]; omega) (by rw [Md.mB_len]; omega) rfl
                  rw [hc, e1] at cd
                  unfold Md.comV at cd
                  rw [show ((r + t : Nat) : Int) = (r : Int) + (t : Int) by omega] at cd
                  have e9 : IntKind.i64.wrap ((t : Int) + 1) = (t : Int) + 1 := by rw [IntKind.wrap_i64]; omega
                  by_cases htr : t < r
                  · rw [if_pos htr] at cd
                    have e8 : ((t + 1 : Nat) : Int) = (t : Int) + 1 := by omega
                    rw [e8] at cd
                    have t3 : (t : Int) < (r : Int) := by omega
                    have hst := (Md.mB_st (k := r) htr)
                    clear hmt e1 hc e8
                    go_wp2_with fail
                    with_reducible refine Calls.mono cd ?_
                    rintro e w5 ⟨rfl, hm5, -⟩
                    clear cd
                    go_upto_region 27 with fail
                    obtain ⟨hm6, kc, -⟩ := hm5.var #[.int .i64 0, .int .i64 0, .int .i64 ((r : Int) + (t : Int)), .int .i64 12, .int .i64 ((t : Int) + 1), .bool false] 24
                    have d4 := cell_of kc (j := 4) rfl
                    obtain ⟨W6, hW6⟩ : ∃ W, w5.alloc (.cells #[.int .i64 0, .int .i64 0, .int .i64 ((r : Int) + (t : Int)), .int .i64 12, .int .i64 ((t : Int) + 1), .bool false] 24) = W := ⟨_, rfl⟩
                    rw [hW6] at hm6 d4
                    try rw [hW6]
                    obtain ⟨Nc, hNc⟩ : ∃ N, w5.heap.size = N := ⟨_, rfl⟩
                    rw [hNc] at d4 hm6
                    try rw [hNc]
                    have hm7 := hm6.sub (F' := fun k => k ∈ []) (fun k hk => by cases hk)
                    have cs := Md.ms_state hm7 ((t : Int) + 1)
                    have hx : Md.stX (Md.mB r (t + 1)) ((t : Int) + 1) = 1 := by
                      unfold Md.stX
                      have e6 : ((t : Int) + 1).toNat = t + 1 := by omega
                      have e7 : (Md.mB r (t + 1)).st.length = r + 1 := by
                        have := hm7.inv.len
                        rw [Md.mB_len] at this
                        exact this
                      rw [if_pos (by omega), e6]
                      exact hst.1
                    rw [hx] at cs
                    have hnx := Lib.hid hm7
                    clear hW6 hNc hm5 hm6 kc hm7 hst hx
                    go_wp2_with fail
                    with_reducible refine Calls.mono cs ?_
                    rintro e w7 ⟨rfl, rfl⟩
                    clear cs d4
                    go_wp2_with fail
                    go_roundw
                    case rel => exact ⟨t + 1, by go_num, by omega, hnx⟩
                    case measure => simp [RowKit.intOf]; omega
                  · rw [if_neg htr] at cd
                    have t3 : ¬ (t : Int) < (r : Int) := by omega
                    clear hmt e1 hc
                    go_wp2_with fail
                    with_reducible refine Calls.mono cd ?_
                    rintro e w5 ⟨rfl, hm5, -⟩
                    clear cd
                    go_upto_region 27 with fail
                    obtain ⟨hm6, kc, -⟩ := hm5.var #[.int .i64 0, .int .i64 0, .int .i64 ((r : Int) + (t : Int)), .int .i64 12, .int .i64 (-1), .bool false] 24
                    have d4 := cell_of kc (j := 4) rfl
                    obtain ⟨W6, hW6⟩ : ∃ W, w5.alloc (.cells #[.int .i64 0, .int .i64 0, .int .i64 ((r : Int) + (t : Int)), .int .i64 12, .int .i64 (-1), .bool false] 24) = W := ⟨_, rfl⟩
                    rw [hW6] at hm6 d4
                    try rw [hW6]
                    obtain ⟨Nc, hNc⟩ : ∃ N, w5.heap.size = N := ⟨_, rfl⟩
                    rw [hNc] at d4 hm6
                    try rw [hNc]
                    have hnx := Lib.hid (hm6.sub (F' := fun k => k ∈ []) (fun k hk => by cases hk))
                    clear hW6 hNc hm5 hm6 kc
                    go_wp2_with fail
                    go_roundw
                    case rel => exact ⟨t + 1, by go_num, by omega, hnx⟩
                    case measure => simp [RowKit.intOf]; omega
                · obtain rfl : t = j := by omega
                  have cd := Md.ms_step (g := 0) hmt.out hP.out (by omega) (by rw [Md.mB_len]; omega) (by rw [Md.mB_len]; omega) rfl
                  rw [Md.mD_first] at cd
                  obtain ⟨gq, fq, pq, oq, vq, bq, hcq⟩ : ∃ g f pc op v b, Md.comM (Md.fsW r t) (Md.mB r t) 0 = .agg #[.int .i64 g, .int .i64 f, .int .i64 pc, .int .i64 op, .int .i64 v, .bool b] := ⟨_, _, _, _, _, _, rfl⟩
                  rw [hcq] at cd
                  clear hmt hcq
                  go_wp2_with fail
                  with_reducible refine Calls.mono cd ?_
                  rintro e w8 ⟨rfl, hm8, -⟩
                  have st5 : Hid (Md.Ms U (w8.alloc (.cells #[.int .i64 gq, .int .i64 fq, .int .i64 pq, .int .i64 oq, .int .i64 vq, .bool bq] 24)) 0 (Md.fsW r t) p (Md.mD r t 0) (2 * r + t + 1 + 0) (fun k => k ∈ [])) := Lib.hid (hm8.below (below_alloc (Below.refl _ _) _))
                  clear cd hm8
                  obtain ⟨m, hmin⟩ : ∃ m : Nat, min (t : Int) (r : Int) = (m : Int) := ⟨min t r, by omega⟩
                  have hmn : min t r = m := by omega
                  replace hmn := Lib.hid hmn
                  have m20 : m ≤ r := by have := hmn.out; omega
                  go_wp2_with fail
                  go_loopw [22] (fun u wr => ∃ x : Nat, u = .int .i64 ((x + 1 : Nat) : Int) ∧ x ≤ m ∧ Hid (Md.Ms U wr 0 (Md.fsW r t) p (Md.mD r t x) (2 * r + t + 1 + x) (fun k => k ∈ []))) (fun u _ => (m + 1 - (RowKit.intOf u).toNat))
                  case atStart => exact ⟨0, rfl, by omega, st5⟩
                  case round =>
                    obtain ⟨x, rfl, hxm, hmx⟩ := hrel
                    clear st5
                    by_cases hlt5 : x < m
                    · obtain ⟨f1, f2, f3⟩ := Md.mD_step (k := r) (n := t) (g := x) (by rw [hmn.out]; exact hlt5)
                      have cd := Md.ms_step (g := x + 1) hmx.out hP.out (by omega) (by rw [Md.mD_len (by omega)]; omega) f3 f2
                      rw [f1] at cd
                      clear hmx f1 f2 f3
                      obtain ⟨y, hy⟩ : ∃ y : Int, ((x + 1 : Nat) : Int) = y := ⟨_, rfl⟩
                      rw [hy] at cd ⊢
                      have y1 : y ≤ (m : Int) := by omega
                      have y0 : 0 ≤ y := by omega
                      have y2 : y ≤ 20 := by omega
                      replace hy := Lib.hid hy
                      go_wp2_with fail
                      with_reducible refine Calls.mono cd ?_
                      rintro e w9 ⟨rfl, hm9, -⟩
                      have hnx : Hid (Md.Ms U w9 0 (Md.fsW r t) p (Md.mD r t (x + 1)) (2 * r + t + 1 + (x + 1)) (fun k => k ∈ [])) := Lib.hid hm9
                      clear cd hm9
                      go_wp2_with fail
                      go_roundw
                      case rel => exact ⟨x + 1, by have := hy.out; rw [show y + 1 = ((x + 1 + 1 : Nat) : Int) by omega], by omega, hnx⟩
                      case measure => have := hy.out; simp [RowKit.intOf]; omega
                    · obtain rfl : x = m := by omega
                      have hmd := hmx.out
                      have e6 := hmn.out
                      obtain ⟨q1, q2, q3⟩ := Md.mD_stuck (k := r) (n := t)
                      rw [e6] at q1 q2 q3
                      have hbr := Lib.hid (hbU.out.trans (hmd.bel.mono hbU.out.size))
                      have ct := Md.told_any (hT.out.below hbr.out)
                      have cs : Hid (∀ V, Below wr.heap.size wr V → Calls Tryd.prog 19 #[.pointer (some ⟨p, 0, none⟩)] V (Still (.bool true) V)) := Lib.hid fun V hV => by
                        have := Md.ms_stuck (hmd.below hV)
                        rw [q1, q2, decide_eq_true q3] at this
                        exact this
                      clear hmx hmd q1 q2 q3 e6
                      have x1 : ¬ ((x + 1 : Nat) : Int) ≤ (x : Int) := by omega
                      go_wp2_with fail
                      with_reducible refine Calls.mono ct ?_
                      rintro e wz ⟨rfl, hbz⟩
                      have cs' := cs.out wz hbz
                      have hfin := Lib.hid (hbr.out.trans (hbz.mono hbr.out.size))
                      clear ct hbz hbr cs
                      go_wp2_with fail
                      with_reducible refine Calls.mono cs' ?_
                      rintro e w11 ⟨rfl, rfl⟩
                      go_wp2_with fail
                      go_ret
                      exact ⟨rfl, hfin.out⟩

set_option maxRecDepth 100000 in
theorem lifted (os : Os) (started : os.Started) (H : Type) (enc : TypeId × Value → H) :
    ReturnsInHanded {} Tryd.checked os 7 .any (fun w args => (Rows.modelWakesSpec.pre enc Tryd.prog Tryd.f7 [] false w args ∧ laidMetH Tryd.prog [("treadmill/code.takes", Rows.laid_treadmill_code_takes)] w) ∧ sizedMet enc Tryd.prog Tryd.f7 (OpenSpec.ofChange Rows.modelWakesSpec) false w args) (Rows.modelWakesSpec.post enc Tryd.prog Tryd.f7 false true false false) := by
  refine returnsInHanded_of_change_and (C := Tryd.checked) (X := fun w _ => laidMetH Tryd.prog [("treadmill/code.takes", Rows.laid_treadmill_code_takes)] w) (fun _ _ _ hh h => h.of_heap hh) own started (by kernel_rfl) Tryd.func7
    (ChangeSpec.witness_shaped (enc := enc) (C := Tryd.checked) (os := os) (X := fun w _ => laidMetH Tryd.prog [("treadmill/code.takes", Rows.laid_treadmill_code_takes)] w) false (World.doorLaid Tryd.prog 400 os) #[.int .i64 0, .int .i64 0] 8 rfl (World.shaped_of_RefB (by kernel_rfl) (by kernel_rfl)) (by kernel_rfl) (by kernel_rfl) (by kernel_rfl) (door_met os _)) ?_
  intro W base args ds gs before hval0 hW _ _ hL _
  have hval : ∀ (j : Nat) t v, Tryd.f7.params[j]? = some t → args[j]? = some v → Value.okWide Tryd.prog W .any base t v := hval0
  have hW' := hW
  obtain ⟨p, q, hA0, hV, rfl, hfz, hnd⟩ := hW
  have hA : DataW.TrodAll enc Tryd.prog W 0 (fun _ => true) true Tryd.f7.params.toList args.toList ds p := hA0
  rw [Tryd.params7] at hA hval
  obtain ⟨v0, vs0, d0, ds0, p0, q0, hargs, rfl, rfl, h0, r0⟩ := trodAll_cons hA
  obtain ⟨v1, vs1, d1, ds1, p1, q1, rfl, rfl, rfl, h1, r1⟩ := trodAll_cons r0
  obtain ⟨rfl, rfl, rfl⟩ := trodAll_nil r1
  obtain rfl : args = #[v0, v1] := by cases args; simp_all
  obtain ⟨rfl, rfl⟩ := trodVars_none hV
  obtain ⟨a0, rfl, rfl, rfl, w0⟩ := open_int Tryd.underlying3 (hval 0 3 v0 rfl rfl) h0
  obtain ⟨a1, rfl, rfl, rfl, w1⟩ := open_int Tryd.underlying3 (hval 1 3 v1 rfl rfl) h1
  clear hA0 hval0
  simp only [List.append_nil] at hW'
  refine (walk a0 a1 W (tk_of_laid hL) w0 w1).mono fun e W' ⟨he, hg⟩ => ?_
  subst he
  exact ⟨_, rfl, post_of_kept (pa := _) (pv := []) hW' (fun _ _ _ => (trodAll_cons_mk (shut_bool Tryd.underlying4 _) trodAll_mk0)) (trodAll_cons_mk (shut_int Tryd.underlying3 w0) (trodAll_cons_mk (shut_int Tryd.underlying3 w1) trodAll_mk0)) (fun _ _ => rfl) (by simp) hg⟩

theorem over : Rows.modelWakesRow.holds Tryd.pinned (OpenSpec.ofChange Rows.modelWakesSpec) :=
  OpenClaim.holds_of_wide 7 Tryd.f7 rfl rfl rfl rfl rfl rfl rfl ⟨rfl, rfl, rfl, rfl, rfl⟩ rfl rfl rfl rfl rfl (by kernel_rfl) Tryd.func7 (by kernel_rfl)
    (of_decide_eq_true (by kernel_rfl)) (by unfold Func.isWrapper; first | (rw [if_pos (by decide +kernel)]; kernel_rfl) | (rw [if_neg (by decide +kernel)]; exact ⟨rfl, rfl⟩))
    (fun os started H enc _ => lifted os started H enc)

theorem proved : Rows.ModelWakesCardSaid :=
  Claim7.holds_tied_plain_at .later [] [.data] true Rows.modelWakesCard.stood.harness true
    over (fun _ h => by cases h) (by kernel_rfl) (fun _ h => by cases h) modelWakes_row_tie rfl ⟨rfl, rfl⟩ (by kernel_rfl) rfl
    (fun f fn hf hfn => by
      obtain rfl : f = 7 := Option.some.inj ((show Tryd.prog.funcNamed "treadmill/treadmilllaw16.ModelWakes" = some 7 by kernel_rfl).symm.trans hf) |>.symm
      obtain rfl : fn = Tryd.f7 := (Option.some.inj (Tryd.func7.symm.trans hfn)).symm
      exact ⟨by kernel_rfl, fun j t ht => by
        rw [Tryd.params7] at ht
        have hm : t ∈ [3] := by simpa using Array.mem_of_getElem? ht
        have hall : ([3].all fun u => !Tryd.prog.wantsStandIn u) = true := by kernel_rfl
        exact (show Tryd.prog.wantsStandIn t = false by simpa using List.all_eq_true.1 hall t hm)⟩)
    (by kernel_rfl)
#print axioms proved
end Go.Proofs.YtdnajpnnjfncbaaDoor.modelWakes
