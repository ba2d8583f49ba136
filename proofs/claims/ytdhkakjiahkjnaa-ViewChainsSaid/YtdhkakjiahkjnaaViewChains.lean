/- treadmilllaw29.ViewChains. -/
import Derived.Test.YtdhkakjiahkjnaaHome
import Derived.Test.YtdhkakjiahkjnaaVwChs
import Derived.WalkKit
import Derived.ProofKit
import Derived.OpenShut
import Derived.Deep.RegionHeld3
import Derived.Deep.RegionWith
import Derived.Deep.Cut
import Derived.Deep.CutBlock
import Derived.Deep.CutRange
import Derived.Deep.LoopGhost
import Derived.Deep.DeepCutAuto
import Derived.RegionTactic
import Derived.StillTailTactics
namespace Go.Proofs.Ytdhkakjiahkjnaa.viewChains
open Go.ChangeShapes Go.WideShapes Go.ChangeAt Go.WideElems Go.RowKit Go.Lib Fx Ho Vw Gr
set_option linter.unusedVariables false

theorem own : ownKnob Try.prog.godebug = none := by kernel_rfl

set_option linter.unusedSimpArgs false
set_option maxRecDepth 100000 in
set_option maxHeartbeats 4000000 in
theorem walk (a0 : Int) (a1 : Int) (a2 : Bool) (w : World) (w0 : (Lit.int .i64 a0).wf = true) (w1 : (Lit.int .i64 a1).wf = true) :
    Calls Try.prog 5 #[.int .i64 a0, .int .i64 a1, .bool a2] w fun e w' => e = .returned (.bool true) ∧ Below w.heap.size w w' := by
  have ct := fun w => told_any w
  obtain ⟨Y, hY⟩ : ∃ Y : Int, IntKind.u64.wrap a0 = Y := ⟨_, rfl⟩
  have Y0 : 0 ≤ Y := by rw [← hY, IntKind.wrap_u64]; omega
  obtain ⟨k, hk⟩ : ∃ k : Nat, 2 + Y % 39 = (k : Int) := ⟨(2 + Y % 39).toNat, by omega⟩
  have k2 : 2 ≤ k := by omega
  have k40 : k ≤ 40 := by omega
  obtain ⟨Z, hZ⟩ : ∃ Z : Int, IntKind.u64.wrap a1 = Z := ⟨_, rfl⟩
  have Z0 : 0 ≤ Z := by rw [← hZ, IntKind.wrap_u64]; omega
  have kz : (k : Int) + 5 ≠ 0 := by omega
  obtain ⟨c, hc⟩ : ∃ c : Nat, 1 + Z % ((k : Int) + 5) = (c : Int) := ⟨(1 + Z % ((k : Int) + 5)).toNat, by have := Int.emod_nonneg Z kz; omega⟩
  have c1 : 1 ≤ c := by have := Int.emod_nonneg Z kz; omega
  have c45 : c ≤ 45 := by have := Int.emod_lt_of_pos Z (show (0 : Int) < (k : Int) + 5 by omega); omega
  go_enter Try.func5, Try.ntmps5
  go_upto_region 4 with fail
  obtain ⟨U0, hU0, hs0⟩ := Lp.start w k c
  rw [hU0]
  obtain ⟨q, hq⟩ : ∃ q, w.heap.size + 1 = q := ⟨_, rfl⟩
  obtain ⟨vg, hvg⟩ : ∃ vg : Value, (.slice (some ⟨w.heap.size, 0, none⟩) 1 1) = vg := ⟨_, rfl⟩
  rw [hq, hvg] at hs0
  try rw [hq]
  clear hU0 hq hvg
  replace hs0 := Lib.hid hs0
  have kk0 : (0 : Int) ≤ (k : Int) := by omega
  have cc0 : (0 : Int) ≤ (c : Int) := by omega
  go_wp2_with fail
  go_loopw [10, 11] (fun u10 u11 wr => ∃ i : Nat, u10 = .int .i64 i ∧ i ≤ k ∧ Hid (∃ vo xs, Lp w wr q vg vo k c [64] i xs)) (fun u10 _ _ => (k - (RowKit.intOf u10).toNat))
  case atStart => exact ⟨0, rfl, by omega, Lib.hid ⟨_, _, hs0.out⟩⟩
  case round =>
    clear hs0
    obtain ⟨i, rfl, j1, hpa⟩ := hrel
    obtain ⟨vo, xs, hp⟩ := hpa.out
    clear hpa
    have ii0 : (0 : Int) ≤ (i : Int) := by omega
    by_cases hi : i < k
    · have i2 : (i : Int) < (k : Int) := by omega
      obtain ⟨U, hU, u1, u2, u3, hz, hs⟩ := hp.new
      obtain ⟨M, hM⟩ : ∃ M, wr.heap.size = M := ⟨_, rfl⟩
      obtain ⟨O, hO⟩ : ∃ O, M + 1 = O := ⟨_, rfl⟩
      rw [hM, hO] at hz hs u3
      rw [hM] at u1 u2 hU
      replace hz := Lib.hid hz
      replace hs := Lib.hid hs
      replace hU := Lib.hid hU
      go_upto_region 8 with fail
      try rw [hM]
      rw [hU.out]
      try rw [hO]
      clear hU hM hO
      by_cases ha : i + 1 < k
      · have i3 : (i : Int) + 1 < (k : Int) := by omega
        by_cases hb : i + 1 = c
        · have i4 : (((i : Int) + 1) == (c : Int)) = true := by simp; omega
          have hst : Hid (∃ X, X = U ∧ Lq w X q vg vo k c [64] i xs M O) := Lib.hid ⟨_, rfl, hz.out (by unfold vC; rw [if_neg (by omega)])⟩
          clear hz hs hp
          try replace hb := Lib.hid hb
          go_upto_region 10 with fail
          obtain ⟨X, hX, hlq⟩ := hst.out
          rw [← hX]
          clear hst hX u1 u2 u3
          have cl := hlq.lp.cell
          have o0 := cell_of (j := 0) hlq.o rfl
          have o1 := cell_of (j := 1) hlq.o rfl
          have o2 := cell_of (j := 2) hlq.o rfl
          have q5 := cl.2.2.2.2.2.1
          have hrow := Lib.hid hlq.lp.row
          have hbd : i + 1 ≤ 1000000 := by omega
          have key : Hid (∀ v9 w9, GRow 3 w9 v9 (i + 1) (xs ++ [.int .i64 (64 + (i : Int)), .slice (some ⟨M, 0, none⟩) 1 1, .bool false]) → Wrote (fun r => vo.ownBlock = some r) (X.alloc (.cells #[.int .i64 (64 + (i : Int)), .slice (some ⟨M, 0, none⟩) 1 1, .bool false] 29)) (fun r => v9.ownBlock = some r) w9 → (∃ s c, v9 = .slice s (i + 1) c) ∧ w9.cell? ⟨q, 5, none⟩ = some vo ∧ w9.frozen? ⟨q, 5, none⟩ = false ∧ Hid (∃ vo xs, Lp w (w9.setCell ⟨q, 5, none⟩ v9) q vg vo k c [64] (i + 1) xs)) := Lib.hid fun v9 w9 g1 g2 => by
            obtain ⟨a1, a2, a3⟩ := hlq.next g1 g2
            exact ⟨g1.slice, a1, a2, Lib.hid ⟨_, _, a3⟩⟩
          clear cl hlq
          go_wp2_with (at_builtin; refine wpList_append_g rfl (.tmp 58) (.tmp 60) rfl rfl eltO (hrow.out.below (below_alloc (Below.refl _ _) _)) rfl rfl (src_obj X (64 + (i : Int)) M false) hbd ?_; intro v9 w9 g1 g2; obtain ⟨⟨s9, p9, rfl⟩, c9, f9, hnx⟩ := key.out v9 w9 g1 g2; clear g1 g2 key hrow hbd)
          go_roundw
          case rel => exact ⟨i + 1, by go_num, by omega, hnx⟩
          case measure => simp [RowKit.intOf]; omega
        · have i4 : (((i : Int) + 1) == (c : Int)) = false := by simp; omega
          have hst : Hid (∃ X, X = U.setCell ⟨M, 0, none⟩ (.int .i64 (65 + (i : Int))) ∧ Lq w X q vg vo k c [64] i xs M O) := Lib.hid ⟨_, rfl, hs.out (by unfold vC; rw [if_pos ⟨ha, hb⟩])⟩
          clear hz hs hp
          try replace hb := Lib.hid hb
          go_upto_region 10 with fail
          obtain ⟨X, hX, hlq⟩ := hst.out
          rw [← hX]
          clear hst hX u1 u2 u3
          have cl := hlq.lp.cell
          have o0 := cell_of (j := 0) hlq.o rfl
          have o1 := cell_of (j := 1) hlq.o rfl
          have o2 := cell_of (j := 2) hlq.o rfl
          have q5 := cl.2.2.2.2.2.1
          have hrow := Lib.hid hlq.lp.row
          have hbd : i + 1 ≤ 1000000 := by omega
          have key : Hid (∀ v9 w9, GRow 3 w9 v9 (i + 1) (xs ++ [.int .i64 (64 + (i : Int)), .slice (some ⟨M, 0, none⟩) 1 1, .bool false]) → Wrote (fun r => vo.ownBlock = some r) (X.alloc (.cells #[.int .i64 (64 + (i : Int)), .slice (some ⟨M, 0, none⟩) 1 1, .bool false] 29)) (fun r => v9.ownBlock = some r) w9 → (∃ s c, v9 = .slice s (i + 1) c) ∧ w9.cell? ⟨q, 5, none⟩ = some vo ∧ w9.frozen? ⟨q, 5, none⟩ = false ∧ Hid (∃ vo xs, Lp w (w9.setCell ⟨q, 5, none⟩ v9) q vg vo k c [64] (i + 1) xs)) := Lib.hid fun v9 w9 g1 g2 => by
            obtain ⟨a1, a2, a3⟩ := hlq.next g1 g2
            exact ⟨g1.slice, a1, a2, Lib.hid ⟨_, _, a3⟩⟩
          clear cl hlq
          go_wp2_with (at_builtin; refine wpList_append_g rfl (.tmp 58) (.tmp 60) rfl rfl eltO (hrow.out.below (below_alloc (Below.refl _ _) _)) rfl rfl (src_obj X (64 + (i : Int)) M false) hbd ?_; intro v9 w9 g1 g2; obtain ⟨⟨s9, p9, rfl⟩, c9, f9, hnx⟩ := key.out v9 w9 g1 g2; clear g1 g2 key hrow hbd)
          go_roundw
          case rel => exact ⟨i + 1, by go_num, by omega, hnx⟩
          case measure => simp [RowKit.intOf]; omega
      · have i3 : ¬ ((i : Int) + 1 < (k : Int)) := by omega
        have hst : Hid (∃ X, X = U ∧ Lq w X q vg vo k c [64] i xs M O) := Lib.hid ⟨_, rfl, hz.out (by unfold vC; rw [if_neg (by omega)])⟩
        clear hz hs hp
        try replace hb := Lib.hid hb
        go_upto_region 10 with fail
        obtain ⟨X, hX, hlq⟩ := hst.out
        rw [← hX]
        clear hst hX u1 u2 u3
        have cl := hlq.lp.cell
        have o0 := cell_of (j := 0) hlq.o rfl
        have o1 := cell_of (j := 1) hlq.o rfl
        have o2 := cell_of (j := 2) hlq.o rfl
        have q5 := cl.2.2.2.2.2.1
        have hrow := Lib.hid hlq.lp.row
        have hbd : i + 1 ≤ 1000000 := by omega
        have key : Hid (∀ v9 w9, GRow 3 w9 v9 (i + 1) (xs ++ [.int .i64 (64 + (i : Int)), .slice (some ⟨M, 0, none⟩) 1 1, .bool false]) → Wrote (fun r => vo.ownBlock = some r) (X.alloc (.cells #[.int .i64 (64 + (i : Int)), .slice (some ⟨M, 0, none⟩) 1 1, .bool false] 29)) (fun r => v9.ownBlock = some r) w9 → (∃ s c, v9 = .slice s (i + 1) c) ∧ w9.cell? ⟨q, 5, none⟩ = some vo ∧ w9.frozen? ⟨q, 5, none⟩ = false ∧ Hid (∃ vo xs, Lp w (w9.setCell ⟨q, 5, none⟩ v9) q vg vo k c [64] (i + 1) xs)) := Lib.hid fun v9 w9 g1 g2 => by
          obtain ⟨a1, a2, a3⟩ := hlq.next g1 g2
          exact ⟨g1.slice, a1, a2, Lib.hid ⟨_, _, a3⟩⟩
        clear cl hlq
        go_wp2_with (at_builtin; refine wpList_append_g rfl (.tmp 58) (.tmp 60) rfl rfl eltO (hrow.out.below (below_alloc (Below.refl _ _) _)) rfl rfl (src_obj X (64 + (i : Int)) M false) hbd ?_; intro v9 w9 g1 g2; obtain ⟨⟨s9, p9, rfl⟩, c9, f9, hnx⟩ := key.out v9 w9 g1 g2; clear g1 g2 key hrow hbd)
        go_roundw
        case rel => exact ⟨i + 1, by go_num, by omega, hnx⟩
        case measure => simp [RowKit.intOf]; omega
    · obtain rfl : k = i := by omega
      have i2 : ¬ ((k : Int) < (k : Int)) := by omega
      obtain ⟨e, he⟩ : ∃ e : Nat, min c k = e := ⟨_, rfl⟩
      have emin : min (c : Int) (k : Int) = (e : Int) := by omega
      have ee0 : (0 : Int) ≤ (e : Int) := by omega
      clear hi
      cases a2 with
      | false =>
        have hlp : Hid (Lp w wr q vg vo k c (glC k false) k xs) := Lib.hid hp
        clear hp
        have hV := Lib.hid (hlp.out.isV k2 k40)
        have hwant : wantC k c false = e := by unfold wantC; rw [he]; rw [if_neg (by simp)]; rfl
        have hmin := Lib.hid he
        obtain ⟨g0, g1, g2, g3, g4, g5, g6, g7, g8⟩ := hlp.out.cell
        have cc := vvC (ex := #[]) (viewReach_any hV.out (fwC k40))
        unfold ReachV at cc
        simp only [List.push_toArray, List.append_toArray, List.nil_append, List.cons_append, Array.append_empty] at cc
        clear he
        replace hwant := Lib.hid hwant
        go_wp2_with fail
        with_reducible refine Calls.mono cc ?_
        rintro ed w1 ⟨v, ts, rfl, hts, hi, hb⟩
        have hlen := reachC k2 c1 hts
        rw [hwant.out] at hlen
        obtain ⟨sp, cp, rfl, -⟩ := hi
        obtain ⟨N, hN⟩ : ∃ N, ts.length = N := ⟨_, rfl⟩
        rw [hN] at hlen ⊢
        have hq : (N : Int) = (e : Int) := by omega
        have hlp1 : Hid (Lp w w1 q vg vo k c (glC k false) k xs) := Lib.hid (hlp.out.below hb)
        replace hlen := Lib.hid hlen
        clear cc hts hb hN hV hlp g0 g1 g2 g3 g4 g5 g6 g7 g8
        go_wp2_with fail
        go_loopw [6, 15, 16, 17] (fun u6 u15 u16 u17 wx => ∃ i : Nat, u15 = .int .i64 i ∧ i ≤ k ∧ Hid (Lp w wx q vg vo k c (glC k false) k xs)) (fun _ u15 _ _ _ => (k - (RowKit.intOf u15).toNat))
        case atStart => exact ⟨0, rfl, by omega, hlp1⟩
        case round =>
          clear hlp1 hq hlen
          obtain ⟨i, rfl, j1, hpa⟩ := hrel
          have ii0 : (0 : Int) ≤ (i : Int) := by omega
          have hV := Lib.hid (hpa.out.isV k2 k40)
          obtain ⟨g0, g1, g2, g3, g4, g5, g6, g7, g8⟩ := hpa.out.cell
          by_cases hi : i < k
          · have i2 : (i : Int) < (k : Int) := by omega
            have cc := vvC (ex := #[.int .i64 (64 + (i : Int))]) (path_any hV.out (fwC k40) (x := 64 + (i : Int)) (wfI (by omega) (by omega)))
            unfold PathV at cc
            simp only [List.push_toArray, List.append_toArray, List.nil_append, List.cons_append, Array.append_empty] at cc
            go_wp2_with fail
            with_reducible refine Calls.mono cc ?_
            rintro ed w2 ⟨v, P, L, lost, mm, pre, rfl, hF, hR, hi2, hb⟩
            obtain ⟨hl, hlast⟩ := pathC k2 c1 hi hF hR
            have hp2 : Hid (Lp w w2 q vg vo k c (glC k false) k xs) := Lib.hid (hpa.out.below hb)
            obtain ⟨sp, cp, rfl, hmx, hcs⟩ := hi2
            obtain ⟨N, hN⟩ : ∃ N, szC k c false i = N := ⟨_, rfl⟩
            rw [hl, hN] at hmx hcs ⊢
            rw [hN] at hlast
            have hg : Hid (0 < N → ∃ bb off, sp = some ⟨bb, off, none⟩ ∧ w2.cell? ⟨bb, off + (N - 1), none⟩ = some (.int .i64 (64 + (i : Int)))) := Lib.hid fun h0 => by
              obtain ⟨bb, off, e1, _, _, e2⟩ := hcs (N - 1) (by omega)
              rw [hlast h0] at e2
              exact ⟨bb, off, e1, e2⟩
            unfold szC at hN
            rw [hmin.out] at hN
            clear cc hF hR hb hl hlast hmx hcs hV hpa g0 g1 g2 g3 g4 g5 g6 g7 g8
            rw [if_neg (by simp)] at hN
            by_cases ha : i < e
            · have i3 : (i : Int) < (e : Int) := by omega
              rw [if_pos ha] at hN
              subst hN
              obtain ⟨bb, off, rfl, d0⟩ := hg.out (by omega)
              rw [show i + 1 - 1 = i by omega] at d0
              obtain ⟨N, hN⟩ : ∃ N, i + 1 = N := ⟨_, rfl⟩
              rw [hN]
              have hs : (N : Int) = (i : Int) + 1 := by omega
              have i5 : (i : Int) < (N : Int) := by omega
              have i4 : (0 : Int) < (i : Int) + 1 := by omega
              have i6 : (0 : Int) ≤ (i : Int) + 1 - 1 := by omega
              have i7 : (i : Int) + 1 - 1 < (N : Int) := by omega
              have i8 : ((i : Int) + 1 - 1).toNat = i := by omega
              clear hg hN
              go_wp2_with fail
              go_roundw
              case rel => exact ⟨i + 1, by go_num, by omega, hp2⟩
              case measure => simp [RowKit.intOf]; omega
            · have i3 : ¬ ((i : Int) < (e : Int)) := by omega
              rw [if_neg ha] at hN
              subst hN
              clear hg
              go_wp2_with fail
              go_roundw
              case rel => exact ⟨i + 1, by go_num, by omega, hp2⟩
              case measure => simp [RowKit.intOf]; omega
          · obtain rfl : k = i := by omega
            have i2 : ¬ ((k : Int) < (k : Int)) := by omega
            clear g0 g1 g2 g3 g4 g5 g6 g7 g8 hV hi
            have ct := ct wr
            go_wp2_with fail
            with_reducible refine Calls.mono ct ?_
            rintro ed w2 ⟨rfl, hb⟩
            have hp2 : Hid (Lp w w2 q vg vo k c (glC k false) k xs) := Lib.hid (hpa.out.below hb)
            clear ct hb hpa
            have hV := Lib.hid (hp2.out.isV k2 k40)
            obtain ⟨g0, g1, g2, g3, g4, g5, g6, g7, g8⟩ := hp2.out.cell
            have cc := vvC (ex := #[]) (viewWhite_any hV.out (fwC k40))
            unfold WhiteV at cc
            simp only [List.push_toArray, List.append_toArray, List.nil_append, List.cons_append, Array.append_empty] at cc
            go_wp2_with fail
            with_reducible refine Calls.mono cc ?_
            rintro ed w3 ⟨v, ts, rfl, hts, hi, hb⟩
            have hlen := whiteC k2 c1 hts
            rw [hwant.out] at hlen
            obtain ⟨sp, cp, rfl, -⟩ := hi
            obtain ⟨N, hN⟩ : ∃ N, ts.length = N := ⟨_, rfl⟩
            rw [hN] at hlen ⊢
            have hq : ((N : Int) == (e : Int)) = true := by simp; omega
            have hq2 := eq_of_beq hq
            have hp3 : Hid (Lp w w3 q vg vo k c (glC k false) k xs) := Lib.hid (hp2.out.below hb)
            replace hlen := Lib.hid hlen
            clear cc hts hb hN hV hp2 g0 g1 g2 g3 g4 g5 g6 g7 g8
            have hV := Lib.hid (hp3.out.isV k2 k40)
            obtain ⟨g0, g1, g2, g3, g4, g5, g6, g7, g8⟩ := hp3.out.cell
            have cc := vvC (ex := #[]) (words_any hV.out (fwC k40))
            rw [show wds (VC k c false).os = (k : Int) from wdsC] at cc
            simp only [List.push_toArray, List.append_toArray, List.nil_append, List.cons_append, Array.append_empty] at cc
            go_wp2_with fail
            with_reducible refine Calls.mono cc ?_
            rintro ed w4 ⟨rfl, hb⟩
            have hfin := Lib.hid (hp3.out.below hb).bel
            clear cc hb hV hp3 g0 g1 g2 g3 g4 g5 g6 g7 g8
            go_wp2_with fail
            go_ret
            exact ⟨rfl, hfin.out⟩
      | true =>
        have hrow := Lib.hid hp.gr
        have hbd : [(64 : Int)].length + 1 ≤ 1000000 := by decide
        have i5 : 64 + (k : Int) - 1 = 64 + (k : Int) - 1 := rfl
        have key : Hid (∀ v9 w9, GRow 1 w9 v9 ([(64 : Int)].length + 1) (cells [64] ++ [.int .i64 (64 + (k : Int) - 1)]) → Wrote (fun r => vg.ownBlock = some r) (wr.alloc (.cells #[.int .i64 (64 + (k : Int) - 1)] 3)) (fun r => v9.ownBlock = some r) w9 → (∃ s p, v9 = .slice s 2 p) ∧ w9.cell? ⟨q, 3, none⟩ = some vg ∧ w9.frozen? ⟨q, 3, none⟩ = false ∧ Hid (Lp w (w9.setCell ⟨q, 3, none⟩ v9) q v9 vo k c (glC k true) k xs)) := Lib.hid fun v9 w9 g1 g2 => by
          obtain ⟨a1, a2, a3⟩ := hp.more g1 g2
          exact ⟨g1.slice, a1, a2, Lib.hid a3⟩
        have q3 := hp.cell.2.2.2.1
        clear hp
        go_upto_region 13 with (at_builtin; refine wpList_append_g rfl (.tmp 65) (.tmp 69) rfl rfl eltI (hrow.out.below (below_alloc (Below.refl _ _) _)) rfl rfl (src_int (64 + (k : Int) - 1) wr) hbd ?_; intro v9 w9 g1 g2; obtain ⟨⟨s9, p9, rfl⟩, c9, f9, hnx⟩ := key.out v9 w9 g1 g2; clear g1 g2 key hrow hbd)
        obtain ⟨W, hW⟩ : ∃ W, w9.setCell ⟨q, 3, none⟩ (.slice s9 2 p9) = W := ⟨_, rfl⟩
        rw [hW] at hnx ⊢
        obtain ⟨vg2, hvg2⟩ : ∃ vg2 : Value, (.slice s9 2 p9) = vg2 := ⟨_, rfl⟩
        rw [hvg2] at hnx
        try rw [hvg2]
        clear hW hvg2 c9 f9 q3
        have hlp := hnx
        clear hnx
        by_cases hek : e < k
        · have i6 : (e : Int) < (k : Int) := by omega
          have hV := Lib.hid (hlp.out.isV k2 k40)
          have hwant : wantC k c true = e + 1 := by unfold wantC; rw [he]; rw [if_pos ⟨rfl, by omega⟩]
          have hmin := Lib.hid he
          obtain ⟨g0, g1, g2, g3, g4, g5, g6, g7, g8⟩ := hlp.out.cell
          have cc := vvC (ex := #[]) (viewReach_any hV.out (fwC k40))
          unfold ReachV at cc
          simp only [List.push_toArray, List.append_toArray, List.nil_append, List.cons_append, Array.append_empty] at cc
          clear he
          replace hwant := Lib.hid hwant
          go_wp2_with fail
          with_reducible refine Calls.mono cc ?_
          rintro ed w1 ⟨v, ts, rfl, hts, hi, hb⟩
          have hlen := reachC k2 c1 hts
          rw [hwant.out] at hlen
          obtain ⟨sp, cp, rfl, -⟩ := hi
          obtain ⟨N, hN⟩ : ∃ N, ts.length = N := ⟨_, rfl⟩
          rw [hN] at hlen ⊢
          have hq : (N : Int) = (e : Int) + 1 := by omega
          have hlp1 : Hid (Lp w w1 q vg2 vo k c (glC k true) k xs) := Lib.hid (hlp.out.below hb)
          replace hlen := Lib.hid hlen
          clear cc hts hb hN hV hlp g0 g1 g2 g3 g4 g5 g6 g7 g8
          go_wp2_with fail
          go_loopw [6, 15, 16, 17] (fun u6 u15 u16 u17 wx => ∃ i : Nat, u15 = .int .i64 i ∧ i ≤ k ∧ Hid (Lp w wx q vg2 vo k c (glC k true) k xs)) (fun _ u15 _ _ _ => (k - (RowKit.intOf u15).toNat))
          case atStart => exact ⟨0, rfl, by omega, hlp1⟩
          case round =>
            clear hlp1 hq hlen
            obtain ⟨i, rfl, j1, hpa⟩ := hrel
            have ii0 : (0 : Int) ≤ (i : Int) := by omega
            have hV := Lib.hid (hpa.out.isV k2 k40)
            obtain ⟨g0, g1, g2, g3, g4, g5, g6, g7, g8⟩ := hpa.out.cell
            by_cases hi : i < k
            · have i2 : (i : Int) < (k : Int) := by omega
              have cc := vvC (ex := #[.int .i64 (64 + (i : Int))]) (path_any hV.out (fwC k40) (x := 64 + (i : Int)) (wfI (by omega) (by omega)))
              unfold PathV at cc
              simp only [List.push_toArray, List.append_toArray, List.nil_append, List.cons_append, Array.append_empty] at cc
              go_wp2_with fail
              with_reducible refine Calls.mono cc ?_
              rintro ed w2 ⟨v, P, L, lost, mm, pre, rfl, hF, hR, hi2, hb⟩
              obtain ⟨hl, hlast⟩ := pathC k2 c1 hi hF hR
              have hp2 : Hid (Lp w w2 q vg2 vo k c (glC k true) k xs) := Lib.hid (hpa.out.below hb)
              obtain ⟨sp, cp, rfl, hmx, hcs⟩ := hi2
              obtain ⟨N, hN⟩ : ∃ N, szC k c true i = N := ⟨_, rfl⟩
              rw [hl, hN] at hmx hcs ⊢
              rw [hN] at hlast
              have hg : Hid (0 < N → ∃ bb off, sp = some ⟨bb, off, none⟩ ∧ w2.cell? ⟨bb, off + (N - 1), none⟩ = some (.int .i64 (64 + (i : Int)))) := Lib.hid fun h0 => by
                obtain ⟨bb, off, e1, _, _, e2⟩ := hcs (N - 1) (by omega)
                rw [hlast h0] at e2
                exact ⟨bb, off, e1, e2⟩
              unfold szC at hN
              rw [hmin.out] at hN
              clear cc hF hR hb hl hlast hmx hcs hV hpa g0 g1 g2 g3 g4 g5 g6 g7 g8
              by_cases hb1 : i + 1 = k
              · have e4 : ((i : Int) == (k : Int) - 1) = true := by simp; omega
                rw [if_pos ⟨rfl, hb1⟩] at hN
                subst hN
                obtain ⟨bb, off, rfl, d0⟩ := hg.out (by omega)
                rw [show 1 - 1 = 0 from rfl, Nat.add_zero] at d0
                clear hg
                by_cases ha : i < e
                · have i3 : (i : Int) < (e : Int) := by omega
                  go_wp2_with fail
                  go_roundw
                  case rel => exact ⟨i + 1, by go_num, by omega, hp2⟩
                  case measure => simp [RowKit.intOf]; omega
                · have i3 : ¬ ((i : Int) < (e : Int)) := by omega
                  go_wp2_with fail
                  go_roundw
                  case rel => exact ⟨i + 1, by go_num, by omega, hp2⟩
                  case measure => simp [RowKit.intOf]; omega
              · have e4 : ((i : Int) == (k : Int) - 1) = false := by simp; omega
                rw [if_neg (fun h => hb1 h.2)] at hN
                by_cases ha : i < e
                · have i3 : (i : Int) < (e : Int) := by omega
                  rw [if_pos ha] at hN
                  subst hN
                  obtain ⟨bb, off, rfl, d0⟩ := hg.out (by omega)
                  rw [show i + 1 - 1 = i by omega] at d0
                  obtain ⟨N, hN⟩ : ∃ N, i + 1 = N := ⟨_, rfl⟩
                  rw [hN]
                  have hs : (N : Int) = (i : Int) + 1 := by omega
                  have i5 : (i : Int) < (N : Int) := by omega
                  have i4 : (0 : Int) < (i : Int) + 1 := by omega
                  have i6 : (0 : Int) ≤ (i : Int) + 1 - 1 := by omega
                  have i7 : (i : Int) + 1 - 1 < (N : Int) := by omega
                  have i8 : ((i : Int) + 1 - 1).toNat = i := by omega
                  clear hg hN
                  go_wp2_with fail
                  go_roundw
                  case rel => exact ⟨i + 1, by go_num, by omega, hp2⟩
                  case measure => simp [RowKit.intOf]; omega
                · have i3 : ¬ ((i : Int) < (e : Int)) := by omega
                  rw [if_neg ha] at hN
                  subst hN
                  clear hg
                  go_wp2_with fail
                  go_roundw
                  case rel => exact ⟨i + 1, by go_num, by omega, hp2⟩
                  case measure => simp [RowKit.intOf]; omega
            · obtain rfl : k = i := by omega
              have i2 : ¬ ((k : Int) < (k : Int)) := by omega
              clear g0 g1 g2 g3 g4 g5 g6 g7 g8 hV hi
              have ct := ct wr
              go_wp2_with fail
              with_reducible refine Calls.mono ct ?_
              rintro ed w2 ⟨rfl, hb⟩
              have hp2 : Hid (Lp w w2 q vg2 vo k c (glC k true) k xs) := Lib.hid (hpa.out.below hb)
              clear ct hb hpa
              have hV := Lib.hid (hp2.out.isV k2 k40)
              obtain ⟨g0, g1, g2, g3, g4, g5, g6, g7, g8⟩ := hp2.out.cell
              have cc := vvC (ex := #[]) (viewWhite_any hV.out (fwC k40))
              unfold WhiteV at cc
              simp only [List.push_toArray, List.append_toArray, List.nil_append, List.cons_append, Array.append_empty] at cc
              go_wp2_with fail
              with_reducible refine Calls.mono cc ?_
              rintro ed w3 ⟨v, ts, rfl, hts, hi, hb⟩
              have hlen := whiteC k2 c1 hts
              rw [hwant.out] at hlen
              obtain ⟨sp, cp, rfl, -⟩ := hi
              obtain ⟨N, hN⟩ : ∃ N, ts.length = N := ⟨_, rfl⟩
              rw [hN] at hlen ⊢
              have hq : ((N : Int) == (e : Int) + 1) = true := by simp; omega
              have hq2 := eq_of_beq hq
              have hp3 : Hid (Lp w w3 q vg2 vo k c (glC k true) k xs) := Lib.hid (hp2.out.below hb)
              replace hlen := Lib.hid hlen
              clear cc hts hb hN hV hp2 g0 g1 g2 g3 g4 g5 g6 g7 g8
              have hV := Lib.hid (hp3.out.isV k2 k40)
              obtain ⟨g0, g1, g2, g3, g4, g5, g6, g7, g8⟩ := hp3.out.cell
              have cc := vvC (ex := #[]) (words_any hV.out (fwC k40))
              rw [show wds (VC k c true).os = (k : Int) from wdsC] at cc
              simp only [List.push_toArray, List.append_toArray, List.nil_append, List.cons_append, Array.append_empty] at cc
              go_wp2_with fail
              with_reducible refine Calls.mono cc ?_
              rintro ed w4 ⟨rfl, hb⟩
              have hfin := Lib.hid (hp3.out.below hb).bel
              clear cc hb hV hp3 g0 g1 g2 g3 g4 g5 g6 g7 g8
              go_wp2_with fail
              go_ret
              exact ⟨rfl, hfin.out⟩
        · have i6 : ¬ ((e : Int) < (k : Int)) := by omega
          have hV := Lib.hid (hlp.out.isV k2 k40)
          have hwant : wantC k c true = e := by unfold wantC; rw [he]; rw [if_neg (by omega)]; rfl
          have hmin := Lib.hid he
          obtain ⟨g0, g1, g2, g3, g4, g5, g6, g7, g8⟩ := hlp.out.cell
          have cc := vvC (ex := #[]) (viewReach_any hV.out (fwC k40))
          unfold ReachV at cc
          simp only [List.push_toArray, List.append_toArray, List.nil_append, List.cons_append, Array.append_empty] at cc
          clear he
          replace hwant := Lib.hid hwant
          go_wp2_with fail
          with_reducible refine Calls.mono cc ?_
          rintro ed w1 ⟨v, ts, rfl, hts, hi, hb⟩
          have hlen := reachC k2 c1 hts
          rw [hwant.out] at hlen
          obtain ⟨sp, cp, rfl, -⟩ := hi
          obtain ⟨N, hN⟩ : ∃ N, ts.length = N := ⟨_, rfl⟩
          rw [hN] at hlen ⊢
          have hq : (N : Int) = (e : Int) := by omega
          have hlp1 : Hid (Lp w w1 q vg2 vo k c (glC k true) k xs) := Lib.hid (hlp.out.below hb)
          replace hlen := Lib.hid hlen
          clear cc hts hb hN hV hlp g0 g1 g2 g3 g4 g5 g6 g7 g8
          go_wp2_with fail
          go_loopw [6, 15, 16, 17] (fun u6 u15 u16 u17 wx => ∃ i : Nat, u15 = .int .i64 i ∧ i ≤ k ∧ Hid (Lp w wx q vg2 vo k c (glC k true) k xs)) (fun _ u15 _ _ _ => (k - (RowKit.intOf u15).toNat))
          case atStart => exact ⟨0, rfl, by omega, hlp1⟩
          case round =>
            clear hlp1 hq hlen
            obtain ⟨i, rfl, j1, hpa⟩ := hrel
            have ii0 : (0 : Int) ≤ (i : Int) := by omega
            have hV := Lib.hid (hpa.out.isV k2 k40)
            obtain ⟨g0, g1, g2, g3, g4, g5, g6, g7, g8⟩ := hpa.out.cell
            by_cases hi : i < k
            · have i2 : (i : Int) < (k : Int) := by omega
              have cc := vvC (ex := #[.int .i64 (64 + (i : Int))]) (path_any hV.out (fwC k40) (x := 64 + (i : Int)) (wfI (by omega) (by omega)))
              unfold PathV at cc
              simp only [List.push_toArray, List.append_toArray, List.nil_append, List.cons_append, Array.append_empty] at cc
              go_wp2_with fail
              with_reducible refine Calls.mono cc ?_
              rintro ed w2 ⟨v, P, L, lost, mm, pre, rfl, hF, hR, hi2, hb⟩
              obtain ⟨hl, hlast⟩ := pathC k2 c1 hi hF hR
              have hp2 : Hid (Lp w w2 q vg2 vo k c (glC k true) k xs) := Lib.hid (hpa.out.below hb)
              obtain ⟨sp, cp, rfl, hmx, hcs⟩ := hi2
              obtain ⟨N, hN⟩ : ∃ N, szC k c true i = N := ⟨_, rfl⟩
              rw [hl, hN] at hmx hcs ⊢
              rw [hN] at hlast
              have hg : Hid (0 < N → ∃ bb off, sp = some ⟨bb, off, none⟩ ∧ w2.cell? ⟨bb, off + (N - 1), none⟩ = some (.int .i64 (64 + (i : Int)))) := Lib.hid fun h0 => by
                obtain ⟨bb, off, e1, _, _, e2⟩ := hcs (N - 1) (by omega)
                rw [hlast h0] at e2
                exact ⟨bb, off, e1, e2⟩
              unfold szC at hN
              rw [hmin.out] at hN
              clear cc hF hR hb hl hlast hmx hcs hV hpa g0 g1 g2 g3 g4 g5 g6 g7 g8
              by_cases hb1 : i + 1 = k
              · have e4 : ((i : Int) == (k : Int) - 1) = true := by simp; omega
                rw [if_pos ⟨rfl, hb1⟩] at hN
                subst hN
                obtain ⟨bb, off, rfl, d0⟩ := hg.out (by omega)
                rw [show 1 - 1 = 0 from rfl, Nat.add_zero] at d0
                clear hg
                by_cases ha : i < e
                · have i3 : (i : Int) < (e : Int) := by omega
                  go_wp2_with fail
                  go_roundw
                  case rel => exact ⟨i + 1, by go_num, by omega, hp2⟩
                  case measure => simp [RowKit.intOf]; omega
                · have i3 : ¬ ((i : Int) < (e : Int)) := by omega
                  go_wp2_with fail
                  go_roundw
                  case rel => exact ⟨i + 1, by go_num, by omega, hp2⟩
                  case measure => simp [RowKit.intOf]; omega
              · have e4 : ((i : Int) == (k : Int) - 1) = false := by simp; omega
                rw [if_neg (fun h => hb1 h.2)] at hN
                by_cases ha : i < e
                · have i3 : (i : Int) < (e : Int) := by omega
                  rw [if_pos ha] at hN
                  subst hN
                  obtain ⟨bb, off, rfl, d0⟩ := hg.out (by omega)
                  rw [show i + 1 - 1 = i by omega] at d0
                  obtain ⟨N, hN⟩ : ∃ N, i + 1 = N := ⟨_, rfl⟩
                  rw [hN]
                  have hs : (N : Int) = (i : Int) + 1 := by omega
                  have i5 : (i : Int) < (N : Int) := by omega
                  have i4 : (0 : Int) < (i : Int) + 1 := by omega
                  have i6 : (0 : Int) ≤ (i : Int) + 1 - 1 := by omega
                  have i7 : (i : Int) + 1 - 1 < (N : Int) := by omega
                  have i8 : ((i : Int) + 1 - 1).toNat = i := by omega
                  clear hg hN
                  go_wp2_with fail
                  go_roundw
                  case rel => exact ⟨i + 1, by go_num, by omega, hp2⟩
                  case measure => simp [RowKit.intOf]; omega
                · have i3 : ¬ ((i : Int) < (e : Int)) := by omega
                  rw [if_neg ha] at hN
                  subst hN
                  clear hg
                  go_wp2_with fail
                  go_roundw
                  case rel => exact ⟨i + 1, by go_num, by omega, hp2⟩
                  case measure => simp [RowKit.intOf]; omega
            · obtain rfl : k = i := by omega
              have i2 : ¬ ((k : Int) < (k : Int)) := by omega
              clear g0 g1 g2 g3 g4 g5 g6 g7 g8 hV hi
              have ct := ct wr
              go_wp2_with fail
              with_reducible refine Calls.mono ct ?_
              rintro ed w2 ⟨rfl, hb⟩
              have hp2 : Hid (Lp w w2 q vg2 vo k c (glC k true) k xs) := Lib.hid (hpa.out.below hb)
              clear ct hb hpa
              have hV := Lib.hid (hp2.out.isV k2 k40)
              obtain ⟨g0, g1, g2, g3, g4, g5, g6, g7, g8⟩ := hp2.out.cell
              have cc := vvC (ex := #[]) (viewWhite_any hV.out (fwC k40))
              unfold WhiteV at cc
              simp only [List.push_toArray, List.append_toArray, List.nil_append, List.cons_append, Array.append_empty] at cc
              go_wp2_with fail
              with_reducible refine Calls.mono cc ?_
              rintro ed w3 ⟨v, ts, rfl, hts, hi, hb⟩
              have hlen := whiteC k2 c1 hts
              rw [hwant.out] at hlen
              obtain ⟨sp, cp, rfl, -⟩ := hi
              obtain ⟨N, hN⟩ : ∃ N, ts.length = N := ⟨_, rfl⟩
              rw [hN] at hlen ⊢
              have hq : ((N : Int) == (e : Int)) = true := by simp; omega
              have hq2 := eq_of_beq hq
              have hp3 : Hid (Lp w w3 q vg2 vo k c (glC k true) k xs) := Lib.hid (hp2.out.below hb)
              replace hlen := Lib.hid hlen
              clear cc hts hb hN hV hp2 g0 g1 g2 g3 g4 g5 g6 g7 g8
              have hV := Lib.hid (hp3.out.isV k2 k40)
              obtain ⟨g0, g1, g2, g3, g4, g5, g6, g7, g8⟩ := hp3.out.cell
              have cc := vvC (ex := #[]) (words_any hV.out (fwC k40))
              rw [show wds (VC k c true).os = (k : Int) from wdsC] at cc
              simp only [List.push_toArray, List.append_toArray, List.nil_append, List.cons_append, Array.append_empty] at cc
              go_wp2_with fail
              with_reducible refine Calls.mono cc ?_
              rintro ed w4 ⟨rfl, hb⟩
              have hfin := Lib.hid (hp3.out.below hb).bel
              clear cc hb hV hp3 g0 g1 g2 g3 g4 g5 g6 g7 g8
              go_wp2_with fail
              go_ret
              exact ⟨rfl, hfin.out⟩

set_option maxRecDepth 100000 in
theorem lifted (os : Os) (started : os.Started) (H : Type) (enc : TypeId × Value → H) :
    ReturnsInHanded {} Try.checked os 5 .any (Rows.viewChainsSpec.pre6 enc Try.prog Try.f5 Rows.viewChainsRow.domain false) (Rows.viewChainsSpec.post enc Try.prog Try.f5 false true false false) := by
  refine returnsInHanded_of_change (C := Try.checked) own started (by kernel_rfl) Try.func5
    (ChangeSpec.witness6 (enc := enc) (C := Try.checked) false ⟨#[], #[.int .i64 0, .int .i64 0, .bool false], []⟩ 8 (by kernel_rfl) (by kernel_rfl) (by kernel_rfl) (by kernel_rfl)) ?_
  intro W base args ds gs before hval0 hW hcnd _
  have hval : ∀ (j : Nat) t v, Try.f5.params[j]? = some t → args[j]? = some v → Value.okWide Try.prog W .any base t v := hval0
  have hW' := hW
  obtain ⟨p, q, hA0, hV, rfl, hfz, hnd⟩ := hW
  have hA : DataW.TrodAll enc Try.prog W 0 (fun _ => true) true Try.f5.params.toList args.toList ds p := hA0
  rw [Try.params5] at hA hval
  obtain ⟨v0, vs0, d0, ds0, p0, q0, hargs, rfl, rfl, h0, r0⟩ := trodAll_cons hA
  obtain ⟨v1, vs1, d1, ds1, p1, q1, rfl, rfl, rfl, h1, r1⟩ := trodAll_cons r0
  obtain ⟨v2, vs2, d2, ds2, p2, q2, rfl, rfl, rfl, h2, r2⟩ := trodAll_cons r1
  obtain ⟨rfl, rfl, rfl⟩ := trodAll_nil r2
  obtain rfl : args = #[v0, v1, v2] := by cases args; simp_all
  obtain ⟨rfl, rfl⟩ := trodVars_none hV
  obtain ⟨a0, rfl, rfl, rfl, w0⟩ := open_int Try.underlying3 (hval 0 3 v0 rfl rfl) h0
  obtain ⟨a1, rfl, rfl, rfl, w1⟩ := open_int Try.underlying3 (hval 1 3 v1 rfl rfl) h1
  obtain ⟨a2, rfl, rfl, rfl⟩ := open_bool Try.underlying4 (hval 2 4 v2 rfl rfl) h2
  clear hA0 hval0
  simp only [List.append_nil] at hW'
  refine (walk a0 a1 a2 W w0 w1).mono fun e W' ⟨he, hg⟩ => ?_
  subst he
  exact ⟨_, rfl, post_of_kept (pa := _) (pv := []) hW' (fun _ _ _ => (trodAll_cons_mk (shut_bool Try.underlying4 _) trodAll_mk0)) (trodAll_cons_mk (shut_int Try.underlying3 w0) (trodAll_cons_mk (shut_int Try.underlying3 w1) (trodAll_cons_mk (shut_bool Try.underlying4 _) trodAll_mk0))) (fun _ _ => rfl) (by simp) hg⟩

theorem over : Rows.viewChainsRow.holds Try.pinned (OpenSpec.ofChange Rows.viewChainsSpec) :=
  OpenClaim.holds_of_wide 5 Try.f5 rfl rfl rfl rfl rfl rfl rfl ⟨rfl, rfl, rfl, rfl, rfl⟩ rfl rfl rfl rfl rfl (by kernel_rfl) Try.func5 (by kernel_rfl)
    (of_decide_eq_true (by kernel_rfl)) (by unfold Func.isWrapper; first | (rw [if_pos (by decide +kernel)]; kernel_rfl) | (rw [if_neg (by decide +kernel)]; exact ⟨rfl, rfl⟩))
    (fun os started H enc _ => lifted os started H enc)

theorem proved : Rows.ViewChainsSaid :=
  over
#print axioms proved
end Go.Proofs.Ytdhkakjiahkjnaa.viewChains
