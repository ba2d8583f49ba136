import Derived.Test.YtdnajpnnjfncbaaDoorMB8
import Derived.Test.YtdnajpnnjfncbaaDoorMB4
import Derived.WalkKit
import Derived.ProofKit
import Derived.OpenShut
import Derived.Test.YtdnajpnnjfncbaaDoorTie
import Derived.Test.YtdnajpnnjfncbaaDoorCards
import Derived.LaidMore
import Derived.Stop.Joined
import Derived.SevenTiedAt
import Derived.Deep.RegionHeld3
import Derived.Deep.RegionWith
import Derived.Deep.Cut
import Derived.Deep.CutBlock
import Derived.Deep.CutRange
import Derived.Deep.LoopGhost
import Derived.Deep.DeepCutAuto
import Derived.RegionTactic
import Derived.StillTailTactics
import Derived.Deep.RegionLaw
/- A global has what was put there last, and what it has can be reached (16.1): any puts at up to 8 globals. No further condition but the listed table. -/
namespace Go.Proofs.YtdnajpnnjfncbaaDoor.modelGlobals
open Go.ChangeShapes Go.WideShapes Go.ChangeAt Go.WideElems Go.RowKit Go.Lib Fx Ho Gr Cd
set_option linter.unusedVariables false

theorem own : ownKnob Tryd.prog.godebug = none := by kernel_rfl

set_option maxRecDepth 100000 in
set_option maxHeartbeats 16000000 in
theorem walk (v0 : Value) (z0 : List Int) (a1 : Int) (w : World) (hT : Tk w) (h0 : Ints w (fun k => k < w.heap.size) v0 z0) (w1 : (Lit.int .i64 a1).wf = true) :
    Calls Tryd.prog 9 #[v0, .int .i64 a1] w fun e w' => e = .returned (.bool true) ∧ Below w.heap.size w w' := by
  obtain ⟨sp, capv, rfl, hnl, hcell⟩ := h0
  obtain ⟨n, hn⟩ : ∃ n, z0.length = n := ⟨_, rfl⟩
  rw [hn] at hnl hcell ⊢
  obtain ⟨Y0, h00⟩ : ∃ Y : Int, IntKind.u64.wrap a1 = Y := ⟨_, rfl⟩
  have p0 : 0 ≤ Y0 := by rw [← h00, IntKind.wrap_u64]; omega
  obtain ⟨k, hk⟩ : ∃ k : Nat, 1 + Y0 % 8 = (k : Int) := ⟨(1 + Y0 % 8).toNat, by omega⟩
  have k1 : 1 ≤ k := by omega
  have k8 : k ≤ 8 := by omega
  obtain ⟨γ, hγe, hγ⟩ : ∃ γ : Nat → Nat, Hid (∀ i, IntKind.u64.wrap (z0.getD i 0) % (k : Int) = (γ i : Int)) ∧ ∀ i, γ i < k := by
    have e1 : ∀ i, 0 ≤ IntKind.u64.wrap (z0.getD i 0) % (k : Int) := fun i => Int.emod_nonneg _ (by omega)
    have e2 : ∀ i, IntKind.u64.wrap (z0.getD i 0) % (k : Int) < k := fun i => Int.emod_lt_of_pos _ (by omega)
    exact ⟨fun i => (IntKind.u64.wrap (z0.getD i 0) % (k : Int)).toNat, Lib.hid fun i => (Int.toNat_of_nonneg (e1 i)).symm, fun i => by have e3 := e1 i; have e4 := e2 i; show (IntKind.u64.wrap (z0.getD i 0) % (k : Int)).toNat < k; omega⟩
  have hT := Lib.hid hT
  replace hcell := Lib.hid hcell
  have hn0 : (0 : Int) ≤ (n : Int) := by omega
  clear hn
  go_enter Tryd.func9, Tryd.ntmps9
  go_upto_region 2 with fail
  try rw [h00]
  try rw [hk]
  clear h00 hk
  have kk : IntKind.u64.wrap (k : Int) = (k : Int) := by rw [IntKind.wrap_u64]; omega
  have kk0 : (k : Int) ≠ 0 := by omega
  have kk1 : (0 : Int) ≤ (k : Int) := by omega
  by_cases h55 : 55 < n
  · have n55 : (55 : Int) < (n : Int) := by omega
    have ct := Md.told_any hT.out
    go_wp2_with fail
    with_reducible refine Calls.mono ct ?_
    rintro e w2 ⟨rfl, hb⟩
    replace hb := Lib.hid hb
    go_wp2_with fail
    go_ret
    exact ⟨rfl, hb.out⟩
  · have n55 : ¬ (55 : Int) < (n : Int) := by omega
    have st0 : Hid (Md.Pw w w (.slice none (2 * 0) 0) (Md.lG γ 0)) := Lib.hid (Md.pw_start w)
    go_wp2_with fail
    clear n55
    go_loopw [6, 7] (fun u6 u wr => ∃ (i : Nat) (s : Option Addr) (c : Nat), u6 = .slice s (2 * i) c ∧ u = .int .i64 i ∧ i ≤ n ∧ i ≤ 30 ∧ Hid (Md.Pw w wr (.slice s (2 * i) c) (Md.lG γ i))) (fun _ u _ => (n - (RowKit.intOf u).toNat))
    case atStart => exact ⟨0, none, 0, rfl, rfl, by omega, by omega, st0⟩
    case round =>
      obtain ⟨i, s, c, rfl, rfl, hin, hi30, hpw⟩ := hrel
      clear st0
      have i0 : (0 : Int) ≤ (i : Int) := by omega
      by_cases hlt : i < n
      · have i2 : (i : Int) < (n : Int) := by omega
        have ew : IntKind.i64.wrap ((i : Int) + 1) = (i : Int) + 1 := by rw [IntKind.wrap_i64]; omega
        obtain ⟨bi, oi, rfl, -, -, hci⟩ := hcell.out i hlt
        have ci := cell_then hpw.out.bel hci
        clear hci
        have e1 := hγe.out i
        have e2 := hγ i
        obtain ⟨gi, hgi⟩ : ∃ g, γ i = g := ⟨_, rfl⟩
        obtain ⟨xi, hxi⟩ : ∃ x, z0.getD i 0 = x := ⟨_, rfl⟩
        rw [hxi] at e1 ci
        rw [hgi] at e1 e2
        obtain ⟨X, hX⟩ : ∃ X, IntKind.u64.wrap xi = X := ⟨_, rfl⟩
        have X0 : 0 ≤ X := by rw [← hX, IntKind.wrap_u64]; omega
        rw [hX] at e1
        clear hxi
        go_upto_region 9 with fail
        try rw [hX]
        try rw [e1]
        clear hX e1 X0 ci
        by_cases h29 : i < 30
        · obtain ⟨L2, hL2⟩ : ∃ L, 2 * i + 2 = L := ⟨_, rfl⟩
          have l60 : ¬ (60 : Int) < (L2 : Int) := by omega
          have hL3 := Lib.hid (show L2 = 2 * (i + 1) by omega)
          have hb1 := below_alloc (Below.refl wr.heap.size wr) (.cells #[.int .i64 1, .int .i64 1, .int .i64 0, .int .i64 0, .int .i64 7, .int .i64 (gi : Nat), .int .i64 1, .int .i64 0] 29)
          have hrow : Hid (GRow 4 (wr.alloc (.cells #[.int .i64 1, .int .i64 1, .int .i64 0, .int .i64 0, .int .i64 7, .int .i64 (gi : Nat), .int .i64 1, .int .i64 0] 29)) (.slice s (2 * i) c) (2 * i) (ca (Md.lG γ i))) := Lib.hid (by have := hpw.out.row.below hb1; rw [Md.lG_len] at this; exact this)
          have hsrc : Hid (Src Tryd.prog 4 30 (.slice (some ⟨wr.heap.size, 0, none⟩) 2 2) 2 (ca (Md.pG γ i)) (wr.alloc (.cells #[.int .i64 1, .int .i64 1, .int .i64 0, .int .i64 0, .int .i64 7, .int .i64 (gi : Nat), .int .i64 1, .int .i64 0] 29))) := Lib.hid (by have := Md.src_lit wr (Md.pG γ i) (by show 0 < 2; omega) (by show 2 ≤ 1000; omega); unfold Md.pG at this ⊢; rw [hgi] at this ⊢; exact this)
          have hbd : 2 * i + 2 ≤ 1000000 := by omega
          have key : Hid (∀ u8 w8, GRow 4 w8 u8 (2 * i + 2) (ca (Md.lG γ i) ++ ca (Md.pG γ i)) → Wrote (fun k => (Value.slice s (2 * i) c).ownBlock = some k) (wr.alloc (.cells #[.int .i64 1, .int .i64 1, .int .i64 0, .int .i64 0, .int .i64 7, .int .i64 (gi : Nat), .int .i64 1, .int .i64 0] 29)) (fun k => u8.ownBlock = some k) w8 → ∃ b off c, u8 = .slice (some ⟨b, off, none⟩) L2 c ∧ L2 ≤ c ∧ Hid (Md.Pw w w8 (.slice (some ⟨b, off, none⟩) L2 c) (Md.lG γ i ++ (Md.pG γ i)))) := Lib.hid fun u8 w8 g1 g2 => by
            obtain ⟨ao, b8, o8, c8, rfl, hle, -, hc8, -⟩ := g1.cell
            obtain ⟨rfl, -, -⟩ := hc8 (by omega)
            have hq := hpw.out.more (l := (Md.pG γ i)) hb1 (by rw [Md.lG_len]; exact g1) g2
            rw [show 2 * i + 2 = L2 by omega] at hq hle ⊢
            exact ⟨b8, o8, c8, rfl, hle, Lib.hid hq⟩
          clear hpw hb1
          generalize ca (Md.lG γ i) = XX at *
          go_wp2_with (at_builtin; refine wpList_append_g rfl (.tmp 43) (.tmp 47) rfl rfl eltIns hrow.out rfl rfl hsrc.out hbd ?_; intro u8 w8 g1 g2; have hk := key.out u8 w8 g1 g2; obtain ⟨b9, o9, c9, rfl, hle9, hnx⟩ := hk; clear key g1 g2 hrow hsrc)
          clear hle9
          rw [show Md.lG γ i ++ Md.pG γ i = Md.lG γ (i + 1) from rfl, hL3.out] at hnx
          go_roundw
          case rel => exact ⟨i + 1, _, c9, by rw [hL3.out], by go_num, by omega, by omega, hnx⟩
          case measure => simp [RowKit.intOf]; omega
        · obtain ⟨L2, hL2⟩ : ∃ L, 2 * i + 2 = L := ⟨_, rfl⟩
          have l60 : (60 : Int) < (L2 : Int) := by omega
          have hb1 := below_alloc (Below.refl wr.heap.size wr) (.cells #[.int .i64 1, .int .i64 1, .int .i64 0, .int .i64 0, .int .i64 7, .int .i64 (gi : Nat), .int .i64 1, .int .i64 0] 29)
          have hrow : Hid (GRow 4 (wr.alloc (.cells #[.int .i64 1, .int .i64 1, .int .i64 0, .int .i64 0, .int .i64 7, .int .i64 (gi : Nat), .int .i64 1, .int .i64 0] 29)) (.slice s (2 * i) c) (2 * i) (ca (Md.lG γ i))) := Lib.hid (by have := hpw.out.row.below hb1; rw [Md.lG_len] at this; exact this)
          have hsrc : Hid (Src Tryd.prog 4 30 (.slice (some ⟨wr.heap.size, 0, none⟩) 2 2) 2 (ca (Md.pG γ i)) (wr.alloc (.cells #[.int .i64 1, .int .i64 1, .int .i64 0, .int .i64 0, .int .i64 7, .int .i64 (gi : Nat), .int .i64 1, .int .i64 0] 29))) := Lib.hid (by have := Md.src_lit wr (Md.pG γ i) (by show 0 < 2; omega) (by show 2 ≤ 1000; omega); unfold Md.pG at this ⊢; rw [hgi] at this ⊢; exact this)
          have hbd : 2 * i + 2 ≤ 1000000 := by omega
          have key : Hid (∀ u8 w8, GRow 4 w8 u8 (2 * i + 2) (ca (Md.lG γ i) ++ ca (Md.pG γ i)) → Wrote (fun k => (Value.slice s (2 * i) c).ownBlock = some k) (wr.alloc (.cells #[.int .i64 1, .int .i64 1, .int .i64 0, .int .i64 0, .int .i64 7, .int .i64 (gi : Nat), .int .i64 1, .int .i64 0] 29)) (fun k => u8.ownBlock = some k) w8 → ∃ b off c, u8 = .slice (some ⟨b, off, none⟩) L2 c ∧ L2 ≤ c ∧ Hid (Md.Pw w w8 (.slice (some ⟨b, off, none⟩) L2 c) (Md.lG γ i ++ (Md.pG γ i)))) := Lib.hid fun u8 w8 g1 g2 => by
            obtain ⟨ao, b8, o8, c8, rfl, hle, -, hc8, -⟩ := g1.cell
            obtain ⟨rfl, -, -⟩ := hc8 (by omega)
            have hq := hpw.out.more (l := (Md.pG γ i)) hb1 (by rw [Md.lG_len]; exact g1) g2
            rw [show 2 * i + 2 = L2 by omega] at hq hle ⊢
            exact ⟨b8, o8, c8, rfl, hle, Lib.hid hq⟩
          clear hpw hb1
          generalize ca (Md.lG γ i) = XX at *
          go_upto_region 12 with (at_builtin; refine wpList_append_g rfl (.tmp 43) (.tmp 47) rfl rfl eltIns hrow.out rfl rfl hsrc.out hbd ?_; intro u8 w8 g1 g2; have hk := key.out u8 w8 g1 g2; obtain ⟨b9, o9, c9, rfl, hle9, hnx⟩ := hk; (have cc1 : (60 : Int) ≤ (c9 : Int) := by omega); clear key g1 g2 hrow hsrc)
          obtain rfl : i = 30 := by omega
          obtain rfl : L2 = 62 := by omega
          have hcut : Hid (Md.Pw w w8 (.slice (some ⟨b9, o9, none⟩) 60 c9) (Md.lG γ 30)) := Lib.hid (by
            have := hnx.out.cut (j := 60) rfl (by rw [List.length_append, Md.lG_len]; rfl) (by omega)
            rw [List.take_append_of_le_length (by rw [Md.lG_len]; omega), List.take_of_length_le (by rw [Md.lG_len]; omega)] at this
            exact this)
          clear hnx
          obtain ⟨wr, hwr⟩ : ∃ W, w8 = W := ⟨_, rfl⟩
          obtain ⟨s, hs⟩ : ∃ s : Option Addr, some ⟨b9, o9, none⟩ = s := ⟨_, rfl⟩
          obtain ⟨c, hc⟩ : ∃ s, c9 = s := ⟨_, rfl⟩
          rw [hwr, hs, hc] at hcut
          try rw [hwr]
          try rw [hs]
          try rw [hc]
          obtain ⟨m, hmm⟩ : ∃ m : Nat, m = 30 := ⟨30, rfl⟩
          rw [show Value.slice s 60 c = Value.slice s (2 * m) c by rw [hmm]]
          have hpw : Hid (Md.Pw w wr (.slice s (2 * m) c) (Md.lG γ m)) := by rw [hmm]; exact hcut
          have hm30 : m ≤ 30 := by omega
          clear hmm hcut hwr hs hc hi30 h29 hin hlt i0 i2 ew hle9 cc1 e2 hgi l60 hL2
          obtain ⟨L, hL⟩ : ∃ L, 2 * m + 1 = L := ⟨_, rfl⟩
          have hP := Lib.hid (Md.pgG k1 k8 hm30 hγ)
          have hb1 := below_alloc (Below.refl wr.heap.size wr) (.cells #[.int .i64 0, .int .i64 0, .int .i64 0, .int .i64 0] 29)
          have hrow : Hid (GRow 4 (wr.alloc (.cells #[.int .i64 0, .int .i64 0, .int .i64 0, .int .i64 0] 29)) (.slice s (2 * m) c) (2 * m) (ca (Md.lG γ m))) := Lib.hid (by have := hpw.out.row.below hb1; rw [Md.lG_len] at this; exact this)
          have hsrc : Hid (Src Tryd.prog 4 30 (.slice (some ⟨wr.heap.size, 0, none⟩) 1 1) 1 (ca Md.lX) (wr.alloc (.cells #[.int .i64 0, .int .i64 0, .int .i64 0, .int .i64 0] 29))) := Lib.hid (Md.src_lit wr Md.lX (by decide) (by decide))
          have hbd : 2 * m + 1 ≤ 1000000 := by omega
          have key : Hid (∀ u8 w8, GRow 4 w8 u8 (2 * m + 1) (ca (Md.lG γ m) ++ ca Md.lX) → Wrote (fun k => (Value.slice s (2 * m) c).ownBlock = some k) (wr.alloc (.cells #[.int .i64 0, .int .i64 0, .int .i64 0, .int .i64 0] 29)) (fun k => u8.ownBlock = some k) w8 → ∃ b off c, u8 = .slice (some ⟨b, off, none⟩) L c ∧ L ≤ c ∧ Hid (Md.Pw w w8 (.slice (some ⟨b, off, none⟩) L c) (Md.lG γ m ++ Md.lX))) := Lib.hid fun u8 w8 g1 g2 => by
            obtain ⟨ao, b8, o8, c8, rfl, hle, -, hc8, -⟩ := g1.cell
            obtain ⟨rfl, -, -⟩ := hc8 (by omega)
            have hq := hpw.out.more (l := Md.lX) hb1 (by rw [Md.lG_len]; exact g1) g2
            rw [show 2 * m + 1 = L by omega] at hq hle ⊢
            exact ⟨b8, o8, c8, rfl, hle, Lib.hid hq⟩
          clear hpw hb1
          generalize ca (Md.lG γ m) = XX at *
          go_wp2_with (at_builtin; refine wpList_append_g rfl (.tmp 54) (.tmp 56) rfl rfl eltIns hrow.out rfl rfl hsrc.out hbd ?_; intro u8 w8 g1 g2; have hk := key.out u8 w8 g1 g2; obtain ⟨b9, o9, c9, rfl, hle9, hnx⟩ := hk; clear key g1 g2 hrow hsrc)
          clear hle9
          have hA0 : ∀ q, q < m → w8.cell? ⟨b9, o9 + (2 * q + 1) * 4 + 1, none⟩ = some (.int .i64 (γ q : Nat)) := fun q hq => by
            obtain ⟨ao, b8, o8, c8, e8, hle8, -, hc8, hcc⟩ := hnx.out.row.cell
            rw [Md.lGX_len] at e8 hle8
            obtain ⟨rfl, -, -⟩ := hc8 (by omega)
            cases e8
            have hg := (Cd.ca_get (Md.lG γ m ++ Md.lX) (2 * q + 1) (by rw [Md.lGX_len]; omega)).2.1
            rw [Md.getD_app1 _ (by rw [Md.lG_len]; omega), Md.lG_get (γ := γ) (r := 1) (by omega) m hq] at hg
            have := (hcc _ _ hg).1
            rw [← Nat.add_assoc] at this
            exact this
          obtain ⟨hF, hbU⟩ := hnx.out.prog
          have cb := Md.ms_build (G := k) (hT.out.below hbU) (fs := Md.fsG γ m) hF (Md.may_of hP.out)
          have hA := Lib.hid (fun q hq => cell_then (below_alloc (Below.refl _ w8) (.cells #[.slice (some ⟨b9, o9, none⟩) L c9] 30)) (hA0 q hq))
          clear hA0
          obtain ⟨U, hU⟩ : ∃ U, w8.alloc (.cells #[.slice (some ⟨b9, o9, none⟩) L c9] 30) = U := ⟨_, rfl⟩
          rw [hU] at cb hbU hA
          try rw [hU]
          replace hbU := Lib.hid hbU
          clear hnx hF hU
          with_reducible refine Calls.mono cb ?_
          rintro e w2 ⟨p, rfl, hm⟩
          clear cb
          have hmk := Md.made_k (γ := γ) (k := k) (by omega)
          obtain ⟨g1, g2, -⟩ := hm.var (cells (Md.glG k γ 0)).toArray 3
          have st0 : Hid (Md.Rg U (w2.alloc (.cells (cells (Md.glG k γ 0)).toArray 3)) k γ m p w2.heap.size 0 0) := Lib.hid (.a 0 0 rfl (Nat.zero_le _) ⟨g1, g2⟩)
          clear g1 g2 hm
          obtain ⟨CC, hCC⟩ : ∃ CC, (cells (Md.glG k γ 0)).toArray = CC := ⟨_, rfl⟩
          rw [hCC] at hmk st0
          clear hCC
          obtain ⟨N, hN⟩ : ∃ N, w2.heap.size = N := ⟨_, rfl⟩
          rw [hN] at st0
          go_upto_region 17 with fail
          try rw [hN]
          clear hN hmk
          go_wp2_with fail
          replace hL := Lib.hid hL
          go_loopw [11, 12] (fun u11 u wr => ∃ (ii : Nat) (x : Int), u11 = .int .i64 x ∧ u = .int .i64 ii ∧ Hid (Md.Rg U wr k γ m p N ii x)) (fun _ u _ => (L - (RowKit.intOf u).toNat))
          case atStart => exact ⟨0, 0, rfl, rfl, st0⟩
          case round =>
            obtain ⟨ii, x, rfl, rfl, hrd⟩ := hrel
            clear st0
            have i0 : (0 : Int) ≤ (ii : Int) := by omega
            have hL2 := hL.out
            rcases hrd.out.or with ⟨q, hi, hqm, rfl, hg⟩ | ⟨q, hi, hqm, rfl, hg⟩ | ⟨hi, hg⟩
            · clear hrd
              have i2 : (ii : Int) < (L : Int) := by omega
              have ew : IntKind.i64.wrap ((ii : Int) + 1) = (ii : Int) + 1 := by rw [IntKind.wrap_i64]; omega
              replace hi := Lib.hid hi
              clear hL2
              by_cases hq2 : q < m
              · have cd := Md.gs_do hg hP.out (by have := hi.out; omega) rfl rfl (Md.stA (γ := γ) (k := k) hq2).2
                rw [(Md.stA (γ := γ) (k := k) hq2).1] at cd
                go_wp2_with fail
                with_reducible refine Calls.mono cd ?_
                rintro e w5 ⟨pc, rfl, hg5⟩
                clear cd hg
                obtain ⟨hg6, kc⟩ := hg5.var #[.int .i64 0, .int .i64 0, .int .i64 pc, .int .i64 1, .int .i64 ((q : Int) + 1), .bool false] 24
                have d3 := cell_of kc (j := 3) rfl
                have d4 := cell_of kc (j := 4) rfl
                have d5 := cell_of kc (j := 5) rfl
                go_upto_region 22 with fail
                obtain ⟨W6, hW6⟩ : ∃ W, w5.alloc (.cells #[.int .i64 0, .int .i64 0, .int .i64 pc, .int .i64 1, .int .i64 ((q : Int) + 1), .bool false] 24) = W := ⟨_, rfl⟩
                rw [hW6] at hg6 d3 d4 d5
                try rw [hW6]
                obtain ⟨Nc, hNc⟩ : ∃ N, w5.heap.size = N := ⟨_, rfl⟩
                rw [hNc] at d3 d4 d5
                try rw [hNc]
                clear hW6 hNc kc hg5
                go_upto_region 28 with fail
                have hg8 := hg6
                clear hg6 d3 d4 d5
                have cg := Md.ms_globals hg8.ms (by omega) (by omega)
                go_wp2_with fail
                with_reducible refine Calls.mono cg ?_
                rintro e w9 ⟨v9, rfl, hb9, ⟨sg, cg9, rfl, -, hgc⟩⟩
                clear cg
                have hg9 := hg8.below hb9
                clear hb9 hg8
                have hlen : (Md.glG k γ q).length = k := Md.glG_len _
                rw [show (Md.bG k γ q).gl = Md.glG k γ q from rfl] at hgc ⊢
                rw [hlen] at hgc ⊢
                have hall : Hid (∀ j, j < k → ∃ b off x, sg = some ⟨b, off, none⟩ ∧ ∀ wr, Below w9.heap.size w9 wr → wr.cell? ⟨b, off + j, none⟩ = some (.int .i64 x) ∧ wr.cell? ⟨N, j, none⟩ = some (.int .i64 x)) := Lib.hid fun j hj => by
                  obtain ⟨b, off, e, -, -, hc⟩ := hgc j hj
                  exact ⟨b, off, _, e, fun wr hb => ⟨cell_then hb hc, cell_then hb (hg9.cell (by rw [hlen]; exact hj))⟩⟩
                have hnx : Hid (∀ wr, Below w9.heap.size w9 wr → Md.Rg U wr k γ m p N (ii + 1) ((q : Int) + 1)) := Lib.hid fun wr hb => .b _ q _ (by have := hi.out; omega) hq2 rfl (hg9.below hb)
                clear hgc hg9 hlen
                go_wp2_with fail
                go_loopw [16] (fun vj wx => ∃ j : Nat, vj = .int .i64 j ∧ j ≤ k ∧ Hid (Below w9.heap.size w9 wx)) (fun vj _ => (k - (RowKit.intOf vj).toNat))
                case atStart => exact ⟨0, rfl, by omega, Lib.hid (Below.refl _ _)⟩
                case round =>
                  obtain ⟨j, rfl, hjk, hB⟩ := hrel
                  by_cases hj : j < k
                  · obtain ⟨bg, og, xg, rfl, hcs⟩ := hall.out j hj
                    obtain ⟨q0, q1⟩ := hcs wr hB.out
                    have j2 : (j : Int) < (k : Int) := by omega
                    have j0 : (0 : Int) ≤ (j : Int) := by omega
                    have hB2 : Hid (∀ c, Below w9.heap.size w9 (wr.drewN c)) := Lib.hid fun c => below_drewN hB.out c
                    clear hcs hB
                    go_wp2_with fail
                    go_region
                    all_goals
                      go_wp2_with fail
                      go_roundw
                      case rel => exact ⟨j + 1, by go_num, by omega, Lib.hid (hB2.out 1)⟩
                      case measure => simp [RowKit.intOf]; omega
                  · obtain rfl : j = k := by omega
                    have j2 : ¬ (j : Int) < (j : Int) := by omega
                    have hnx2 := Lib.hid (hnx.out wr hB.out)
                    clear hnx hall hB
                    go_wp2_with fail
                    go_roundw
                    case rel => exact ⟨ii + 1, _, rfl, by have hi2 := hi.out; go_num, hnx2⟩
                    case measure => have hi2 := hi.out; have hL3 := hL.out; simp [RowKit.intOf]; omega
              · obtain rfl : m = q := by omega
                have cd := Md.gs_do hg hP.out (by have := hi.out; omega) rfl rfl (Md.stE (γ := γ) (k := k) (m := m)).2
                rw [(Md.stE (γ := γ) (k := k) (m := m)).1] at cd
                go_wp2_with fail
                with_reducible refine Calls.mono cd ?_
                rintro e w5 ⟨pc, rfl, hg5⟩
                clear cd hg
                obtain ⟨hg6, kc⟩ := hg5.var #[.int .i64 0, .int .i64 0, .int .i64 pc, .int .i64 0, .int .i64 0, .bool false] 24
                have d3 := cell_of kc (j := 3) rfl
                have d4 := cell_of kc (j := 4) rfl
                have d5 := cell_of kc (j := 5) rfl
                go_upto_region 22 with fail
                obtain ⟨W6, hW6⟩ : ∃ W, w5.alloc (.cells #[.int .i64 0, .int .i64 0, .int .i64 pc, .int .i64 0, .int .i64 0, .bool false] 24) = W := ⟨_, rfl⟩
                rw [hW6] at hg6 d3 d4 d5
                try rw [hW6]
                obtain ⟨Nc, hNc⟩ : ∃ N, w5.heap.size = N := ⟨_, rfl⟩
                rw [hNc] at d3 d4 d5
                try rw [hNc]
                clear hW6 hNc kc hg5
                go_upto_region 28 with fail
                have hg8 := hg6
                clear hg6 d3 d4 d5
                have cg := Md.ms_globals hg8.ms (by omega) (by omega)
                go_wp2_with fail
                with_reducible refine Calls.mono cg ?_
                rintro e w9 ⟨v9, rfl, hb9, ⟨sg, cg9, rfl, -, hgc⟩⟩
                clear cg
                have hg9 := hg8.below hb9
                clear hb9 hg8
                have hlen : (Md.glG k γ m).length = k := Md.glG_len _
                rw [show (Md.eG k γ m).gl = Md.glG k γ m from rfl] at hgc ⊢
                rw [hlen] at hgc ⊢
                have hall : Hid (∀ j, j < k → ∃ b off x, sg = some ⟨b, off, none⟩ ∧ ∀ wr, Below w9.heap.size w9 wr → wr.cell? ⟨b, off + j, none⟩ = some (.int .i64 x) ∧ wr.cell? ⟨N, j, none⟩ = some (.int .i64 x)) := Lib.hid fun j hj => by
                  obtain ⟨b, off, e, -, -, hc⟩ := hgc j hj
                  exact ⟨b, off, _, e, fun wr hb => ⟨cell_then hb hc, cell_then hb (hg9.cell (by rw [hlen]; exact hj))⟩⟩
                have hnx : Hid (∀ wr, Below w9.heap.size w9 wr → Md.Rg U wr k γ m p N (ii + 1) (m : Nat)) := Lib.hid fun wr hb => .e _ _ (by have := hi.out; omega) (hg9.below hb)
                clear hgc hg9 hlen
                go_wp2_with fail
                go_loopw [16] (fun vj wx => ∃ j : Nat, vj = .int .i64 j ∧ j ≤ k ∧ Hid (Below w9.heap.size w9 wx)) (fun vj _ => (k - (RowKit.intOf vj).toNat))
                case atStart => exact ⟨0, rfl, by omega, Lib.hid (Below.refl _ _)⟩
                case round =>
                  obtain ⟨j, rfl, hjk, hB⟩ := hrel
                  by_cases hj : j < k
                  · obtain ⟨bg, og, xg, rfl, hcs⟩ := hall.out j hj
                    obtain ⟨q0, q1⟩ := hcs wr hB.out
                    have j2 : (j : Int) < (k : Int) := by omega
                    have j0 : (0 : Int) ≤ (j : Int) := by omega
                    have hB2 : Hid (∀ c, Below w9.heap.size w9 (wr.drewN c)) := Lib.hid fun c => below_drewN hB.out c
                    clear hcs hB
                    go_wp2_with fail
                    go_region
                    all_goals
                      go_wp2_with fail
                      go_roundw
                      case rel => exact ⟨j + 1, by go_num, by omega, Lib.hid (hB2.out 1)⟩
                      case measure => simp [RowKit.intOf]; omega
                  · obtain rfl : j = k := by omega
                    have j2 : ¬ (j : Int) < (j : Int) := by omega
                    have hnx2 := Lib.hid (hnx.out wr hB.out)
                    clear hnx hall hB
                    go_wp2_with fail
                    go_roundw
                    case rel => exact ⟨ii + 1, _, rfl, by have hi2 := hi.out; go_num, hnx2⟩
                    case measure => have hi2 := hi.out; have hL3 := hL.out; simp [RowKit.intOf]; omega
            · clear hrd
              have i2 : (ii : Int) < (L : Int) := by omega
              have ew : IntKind.i64.wrap ((ii : Int) + 1) = (ii : Int) + 1 := by rw [IntKind.wrap_i64]; omega
              replace hi := Lib.hid hi
              clear hL2
              have cd := Md.gs_do hg hP.out (by have := hi.out; omega) rfl rfl (Md.stB (γ := γ) (k := k) hqm).2
              rw [(Md.stB (γ := γ) (k := k) hqm).1] at cd
              go_wp2_with fail
              with_reducible refine Calls.mono cd ?_
              rintro e w5 ⟨pc, rfl, hg5⟩
              clear cd hg
              obtain ⟨hg6, kc⟩ := hg5.var #[.int .i64 0, .int .i64 0, .int .i64 pc, .int .i64 7, .int .i64 0, .bool false] 24
              have d3 := cell_of kc (j := 3) rfl
              have d4 := cell_of kc (j := 4) rfl
              have d5 := cell_of kc (j := 5) rfl
              have cA := cell_then (below_alloc (Below.refl _ w5) (.cells #[.int .i64 0, .int .i64 0, .int .i64 pc, .int .i64 7, .int .i64 0, .bool false] 24)) (cell_then hg5.ms.bel (hA.out q hqm))
              go_upto_region 22 with fail
              obtain ⟨W6, hW6⟩ : ∃ W, w5.alloc (.cells #[.int .i64 0, .int .i64 0, .int .i64 pc, .int .i64 7, .int .i64 0, .bool false] 24) = W := ⟨_, rfl⟩
              rw [hW6] at hg6 d3 d4 d5 cA
              try rw [hW6]
              obtain ⟨Nc, hNc⟩ : ∃ N, w5.heap.size = N := ⟨_, rfl⟩
              rw [hNc] at d3 d4 d5
              try rw [hNc]
              clear hW6 hNc kc hg5
              rw [← hi.out] at cA
              have hgk := hγ q
              obtain ⟨gq, hgq⟩ : ∃ g, γ q = g := ⟨_, rfl⟩
              rw [hgq] at cA hgk
              have gk2 : (gq : Int) < (k : Int) := by omega
              have gk0 : (0 : Int) ≤ (gq : Int) := by omega
              have fz : W6.frozen? ⟨N, gq, none⟩ = false := frozen_of_row _ _ _ _ _ hg6.wt
              have cold := hg6.cell (j := gq) (by rw [Md.glG_len]; omega)
              obtain ⟨yold, hyold⟩ : ∃ y, (Md.glG k γ q).getD gq 0 = y := ⟨_, rfl⟩
              rw [hyold] at cold
              clear hyold
              have hg7 := hg6.set gq ((q : Int) + 1)
              rw [show (Md.glG k γ q).set gq ((q : Int) + 1) = Md.glG k γ (q + 1) by rw [← hgq]; rfl] at hg7
              replace hg7 := Lib.hid hg7
              go_upto_region 28 with fail
              obtain ⟨W7, hW7⟩ : ∃ W, W6.setCell ⟨N, gq, none⟩ (.int .i64 ((q : Int) + 1)) = W := ⟨_, rfl⟩
              rw [hW7] at hg7
              try rw [hW7]
              have hg8 := hg7.out
              clear hW7 hg6 hg7 fz cold d3 d4 d5 cA hgq
              have cg := Md.ms_globals hg8.ms (by omega) (by omega)
              go_wp2_with fail
              with_reducible refine Calls.mono cg ?_
              rintro e w9 ⟨v9, rfl, hb9, ⟨sg, cg9, rfl, -, hgc⟩⟩
              clear cg
              have hg9 := hg8.below hb9
              clear hb9 hg8
              have hlen : (Md.glG k γ (q + 1)).length = k := Md.glG_len _
              rw [show (Md.aG k γ (q + 1)).gl = Md.glG k γ (q + 1) from rfl] at hgc ⊢
              rw [hlen] at hgc ⊢
              have hall : Hid (∀ j, j < k → ∃ b off x, sg = some ⟨b, off, none⟩ ∧ ∀ wr, Below w9.heap.size w9 wr → wr.cell? ⟨b, off + j, none⟩ = some (.int .i64 x) ∧ wr.cell? ⟨N, j, none⟩ = some (.int .i64 x)) := Lib.hid fun j hj => by
                obtain ⟨b, off, e, -, -, hc⟩ := hgc j hj
                exact ⟨b, off, _, e, fun wr hb => ⟨cell_then hb hc, cell_then hb (hg9.cell (by rw [hlen]; exact hj))⟩⟩
              have hnx : Hid (∀ wr, Below w9.heap.size w9 wr → Md.Rg U wr k γ m p N (ii + 1) (q + 1 : Nat)) := Lib.hid fun wr hb => .a _ (q + 1) (by have := hi.out; omega) hqm (hg9.below hb)
              clear hgc hg9 hlen
              go_wp2_with fail
              go_loopw [16] (fun vj wx => ∃ j : Nat, vj = .int .i64 j ∧ j ≤ k ∧ Hid (Below w9.heap.size w9 wx)) (fun vj _ => (k - (RowKit.intOf vj).toNat))
              case atStart => exact ⟨0, rfl, by omega, Lib.hid (Below.refl _ _)⟩
              case round =>
                obtain ⟨j, rfl, hjk, hB⟩ := hrel
                by_cases hj : j < k
                · obtain ⟨bg, og, xg, rfl, hcs⟩ := hall.out j hj
                  obtain ⟨q0, q1⟩ := hcs wr hB.out
                  have j2 : (j : Int) < (k : Int) := by omega
                  have j0 : (0 : Int) ≤ (j : Int) := by omega
                  have hB2 : Hid (∀ c, Below w9.heap.size w9 (wr.drewN c)) := Lib.hid fun c => below_drewN hB.out c
                  clear hcs hB
                  go_wp2_with fail
                  go_region
                  all_goals
                    go_wp2_with fail
                    go_roundw
                    case rel => exact ⟨j + 1, by go_num, by omega, Lib.hid (hB2.out 1)⟩
                    case measure => simp [RowKit.intOf]; omega
                · obtain rfl : j = k := by omega
                  have j2 : ¬ (j : Int) < (j : Int) := by omega
                  have hnx2 := Lib.hid (hnx.out wr hB.out)
                  clear hnx hall hB
                  go_wp2_with fail
                  go_roundw
                  case rel => exact ⟨ii + 1, _, rfl, by have hi2 := hi.out; go_num, hnx2⟩
                  case measure => have hi2 := hi.out; have hL3 := hL.out; simp [RowKit.intOf]; omega
            · clear hrd
              obtain rfl : ii = L := by omega
              have i2 : ¬ (ii : Int) < (ii : Int) := by omega
              have i9 := Lib.hid (show ii < 90000 by omega)
              clear hL2 hL hi
              replace hg := Lib.hid hg
              go_wp2_with fail
              go_loopw [17, 18] (fun u17 u wx => ∃ j : Nat, u17 = .int .i64 (Md.nz ((Md.glG k γ m).take j) : Nat) ∧ u = .int .i64 j ∧ j ≤ k ∧ Hid (Below wr.heap.size wr wx)) (fun _ u _ => (k - (RowKit.intOf u).toNat))
              case atStart => exact ⟨0, rfl, rfl, by omega, Lib.hid (Below.refl _ _)⟩
              case round =>
                obtain ⟨j, rfl, rfl, hjk, hB⟩ := hrel
                have j0 : (0 : Int) ≤ (j : Int) := by omega
                have hlen : (Md.glG k γ m).length = k := Md.glG_len _
                have hgz := hg.out.below hB.out
                by_cases hj : j < k
                · have j2 : (j : Int) < (k : Int) := by omega
                  have cz := hgz.cell (j := j) (by rw [hlen]; exact hj)
                  have hz := Md.nz_next (Md.glG k γ m) j (by rw [hlen]; exact hj)
                  have hzl := Md.nz_le ((Md.glG k γ m).take j)
                  rw [List.length_take] at hzl
                  obtain ⟨y, hy⟩ : ∃ y, (Md.glG k γ m).getD j 0 = y := ⟨_, rfl⟩
                  rw [hy] at cz hz
                  obtain ⟨z, hz0⟩ : ∃ z, Md.nz ((Md.glG k γ m).take j) = z := ⟨_, rfl⟩
                  rw [hz0] at hz hzl ⊢
                  have ez : IntKind.i64.wrap ((z : Int) + 1) = (z : Int) + 1 := by rw [IntKind.wrap_i64]; omega
                  clear hy hz0 hgz
                  by_cases hy0 : y = 0
                  · rw [if_pos hy0, Nat.add_zero] at hz
                    subst hy0
                    replace hz := Lib.hid hz
                    go_wp2_with fail
                    go_roundw
                    case rel => exact ⟨j + 1, by rw [hz.out]; rfl, by go_num, by omega, hB⟩
                    case measure => simp [RowKit.intOf]; omega
                  · rw [if_neg hy0] at hz
                    replace hz := Lib.hid hz
                    go_wp2_with fail
                    go_roundw
                    case rel => exact ⟨j + 1, by rw [hz.out]; go_num, by go_num, by omega, hB⟩
                    case measure => simp [RowKit.intOf]; omega
                · obtain rfl : j = k := by omega
                  have j2 : ¬ (j : Int) < (j : Int) := by omega
                  rw [List.take_of_length_le (by omega)]
                  have hmd := hgz.ms.bel
                  have hbr := Lib.hid (hbU.out.trans (hmd.mono hbU.out.size))
                  have ct := Md.told_any (hT.out.below hbr.out)
                  replace hgz := Lib.hid hgz
                  clear hmd hB
                  obtain ⟨z, hz0⟩ : ∃ z, Md.nz (Md.glG j γ m) = z := ⟨_, rfl⟩
                  rw [hz0]
                  go_wp2_with fail
                  with_reducible refine Calls.mono ct ?_
                  rintro e wz ⟨rfl, hbz⟩
                  have hgy := hgz.out.below hbz
                  have hfin := Lib.hid (hbr.out.trans (hbz.mono hbr.out.size))
                  have cs : Calls Tryd.prog 20 #[.pointer (some ⟨p, 0, none⟩), .int .i64 0] wz (Still (.int .i64 5) wz) := Md.ms_state hgy.ms 0
                  have cr := Md.ms_reach hgy.ms (by have := i9.out; omega)
                  clear ct hbz hbr hgz hgy
                  go_wp2_with fail
                  with_reducible refine Calls.mono cs ?_
                  rintro e wq ⟨rfl, rfl⟩
                  clear cs
                  go_wp2_with fail
                  with_reducible refine Calls.mono cr ?_
                  rintro e w12 hr12
                  obtain ⟨s12, c12, rfl, hb12⟩ := hr12.count
                  rw [hz0]
                  have hfin2 := Lib.hid (hfin.out.trans (hb12.mono hfin.out.size))
                  clear cr hr12 hb12 hfin hz0
                  go_wp2_with fail
                  go_ret
                  exact ⟨rfl, hfin2.out⟩
      · obtain rfl : i = n := by omega
        have i2 : ¬ (i : Int) < (i : Int) := by omega
        have hm30 : i ≤ 30 := hi30
        obtain ⟨L, hL⟩ : ∃ L, 2 * i + 1 = L := ⟨_, rfl⟩
        have hP := Lib.hid (Md.pgG k1 k8 hm30 hγ)
        have hb1 := below_alloc (Below.refl wr.heap.size wr) (.cells #[.int .i64 0, .int .i64 0, .int .i64 0, .int .i64 0] 29)
        have hrow : Hid (GRow 4 (wr.alloc (.cells #[.int .i64 0, .int .i64 0, .int .i64 0, .int .i64 0] 29)) (.slice s (2 * i) c) (2 * i) (ca (Md.lG γ i))) := Lib.hid (by have := hpw.out.row.below hb1; rw [Md.lG_len] at this; exact this)
        have hsrc : Hid (Src Tryd.prog 4 30 (.slice (some ⟨wr.heap.size, 0, none⟩) 1 1) 1 (ca Md.lX) (wr.alloc (.cells #[.int .i64 0, .int .i64 0, .int .i64 0, .int .i64 0] 29))) := Lib.hid (Md.src_lit wr Md.lX (by decide) (by decide))
        have hbd : 2 * i + 1 ≤ 1000000 := by omega
        have key : Hid (∀ u8 w8, GRow 4 w8 u8 (2 * i + 1) (ca (Md.lG γ i) ++ ca Md.lX) → Wrote (fun k => (Value.slice s (2 * i) c).ownBlock = some k) (wr.alloc (.cells #[.int .i64 0, .int .i64 0, .int .i64 0, .int .i64 0] 29)) (fun k => u8.ownBlock = some k) w8 → ∃ b off c, u8 = .slice (some ⟨b, off, none⟩) L c ∧ L ≤ c ∧ Hid (Md.Pw w w8 (.slice (some ⟨b, off, none⟩) L c) (Md.lG γ i ++ Md.lX))) := Lib.hid fun u8 w8 g1 g2 => by
          obtain ⟨ao, b8, o8, c8, rfl, hle, -, hc8, -⟩ := g1.cell
          obtain ⟨rfl, -, -⟩ := hc8 (by omega)
          have hq := hpw.out.more (l := Md.lX) hb1 (by rw [Md.lG_len]; exact g1) g2
          rw [show 2 * i + 1 = L by omega] at hq hle ⊢
          exact ⟨b8, o8, c8, rfl, hle, Lib.hid hq⟩
        clear hpw hb1
        generalize ca (Md.lG γ i) = XX at *
        go_wp2_with (at_builtin; refine wpList_append_g rfl (.tmp 54) (.tmp 56) rfl rfl eltIns hrow.out rfl rfl hsrc.out hbd ?_; intro u8 w8 g1 g2; have hk := key.out u8 w8 g1 g2; obtain ⟨b9, o9, c9, rfl, hle9, hnx⟩ := hk; clear key g1 g2 hrow hsrc)
        clear hle9
        have hA0 : ∀ q, q < i → w8.cell? ⟨b9, o9 + (2 * q + 1) * 4 + 1, none⟩ = some (.int .i64 (γ q : Nat)) := fun q hq => by
          obtain ⟨ao, b8, o8, c8, e8, hle8, -, hc8, hcc⟩ := hnx.out.row.cell
          rw [Md.lGX_len] at e8 hle8
          obtain ⟨rfl, -, -⟩ := hc8 (by omega)
          cases e8
          have hg := (Cd.ca_get (Md.lG γ i ++ Md.lX) (2 * q + 1) (by rw [Md.lGX_len]; omega)).2.1
          rw [Md.getD_app1 _ (by rw [Md.lG_len]; omega), Md.lG_get (γ := γ) (r := 1) (by omega) i hq] at hg
          have := (hcc _ _ hg).1
          rw [← Nat.add_assoc] at this
          exact this
        obtain ⟨hF, hbU⟩ := hnx.out.prog
        have cb := Md.ms_build (G := k) (hT.out.below hbU) (fs := Md.fsG γ i) hF (Md.may_of hP.out)
        have hA := Lib.hid (fun q hq => cell_then (below_alloc (Below.refl _ w8) (.cells #[.slice (some ⟨b9, o9, none⟩) L c9] 30)) (hA0 q hq))
        clear hA0
        obtain ⟨U, hU⟩ : ∃ U, w8.alloc (.cells #[.slice (some ⟨b9, o9, none⟩) L c9] 30) = U := ⟨_, rfl⟩
        rw [hU] at cb hbU hA
        try rw [hU]
        replace hbU := Lib.hid hbU
        clear hnx hF hU
        with_reducible refine Calls.mono cb ?_
        rintro e w2 ⟨p, rfl, hm⟩
        clear cb
        have hmk := Md.made_k (γ := γ) (k := k) (by omega)
        obtain ⟨g1, g2, -⟩ := hm.var (cells (Md.glG k γ 0)).toArray 3
        have st0 : Hid (Md.Rg U (w2.alloc (.cells (cells (Md.glG k γ 0)).toArray 3)) k γ i p w2.heap.size 0 0) := Lib.hid (.a 0 0 rfl (Nat.zero_le _) ⟨g1, g2⟩)
        clear g1 g2 hm
        obtain ⟨CC, hCC⟩ : ∃ CC, (cells (Md.glG k γ 0)).toArray = CC := ⟨_, rfl⟩
        rw [hCC] at hmk st0
        clear hCC
        obtain ⟨N, hN⟩ : ∃ N, w2.heap.size = N := ⟨_, rfl⟩
        rw [hN] at st0
        go_upto_region 17 with fail
        try rw [hN]
        clear hN hmk
        go_wp2_with fail
        replace hL := Lib.hid hL
        go_loopw [11, 12] (fun u11 u wr => ∃ (ii : Nat) (x : Int), u11 = .int .i64 x ∧ u = .int .i64 ii ∧ Hid (Md.Rg U wr k γ i p N ii x)) (fun _ u _ => (L - (RowKit.intOf u).toNat))
        case atStart => exact ⟨0, 0, rfl, rfl, st0⟩
        case round =>
          obtain ⟨ii, x, rfl, rfl, hrd⟩ := hrel
          clear st0
          have i0 : (0 : Int) ≤ (ii : Int) := by omega
          have hL2 := hL.out
          rcases hrd.out.or with ⟨q, hi, hqm, rfl, hg⟩ | ⟨q, hi, hqm, rfl, hg⟩ | ⟨hi, hg⟩
          · clear hrd
            have i2 : (ii : Int) < (L : Int) := by omega
            have ew : IntKind.i64.wrap ((ii : Int) + 1) = (ii : Int) + 1 := by rw [IntKind.wrap_i64]; omega
            replace hi := Lib.hid hi
            clear hL2
            by_cases hq2 : q < i
            · have cd := Md.gs_do hg hP.out (by have := hi.out; omega) rfl rfl (Md.stA (γ := γ) (k := k) hq2).2
              rw [(Md.stA (γ := γ) (k := k) hq2).1] at cd
              go_wp2_with fail
              with_reducible refine Calls.mono cd ?_
              rintro e w5 ⟨pc, rfl, hg5⟩
              clear cd hg
              obtain ⟨hg6, kc⟩ := hg5.var #[.int .i64 0, .int .i64 0, .int .i64 pc, .int .i64 1, .int .i64 ((q : Int) + 1), .bool false] 24
              have d3 := cell_of kc (j := 3) rfl
              have d4 := cell_of kc (j := 4) rfl
              have d5 := cell_of kc (j := 5) rfl
              go_upto_region 22 with fail
              obtain ⟨W6, hW6⟩ : ∃ W, w5.alloc (.cells #[.int .i64 0, .int .i64 0, .int .i64 pc, .int .i64 1, .int .i64 ((q : Int) + 1), .bool false] 24) = W := ⟨_, rfl⟩
              rw [hW6] at hg6 d3 d4 d5
              try rw [hW6]
              obtain ⟨Nc, hNc⟩ : ∃ N, w5.heap.size = N := ⟨_, rfl⟩
              rw [hNc] at d3 d4 d5
              try rw [hNc]
              clear hW6 hNc kc hg5
              go_upto_region 28 with fail
              have hg8 := hg6
              clear hg6 d3 d4 d5
              have cg := Md.ms_globals hg8.ms (by omega) (by omega)
              go_wp2_with fail
              with_reducible refine Calls.mono cg ?_
              rintro e w9 ⟨v9, rfl, hb9, ⟨sg, cg9, rfl, -, hgc⟩⟩
              clear cg
              have hg9 := hg8.below hb9
              clear hb9 hg8
              have hlen : (Md.glG k γ q).length = k := Md.glG_len _
              rw [show (Md.bG k γ q).gl = Md.glG k γ q from rfl] at hgc ⊢
              rw [hlen] at hgc ⊢
              have hall : Hid (∀ j, j < k → ∃ b off x, sg = some ⟨b, off, none⟩ ∧ ∀ wr, Below w9.heap.size w9 wr → wr.cell? ⟨b, off + j, none⟩ = some (.int .i64 x) ∧ wr.cell? ⟨N, j, none⟩ = some (.int .i64 x)) := Lib.hid fun j hj => by
                obtain ⟨b, off, e, -, -, hc⟩ := hgc j hj
                exact ⟨b, off, _, e, fun wr hb => ⟨cell_then hb hc, cell_then hb (hg9.cell (by rw [hlen]; exact hj))⟩⟩
              have hnx : Hid (∀ wr, Below w9.heap.size w9 wr → Md.Rg U wr k γ i p N (ii + 1) ((q : Int) + 1)) := Lib.hid fun wr hb => .b _ q _ (by have := hi.out; omega) hq2 rfl (hg9.below hb)
              clear hgc hg9 hlen
              go_wp2_with fail
              go_loopw [16] (fun vj wx => ∃ j : Nat, vj = .int .i64 j ∧ j ≤ k ∧ Hid (Below w9.heap.size w9 wx)) (fun vj _ => (k - (RowKit.intOf vj).toNat))
              case atStart => exact ⟨0, rfl, by omega, Lib.hid (Below.refl _ _)⟩
              case round =>
                obtain ⟨j, rfl, hjk, hB⟩ := hrel
                by_cases hj : j < k
                · obtain ⟨bg, og, xg, rfl, hcs⟩ := hall.out j hj
                  obtain ⟨q0, q1⟩ := hcs wr hB.out
                  have j2 : (j : Int) < (k : Int) := by omega
                  have j0 : (0 : Int) ≤ (j : Int) := by omega
                  have hB2 : Hid (∀ c, Below w9.heap.size w9 (wr.drewN c)) := Lib.hid fun c => below_drewN hB.out c
                  clear hcs hB
                  go_wp2_with fail
                  go_region
                  all_goals
                    go_wp2_with fail
                    go_roundw
                    case rel => exact ⟨j + 1, by go_num, by omega, Lib.hid (hB2.out 1)⟩
                    case measure => simp [RowKit.intOf]; omega
                · obtain rfl : j = k := by omega
                  have j2 : ¬ (j : Int) < (j : Int) := by omega
                  have hnx2 := Lib.hid (hnx.out wr hB.out)
                  clear hnx hall hB
                  go_wp2_with fail
                  go_roundw
                  case rel => exact ⟨ii + 1, _, rfl, by have hi2 := hi.out; go_num, hnx2⟩
                  case measure => have hi2 := hi.out; have hL3 := hL.out; simp [RowKit.intOf]; omega
            · obtain rfl : i = q := by omega
              have cd := Md.gs_do hg hP.out (by have := hi.out; omega) rfl rfl (Md.stE (γ := γ) (k := k) (m := i)).2
              rw [(Md.stE (γ := γ) (k := k) (m := i)).1] at cd
              go_wp2_with fail
              with_reducible refine Calls.mono cd ?_
              rintro e w5 ⟨pc, rfl, hg5⟩
              clear cd hg
              obtain ⟨hg6, kc⟩ := hg5.var #[.int .i64 0, .int .i64 0, .int .i64 pc, .int .i64 0, .int .i64 0, .bool false] 24
              have d3 := cell_of kc (j := 3) rfl
              have d4 := cell_of kc (j := 4) rfl
              have d5 := cell_of kc (j := 5) rfl
              go_upto_region 22 with fail
              obtain ⟨W6, hW6⟩ : ∃ W, w5.alloc (.cells #[.int .i64 0, .int .i64 0, .int .i64 pc, .int .i64 0, .int .i64 0, .bool false] 24) = W := ⟨_, rfl⟩
              rw [hW6] at hg6 d3 d4 d5
              try rw [hW6]
              obtain ⟨Nc, hNc⟩ : ∃ N, w5.heap.size = N := ⟨_, rfl⟩
              rw [hNc] at d3 d4 d5
              try rw [hNc]
              clear hW6 hNc kc hg5
              go_upto_region 28 with fail
              have hg8 := hg6
              clear hg6 d3 d4 d5
              have cg := Md.ms_globals hg8.ms (by omega) (by omega)
              go_wp2_with fail
              with_reducible refine Calls.mono cg ?_
              rintro e w9 ⟨v9, rfl, hb9, ⟨sg, cg9, rfl, -, hgc⟩⟩
              clear cg
              have hg9 := hg8.below hb9
              clear hb9 hg8
              have hlen : (Md.glG k γ i).length = k := Md.glG_len _
              rw [show (Md.eG k γ i).gl = Md.glG k γ i from rfl] at hgc ⊢
              rw [hlen] at hgc ⊢
              have hall : Hid (∀ j, j < k → ∃ b off x, sg = some ⟨b, off, none⟩ ∧ ∀ wr, Below w9.heap.size w9 wr → wr.cell? ⟨b, off + j, none⟩ = some (.int .i64 x) ∧ wr.cell? ⟨N, j, none⟩ = some (.int .i64 x)) := Lib.hid fun j hj => by
                obtain ⟨b, off, e, -, -, hc⟩ := hgc j hj
                exact ⟨b, off, _, e, fun wr hb => ⟨cell_then hb hc, cell_then hb (hg9.cell (by rw [hlen]; exact hj))⟩⟩
              have hnx : Hid (∀ wr, Below w9.heap.size w9 wr → Md.Rg U wr k γ i p N (ii + 1) (i : Nat)) := Lib.hid fun wr hb => .e _ _ (by have := hi.out; omega) (hg9.below hb)
              clear hgc hg9 hlen
              go_wp2_with fail
              go_loopw [16] (fun vj wx => ∃ j : Nat, vj = .int .i64 j ∧ j ≤ k ∧ Hid (Below w9.heap.size w9 wx)) (fun vj _ => (k - (RowKit.intOf vj).toNat))
              case atStart => exact ⟨0, rfl, by omega, Lib.hid (Below.refl _ _)⟩
              case round =>
                obtain ⟨j, rfl, hjk, hB⟩ := hrel
                by_cases hj : j < k
                · obtain ⟨bg, og, xg, rfl, hcs⟩ := hall.out j hj
                  obtain ⟨q0, q1⟩ := hcs wr hB.out
                  have j2 : (j : Int) < (k : Int) := by omega
                  have j0 : (0 : Int) ≤ (j : Int) := by omega
                  have hB2 : Hid (∀ c, Below w9.heap.size w9 (wr.drewN c)) := Lib.hid fun c => below_drewN hB.out c
                  clear hcs hB
                  go_wp2_with fail
                  go_region
                  all_goals
                    go_wp2_with fail
                    go_roundw
                    case rel => exact ⟨j + 1, by go_num, by omega, Lib.hid (hB2.out 1)⟩
                    case measure => simp [RowKit.intOf]; omega
                · obtain rfl : j = k := by omega
                  have j2 : ¬ (j : Int) < (j : Int) := by omega
                  have hnx2 := Lib.hid (hnx.out wr hB.out)
                  clear hnx hall hB
                  go_wp2_with fail
                  go_roundw
                  case rel => exact ⟨ii + 1, _, rfl, by have hi2 := hi.out; go_num, hnx2⟩
                  case measure => have hi2 := hi.out; have hL3 := hL.out; simp [RowKit.intOf]; omega
          · clear hrd
            have i2 : (ii : Int) < (L : Int) := by omega
            have ew : IntKind.i64.wrap ((ii : Int) + 1) = (ii : Int) + 1 := by rw [IntKind.wrap_i64]; omega
            replace hi := Lib.hid hi
            clear hL2
            have cd := Md.gs_do hg hP.out (by have := hi.out; omega) rfl rfl (Md.stB (γ := γ) (k := k) hqm).2
            rw [(Md.stB (γ := γ) (k := k) hqm).1] at cd
            go_wp2_with fail
            with_reducible refine Calls.mono cd ?_
            rintro e w5 ⟨pc, rfl, hg5⟩
            clear cd hg
            obtain ⟨hg6, kc⟩ := hg5.var #[.int .i64 0, .int .i64 0, .int .i64 pc, .int .i64 7, .int .i64 0, .bool false] 24
            have d3 := cell_of kc (j := 3) rfl
            have d4 := cell_of kc (j := 4) rfl
            have d5 := cell_of kc (j := 5) rfl
            have cA := cell_then (below_alloc (Below.refl _ w5) (.cells #[.int .i64 0, .int .i64 0, .int .i64 pc, .int .i64 7, .int .i64 0, .bool false] 24)) (cell_then hg5.ms.bel (hA.out q hqm))
            go_upto_region 22 with fail
            obtain ⟨W6, hW6⟩ : ∃ W, w5.alloc (.cells #[.int .i64 0, .int .i64 0, .int .i64 pc, .int .i64 7, .int .i64 0, .bool false] 24) = W := ⟨_, rfl⟩
            rw [hW6] at hg6 d3 d4 d5 cA
            try rw [hW6]
            obtain ⟨Nc, hNc⟩ : ∃ N, w5.heap.size = N := ⟨_, rfl⟩
            rw [hNc] at d3 d4 d5
            try rw [hNc]
            clear hW6 hNc kc hg5
            rw [← hi.out] at cA
            have hgk := hγ q
            obtain ⟨gq, hgq⟩ : ∃ g, γ q = g := ⟨_, rfl⟩
            rw [hgq] at cA hgk
            have gk2 : (gq : Int) < (k : Int) := by omega
            have gk0 : (0 : Int) ≤ (gq : Int) := by omega
            have fz : W6.frozen? ⟨N, gq, none⟩ = false := frozen_of_row _ _ _ _ _ hg6.wt
            have cold := hg6.cell (j := gq) (by rw [Md.glG_len]; omega)
            obtain ⟨yold, hyold⟩ : ∃ y, (Md.glG k γ q).getD gq 0 = y := ⟨_, rfl⟩
            rw [hyold] at cold
            clear hyold
            have hg7 := hg6.set gq ((q : Int) + 1)
            rw [show (Md.glG k γ q).set gq ((q : Int) + 1) = Md.glG k γ (q + 1) by rw [← hgq]; rfl] at hg7
            replace hg7 := Lib.hid hg7
            go_upto_region 28 with fail
            obtain ⟨W7, hW7⟩ : ∃ W, W6.setCell ⟨N, gq, none⟩ (.int .i64 ((q : Int) + 1)) = W := ⟨_, rfl⟩
            rw [hW7] at hg7
            try rw [hW7]
            have hg8 := hg7.out
            clear hW7 hg6 hg7 fz cold d3 d4 d5 cA hgq
            have cg := Md.ms_globals hg8.ms (by omega) (by omega)
            go_wp2_with fail
            with_reducible refine Calls.mono cg ?_
            rintro e w9 ⟨v9, rfl, hb9, ⟨sg, cg9, rfl, -, hgc⟩⟩
            clear cg
            have hg9 := hg8.below hb9
            clear hb9 hg8
            have hlen : (Md.glG k γ (q + 1)).length = k := Md.glG_len _
            rw [show (Md.aG k γ (q + 1)).gl = Md.glG k γ (q + 1) from rfl] at hgc ⊢
            rw [hlen] at hgc ⊢
            have hall : Hid (∀ j, j < k → ∃ b off x, sg = some ⟨b, off, none⟩ ∧ ∀ wr, Below w9.heap.size w9 wr → wr.cell? ⟨b, off + j, none⟩ = some (.int .i64 x) ∧ wr.cell? ⟨N, j, none⟩ = some (.int .i64 x)) := Lib.hid fun j hj => by
              obtain ⟨b, off, e, -, -, hc⟩ := hgc j hj
              exact ⟨b, off, _, e, fun wr hb => ⟨cell_then hb hc, cell_then hb (hg9.cell (by rw [hlen]; exact hj))⟩⟩
            have hnx : Hid (∀ wr, Below w9.heap.size w9 wr → Md.Rg U wr k γ i p N (ii + 1) (q + 1 : Nat)) := Lib.hid fun wr hb => .a _ (q + 1) (by have := hi.out; omega) hqm (hg9.below hb)
            clear hgc hg9 hlen
            go_wp2_with fail
            go_loopw [16] (fun vj wx => ∃ j : Nat, vj = .int .i64 j ∧ j ≤ k ∧ Hid (Below w9.heap.size w9 wx)) (fun vj _ => (k - (RowKit.intOf vj).toNat))
            case atStart => exact ⟨0, rfl, by omega, Lib.hid (Below.refl _ _)⟩
            case round =>
              obtain ⟨j, rfl, hjk, hB⟩ := hrel
              by_cases hj : j < k
              · obtain ⟨bg, og, xg, rfl, hcs⟩ := hall.out j hj
                obtain ⟨q0, q1⟩ := hcs wr hB.out
                have j2 : (j : Int) < (k : Int) := by omega
                have j0 : (0 : Int) ≤ (j : Int) := by omega
                have hB2 : Hid (∀ c, Below w9.heap.size w9 (wr.drewN c)) := Lib.hid fun c => below_drewN hB.out c
                clear hcs hB
                go_wp2_with fail
                go_region
                all_goals
                  go_wp2_with fail
                  go_roundw
                  case rel => exact ⟨j + 1, by go_num, by omega, Lib.hid (hB2.out 1)⟩
                  case measure => simp [RowKit.intOf]; omega
              · obtain rfl : j = k := by omega
                have j2 : ¬ (j : Int) < (j : Int) := by omega
                have hnx2 := Lib.hid (hnx.out wr hB.out)
                clear hnx hall hB
                go_wp2_with fail
                go_roundw
                case rel => exact ⟨ii + 1, _, rfl, by have hi2 := hi.out; go_num, hnx2⟩
                case measure => have hi2 := hi.out; have hL3 := hL.out; simp [RowKit.intOf]; omega
          · clear hrd
            obtain rfl : ii = L := by omega
            have i2 : ¬ (ii : Int) < (ii : Int) := by omega
            have i9 := Lib.hid (show ii < 90000 by omega)
            clear hL2 hL hi
            replace hg := Lib.hid hg
            go_wp2_with fail
            go_loopw [17, 18] (fun u17 u wx => ∃ j : Nat, u17 = .int .i64 (Md.nz ((Md.glG k γ i).take j) : Nat) ∧ u = .int .i64 j ∧ j ≤ k ∧ Hid (Below wr.heap.size wr wx)) (fun _ u _ => (k - (RowKit.intOf u).toNat))
            case atStart => exact ⟨0, rfl, rfl, by omega, Lib.hid (Below.refl _ _)⟩
            case round =>
              obtain ⟨j, rfl, rfl, hjk, hB⟩ := hrel
              have j0 : (0 : Int) ≤ (j : Int) := by omega
              have hlen : (Md.glG k γ i).length = k := Md.glG_len _
              have hgz := hg.out.below hB.out
              by_cases hj : j < k
              · have j2 : (j : Int) < (k : Int) := by omega
                have cz := hgz.cell (j := j) (by rw [hlen]; exact hj)
                have hz := Md.nz_next (Md.glG k γ i) j (by rw [hlen]; exact hj)
                have hzl := Md.nz_le ((Md.glG k γ i).take j)
                rw [List.length_take] at hzl
                obtain ⟨y, hy⟩ : ∃ y, (Md.glG k γ i).getD j 0 = y := ⟨_, rfl⟩
                rw [hy] at cz hz
                obtain ⟨z, hz0⟩ : ∃ z, Md.nz ((Md.glG k γ i).take j) = z := ⟨_, rfl⟩
                rw [hz0] at hz hzl ⊢
                have ez : IntKind.i64.wrap ((z : Int) + 1) = (z : Int) + 1 := by rw [IntKind.wrap_i64]; omega
                clear hy hz0 hgz
                by_cases hy0 : y = 0
                · rw [if_pos hy0, Nat.add_zero] at hz
                  subst hy0
                  replace hz := Lib.hid hz
                  go_wp2_with fail
                  go_roundw
                  case rel => exact ⟨j + 1, by rw [hz.out]; rfl, by go_num, by omega, hB⟩
                  case measure => simp [RowKit.intOf]; omega
                · rw [if_neg hy0] at hz
                  replace hz := Lib.hid hz
                  go_wp2_with fail
                  go_roundw
                  case rel => exact ⟨j + 1, by rw [hz.out]; go_num, by go_num, by omega, hB⟩
                  case measure => simp [RowKit.intOf]; omega
              · obtain rfl : j = k := by omega
                have j2 : ¬ (j : Int) < (j : Int) := by omega
                rw [List.take_of_length_le (by omega)]
                have hmd := hgz.ms.bel
                have hbr := Lib.hid (hbU.out.trans (hmd.mono hbU.out.size))
                have ct := Md.told_any (hT.out.below hbr.out)
                replace hgz := Lib.hid hgz
                clear hmd hB
                obtain ⟨z, hz0⟩ : ∃ z, Md.nz (Md.glG j γ i) = z := ⟨_, rfl⟩
                rw [hz0]
                go_wp2_with fail
                with_reducible refine Calls.mono ct ?_
                rintro e wz ⟨rfl, hbz⟩
                have hgy := hgz.out.below hbz
                have hfin := Lib.hid (hbr.out.trans (hbz.mono hbr.out.size))
                have cs : Calls Tryd.prog 20 #[.pointer (some ⟨p, 0, none⟩), .int .i64 0] wz (Still (.int .i64 5) wz) := Md.ms_state hgy.ms 0
                have cr := Md.ms_reach hgy.ms (by have := i9.out; omega)
                clear ct hbz hbr hgz hgy
                go_wp2_with fail
                with_reducible refine Calls.mono cs ?_
                rintro e wq ⟨rfl, rfl⟩
                clear cs
                go_wp2_with fail
                with_reducible refine Calls.mono cr ?_
                rintro e w12 hr12
                obtain ⟨s12, c12, rfl, hb12⟩ := hr12.count
                rw [hz0]
                have hfin2 := Lib.hid (hfin.out.trans (hb12.mono hfin.out.size))
                clear cr hr12 hb12 hfin hz0
                go_wp2_with fail
                go_ret
                exact ⟨rfl, hfin2.out⟩

set_option maxRecDepth 100000 in
theorem lifted (os : Os) (started : os.Started) (H : Type) (enc : TypeId × Value → H) :
    ReturnsInHanded {} Tryd.checked os 9 .any (fun w args => (Rows.modelGlobalsSpec.pre enc Tryd.prog Tryd.f9 [] false w args ∧ laidMetH Tryd.prog [("treadmill/code.takes", Rows.laid_treadmill_code_takes)] w) ∧ sizedMet enc Tryd.prog Tryd.f9 (OpenSpec.ofChange Rows.modelGlobalsSpec) false w args) (Rows.modelGlobalsSpec.post enc Tryd.prog Tryd.f9 false true false false) := by
  refine returnsInHanded_of_change_and (C := Tryd.checked) (X := fun w _ => laidMetH Tryd.prog [("treadmill/code.takes", Rows.laid_treadmill_code_takes)] w) (fun _ _ _ hh h => h.of_heap hh) own started (by kernel_rfl) Tryd.func9
    (ChangeSpec.witness_shaped (enc := enc) (C := Tryd.checked) (os := os) (X := fun w _ => laidMetH Tryd.prog [("treadmill/code.takes", Rows.laid_treadmill_code_takes)] w) false (World.doorLaid Tryd.prog 400 os) #[.slice none 0 0, .int .i64 0] 8 rfl (World.shaped_of_RefB (by kernel_rfl) (by kernel_rfl)) (by kernel_rfl) (by kernel_rfl) (by kernel_rfl) (door_met os _)) ?_
  intro W base args ds gs before hval0 hW _ _ hL _
  have hval : ∀ (j : Nat) t v, Tryd.f9.params[j]? = some t → args[j]? = some v → Value.okWide Tryd.prog W .any base t v := hval0
  have hW' := hW
  obtain ⟨p, q, hA0, hV, rfl, hfz, hnd⟩ := hW
  have hA : DataW.TrodAll enc Tryd.prog W 0 (fun _ => true) true Tryd.f9.params.toList args.toList ds p := hA0
  rw [Tryd.params9] at hA hval
  obtain ⟨v0, vs0, d0, ds0, p0, q0, hargs, rfl, rfl, h0, r0⟩ := trodAll_cons hA
  obtain ⟨v1, vs1, d1, ds1, p1, q1, rfl, rfl, rfl, h1, r1⟩ := trodAll_cons r0
  obtain ⟨rfl, rfl, rfl⟩ := trodAll_nil r1
  obtain rfl : args = #[v0, v1] := by cases args; simp_all
  obtain ⟨rfl, rfl⟩ := trodVars_none hV
  obtain ⟨z0, i0⟩ := arg_ints (hval 0 36 v0 rfl rfl) h0
  obtain ⟨a1, rfl, rfl, rfl, w1⟩ := open_int Tryd.underlying3 (hval 1 3 v1 rfl rfl) h1
  clear hA0 hval0
  simp only [List.append_nil] at hW'
  have lt0 : ∀ x ∈ p0, x.block < W.heap.size := fun x hx => by have := hW'.lt x (by simp [hx]); simpa using this
  refine (walk v0 z0 a1 W (tk_of_laid hL) i0 w1).mono fun e W' ⟨he, hg⟩ => ?_
  subst he
  exact ⟨_, rfl, post_of_kept (pa := _) (pv := []) hW' (fun _ _ _ => (trodAll_cons_mk (shut_bool Tryd.underlying4 _) trodAll_mk0)) (trodAll_cons_mk (Below.trod laidOut (by kernel_rfl) (of_decide_eq_true (by kernel_rfl)) h0 hg lt0) (trodAll_cons_mk (shut_int Tryd.underlying3 w1) trodAll_mk0)) (fun _ _ => rfl) (by simp) hg⟩

theorem over : Rows.modelGlobalsRow.holds Tryd.pinned (OpenSpec.ofChange Rows.modelGlobalsSpec) :=
  OpenClaim.holds_of_wide 9 Tryd.f9 rfl rfl rfl rfl rfl rfl rfl ⟨rfl, rfl, rfl, rfl, rfl⟩ rfl rfl rfl rfl rfl (by kernel_rfl) Tryd.func9 (by kernel_rfl)
    (of_decide_eq_true (by kernel_rfl)) (by unfold Func.isWrapper; first | (rw [if_pos (by decide +kernel)]; kernel_rfl) | (rw [if_neg (by decide +kernel)]; exact ⟨rfl, rfl⟩))
    (fun os started H enc _ => lifted os started H enc)

theorem proved : Rows.ModelGlobalsCardSaid :=
  Claim7.holds_tied_plain_at .later [] [.data] true Rows.modelGlobalsCard.stood.harness true
    over (fun _ h => by cases h) (by kernel_rfl) (fun _ h => by cases h) modelGlobals_row_tie rfl ⟨rfl, rfl⟩ (by kernel_rfl) rfl
    (fun f fn hf hfn => by
      obtain rfl : f = 9 := Option.some.inj ((show Tryd.prog.funcNamed "treadmill/treadmilllaw16.ModelGlobals" = some 9 by kernel_rfl).symm.trans hf) |>.symm
      obtain rfl : fn = Tryd.f9 := (Option.some.inj (Tryd.func9.symm.trans hfn)).symm
      exact ⟨by kernel_rfl, fun j t ht => by
        rw [Tryd.params9] at ht
        have hm : t ∈ [36, 3] := by simpa using Array.mem_of_getElem? ht
        have hall : ([36, 3].all fun u => !Tryd.prog.wantsStandIn u) = true := by kernel_rfl
        exact (show Tryd.prog.wantsStandIn t = false by simpa using List.all_eq_true.1 hall t hm)⟩)
    (by kernel_rfl)
#print axioms proved
end Go.Proofs.YtdnajpnnjfncbaaDoor.modelGlobals
