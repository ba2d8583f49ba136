import Derived.Test.YtdnajpnnjfncbaaDoorMdFl
import Derived.Test.YtdnajpnnjfncbaaDoorMB4
import Derived.WalkKit
import Derived.ProofKit
import Derived.OpenShut
import Derived.Test.YtdnajpnnjfncbaaDoorTie
import Derived.Test.YtdnajpnnjfncbaaDoorCards
import Derived.LaidMore
import Derived.Stop.Joined
import Derived.SevenTiedAt
import Derived.Deep.RegionHeld3
import Derived.Deep.RegionWith
import Derived.Deep.Cut
import Derived.Deep.CutBlock
import Derived.Deep.CutRange
import Derived.Deep.LoopGhost
import Derived.Deep.DeepCutAuto
import Derived.RegionTactic
import Derived.StillTailTactics
import Derived.Deep.RegionLaw
/- What can't be done ends a goroutine, and nobody else: slots that there are not, nothing where something is wanted (16.1): an object of any size (1 to 256), any slot. No further condition but the listed table. -/
namespace Go.Proofs.YtdnajpnnjfncbaaDoor.modelFaults
open Go.ChangeShapes Go.WideShapes Go.ChangeAt Go.WideElems Go.RowKit Go.Lib Fx Ho Gr Cd
set_option linter.unusedVariables false

theorem own : ownKnob Tryd.prog.godebug = none := by kernel_rfl

set_option maxRecDepth 100000 in
set_option maxHeartbeats 4000000 in
theorem walk (a0 : Int) (a1 : Int) (a2 : Bool) (w : World) (hT : Tk w) (w0 : (Lit.int .i64 a0).wf = true) (w1 : (Lit.int .i64 a1).wf = true) :
    Calls Tryd.prog 4 #[.int .i64 a0, .int .i64 a1, .bool a2] w fun e w' => e = .returned (.bool true) ∧ Below w.heap.size w w' := by
  obtain ⟨Y0, h00⟩ : ∃ Y : Int, IntKind.u64.wrap a0 = Y := ⟨_, rfl⟩
  obtain ⟨Y1, h01⟩ : ∃ Y : Int, IntKind.u64.wrap a1 = Y := ⟨_, rfl⟩
  have p0 : 0 ≤ Y0 := by rw [← h00, IntKind.wrap_u64]; omega
  have p1 : 0 ≤ Y1 := by rw [← h01, IntKind.wrap_u64]; omega
  obtain ⟨k, hk⟩ : ∃ k : Nat, Y0 % 256 = (k : Int) := ⟨(Y0 % 256).toNat, by omega⟩
  obtain ⟨i, hi⟩ : ∃ k : Nat, Y1 % 256 = (k : Int) := ⟨(Y1 % 256).toNat, by omega⟩
  have k1 : k < 256 := by omega
  have i1 : i < 256 := by omega
  have hT := Lib.hid hT
  cases a2
  · go_enter Tryd.func4, Tryd.ntmps4
    go_upto_region 2 with fail
    try rw [h00]
    try rw [h01]
    try rw [hk]
    try rw [hi]
    clear h00 h01 hk hi
    go_upto_region 5 with fail
    obtain ⟨W, hW⟩ : ∃ W, w.alloc (.cells #[.int .i64 3, .int .i64 1, .int .i64 i, .int .i64 1] 29) = W := ⟨_, rfl⟩
    have hbW : Below w.heap.size w W := by rw [← hW]; exact below_alloc (Below.refl _ _) _
    have kW : W.heap[w.heap.size]? = some (.cells #[.int .i64 3, .int .i64 1, .int .i64 i, .int .i64 1] 29 (0, 0)) := by rw [← hW]; exact heap_alloc_new _ _
    rw [hW]
    clear hW
    have n0 := cell_of kW (j := 0) rfl
    have n1 := cell_of kW (j := 1) rfl
    have n2 := cell_of kW (j := 2) rfl
    have n3 := cell_of kW (j := 3) rfl
    obtain ⟨N, hN⟩ : ∃ N, w.heap.size = N := ⟨_, rfl⟩
    rw [hN] at n0 n1 n2 n3 ⊢
    have hfr := Md.frow2 W [(8, 1, 0, 0), (1, 1, (k : Int), 0), Md.inF false i, (2, 3, 9, 0)] [(5, 0, 0, 0)] 4 1 rfl rfl (by decide)
    obtain ⟨U, hU⟩ : ∃ U, ((W.alloc (.cells #[.int .i64 8, .int .i64 1, .int .i64 0, .int .i64 0, .int .i64 1, .int .i64 1, .int .i64 k, .int .i64 0, .int .i64 3, .int .i64 1, .int .i64 i, .int .i64 1, .int .i64 2, .int .i64 3, .int .i64 9, .int .i64 0] 29)).alloc (.cells #[.int .i64 5, .int .i64 0, .int .i64 0, .int .i64 0] 29)).alloc (.cells #[.slice (some ⟨W.heap.size, 0, none⟩) 4 4, .slice (some ⟨W.heap.size + 1, 0, none⟩) 1 1] 30) = U := ⟨_, rfl⟩
    have hF : FRow U (.slice (some ⟨W.heap.size + 2, 0, none⟩) 2 2) (Md.fsF false i k) ∧ Below W.heap.size W U := by rw [← hU]; exact hfr
    have hbU : Hid (Below w.heap.size w U) := Lib.hid (hbW.trans (hF.2.mono hbW.size))
    have cb := Md.ms_build (G := 0) (hT.out.below hbU.out) hF.1 (Md.may_of (Md.pgF false i1 k1))
    have hP := Lib.hid (Md.pgF false i1 k1)
    replace hN := Lib.hid hN
    clear hfr hF hbW kW
    go_wp2_with fail
    try rw [hU]
    clear hU n0 n1 n2 n3
    with_reducible refine Calls.mono cb ?_
    rintro e w2 ⟨p, rfl, hm⟩
    clear cb
    have cd := Md.ms_step (g := 0) hm hP.out (by decide) (by decide) (by decide) rfl
    rw [Md.stF1] at cd
    replace hm := Lib.hid hm
    go_wp2_with fail
    with_reducible refine Calls.mono cd ?_
    rintro e w3 ⟨rfl, hm3, -⟩
    clear cd hm
    have cd := Md.ms_step (g := 0) hm3 hP.out (by decide) (by decide) (by decide) rfl
    rw [Md.stF2] at cd
    go_wp2_with fail
    with_reducible refine Calls.mono cd ?_
    rintro e w4 ⟨rfl, hm4, -⟩
    clear cd hm3
    have cd := Md.ms_step (g := 0) hm4 hP.out (by decide) (by show 2 < 1000; omega) (by show 0 < 2; omega) rfl
    by_cases hik : i ≤ k
    · obtain ⟨⟨op, hc1⟩, hs1, ho1, hc2, hs2, ho2, hg1⟩ := Md.goodF false hik
      rw [hc1] at cd
      obtain ⟨M3, hM3⟩ : ∃ M, Md.step (Md.fsF false i k) (Md.mF2 k) 0 = M := ⟨_, rfl⟩
      rw [hM3] at cd hs1 ho1 hc2 hs2 ho2 hg1
      clear hm4 hM3 hc1
      unfold Md.comV at cd
      go_wp2_with fail
      with_reducible refine Calls.mono cd ?_
      rintro e w5 ⟨rfl, hm5, -⟩
      clear cd
      go_upto_region 11 with fail
      obtain ⟨hm6, kc, -⟩ := hm5.var #[.int .i64 0, .int .i64 0, .int .i64 2, .int .i64 op, .int .i64 0, .bool false] 24
      obtain ⟨W6, hW6⟩ : ∃ W, w5.alloc (.cells #[.int .i64 0, .int .i64 0, .int .i64 2, .int .i64 op, .int .i64 0, .bool false] 24) = W := ⟨_, rfl⟩
      rw [hW6] at hm6 kc ⊢
      obtain ⟨Nc, hNc⟩ : ∃ N, w5.heap.size = N := ⟨_, rfl⟩
      rw [hNc] at hm6 kc ⊢
      clear hW6 hNc hm5
      have d4 := cell_of kc (j := 4) rfl
      have d5 := cell_of kc (j := 5) rfl
      have b1 : ¬ (k : Int) < (i : Int) := by omega
      have b2 : decide ((k : Int) < (i : Int)) = false := decide_eq_false b1
      have c0 := Md.ms_state hm6 0
      have c1 := Md.ms_state hm6 1
      unfold Md.stX at c0 c1
      rw [hs1] at c0 c1
      simp only [List.length_cons, List.length_nil, List.getD_cons_zero, List.getD_cons_succ, Int.toNat_zero, show (1 : Int).toNat = 1 from rfl] at c0 c1
      rw [if_pos (by omega)] at c0 c1
      have cd := Md.ms_step (g := 0) hm6 hP.out (by decide) (by rw [hg1]; decide) (by rw [hg1]; decide) (by rw [hs1]; rfl)
      rw [hc2] at cd
      unfold Md.comV at cd
      obtain ⟨M4, hM4⟩ : ∃ M, Md.step (Md.fsF false i k) M3 0 = M := ⟨_, rfl⟩
      rw [hM4] at cd hs2 ho2
      clear hM4 kc hc2 hs1 ho1 hg1
      replace hm6 := Lib.hid hm6
      go_wp2_with fail
      with_reducible refine Calls.mono c0 ?_
      rintro e w7 ⟨rfl, rfl⟩
      go_wp2_with fail
      with_reducible refine Calls.mono c1 ?_
      rintro e w8 ⟨rfl, rfl⟩
      clear c0 c1 d4 d5
      go_wp2_with fail
      with_reducible refine Calls.mono cd ?_
      rintro e w9 ⟨rfl, hm9, -⟩
      clear cd hm6
      go_upto_region 17 with fail
      obtain ⟨hm10, kd, -⟩ := hm9.var #[.int .i64 0, .int .i64 0, .int .i64 3, .int .i64 2, .int .i64 0, .bool true] 24
      obtain ⟨W10, hW10⟩ : ∃ W, w9.alloc (.cells #[.int .i64 0, .int .i64 0, .int .i64 3, .int .i64 2, .int .i64 0, .bool true] 24) = W := ⟨_, rfl⟩
      rw [hW10] at hm10 kd ⊢
      obtain ⟨Nd, hNd⟩ : ∃ N, w9.heap.size = N := ⟨_, rfl⟩
      rw [hNd] at hm10 kd ⊢
      clear hW10 hNd hm9
      go_upto_region 18 with fail
      have hb11 := below_alloc (Below.refl W10.heap.size W10) (.cells #[.int .i64 1] 3)
      have hi11 := Pt.ints_lit W10 [1] 1 rfl (by decide) (A := #[.int .i64 1]) rfl
      obtain ⟨W11, hW11⟩ : ∃ W, W10.alloc (.cells #[.int .i64 1] 3) = W := ⟨_, rfl⟩
      have hm11 := hm10.below (w' := W11) (by rw [← hW11]; exact hb11)
      rw [hW11] at hb11 hi11
      have kd := (hb11.block _ (block_lt kd)).trans kd
      have hb12 := Lib.hid (hbU.out.trans (hm11.bel.mono hbU.out.size))
      have ct := Md.told_any (hT.out.below hb12.out)
      try rw [hW11]
      clear hm10 hb11 hW11
      obtain ⟨N10, hN10⟩ : ∃ N, W10.heap.size = N := ⟨_, rfl⟩
      rw [hN10] at hi11
      try rw [hN10]
      clear hN10
      go_wp2_with fail
      with_reducible refine Calls.mono ct ?_
      rintro e w12 ⟨rfl, hbt⟩
      have kd := (hbt.block _ (block_lt kd)).trans kd
      have hi12 := hi11.below hbt
      have hm12 := hm11.below hbt
      have hb13 := Lib.hid (hb12.out.trans (hbt.mono hb12.out.size))
      have d5 := cell_of kd (j := 5) rfl
      have c0 := Md.ms_state hm12 0
      unfold Md.stX at c0
      rw [hs2] at c0
      simp only [List.length_cons, List.length_nil, List.getD_cons_zero, Int.toNat_zero] at c0
      rw [if_pos (by omega)] at c0
      have ci := Md.ms_ids hm12
      rw [ho2] at ci
      clear ct kd hi11 hm11 hb12 hbt
      go_wp2_with fail
      with_reducible refine Calls.mono c0 ?_
      rintro e w13 ⟨rfl, rfl⟩
      go_wp2_with fail
      with_reducible refine Calls.mono ci ?_
      rintro e w14 ⟨rfl, rfl⟩
      have hb15 := below_alloc (Below.refl w12.heap.size w12) (.cells #[.int .i64 1] 3)
      have hi15 := Pt.ints_lit w12 [1] 1 rfl (by decide) (A := #[.int .i64 1]) rfl
      have cq := ints_any (hi12.below hb15) hi15
      obtain ⟨W15, hW15⟩ : ∃ W, w12.alloc (.cells #[.int .i64 1] 3) = W := ⟨_, rfl⟩
      rw [hW15] at hb15 cq
      have hm15 := hm12.below hb15
      have c1 : Hid (∀ V, Below W15.heap.size W15 V → Calls Tryd.prog 20 #[.pointer (some ⟨p, 0, none⟩), .int .i64 1] V (Still (.int .i64 1) V)) := Lib.hid fun V hV => by
        have := Md.ms_state (hm15.below hV) 1
        unfold Md.stX at this
        rw [hs2] at this
        simp only [List.length_cons, List.length_nil, List.getD_cons_zero, List.getD_cons_succ, show (1 : Int).toNat = 1 from rfl] at this
        rw [if_pos (by omega)] at this
        exact this
      have hb16 := Lib.hid (hb13.out.trans (hb15.mono hb13.out.size))
      clear c0 ci d5 hi12 hm12 hb13 hb15 hi15 hm15 hs2 ho2
      go_wp2_with fail
      try rw [hW15]
      with_reducible refine Calls.mono cq ?_
      rintro e w17 ⟨rfl, dn, rfl⟩
      have hbd : Below W15.heap.size W15 (W15.drewN dn) := below_drewN (Below.refl _ _) dn
      have c1' := c1.out _ hbd
      have hfin := Lib.hid (hb16.out.trans (hbd.mono hb16.out.size))
      clear cq hW15 c1 hbd hb16
      obtain ⟨W18, hW18⟩ : ∃ W, W15.drewN dn = W := ⟨_, rfl⟩
      rw [hW18] at c1' hfin
      try rw [hW18]
      clear hW18
      go_wp2_with fail
      with_reducible refine Calls.mono c1' ?_
      rintro e w19 ⟨rfl, rfl⟩
      go_wp2_with fail
      go_ret
      exact ⟨rfl, hfin.out⟩
    · obtain ⟨⟨op, hc1⟩, hs1, ho1, hg0, hg1⟩ := Md.badF false (show k < i by omega)
      rw [hc1] at cd
      obtain ⟨M3, hM3⟩ : ∃ M, Md.step (Md.fsF false i k) (Md.mF2 k) 0 = M := ⟨_, rfl⟩
      rw [hM3] at cd hs1 ho1 hg0 hg1
      clear hm4 hM3 hc1
      unfold Md.comV at cd
      go_wp2_with fail
      with_reducible refine Calls.mono cd ?_
      rintro e w5 ⟨rfl, hm5, -⟩
      clear cd
      go_upto_region 11 with fail
      obtain ⟨hm6, kc, -⟩ := hm5.var #[.int .i64 0, .int .i64 0, .int .i64 2, .int .i64 op, .int .i64 0, .bool true] 24
      obtain ⟨W6, hW6⟩ : ∃ W, w5.alloc (.cells #[.int .i64 0, .int .i64 0, .int .i64 2, .int .i64 op, .int .i64 0, .bool true] 24) = W := ⟨_, rfl⟩
      rw [hW6] at hm6 kc ⊢
      obtain ⟨Nc, hNc⟩ : ∃ N, w5.heap.size = N := ⟨_, rfl⟩
      rw [hNc] at hm6 kc ⊢
      clear hW6 hNc hm5
      have d4 := cell_of kc (j := 4) rfl
      have d5 := cell_of kc (j := 5) rfl
      have b1 : (k : Int) < (i : Int) := by omega
      have b2 : decide ((k : Int) < (i : Int)) = true := decide_eq_true b1
      have c0 := Md.ms_state hm6 0
      have c1 := Md.ms_state hm6 1
      unfold Md.stX at c0 c1
      rw [hs1] at c0 c1
      simp only [List.length_cons, List.length_nil, List.getD_cons_zero, List.getD_cons_succ, Int.toNat_zero, show (1 : Int).toNat = 1 from rfl] at c0 c1
      rw [if_pos (by omega)] at c0 c1
      have hb12 := Lib.hid (hbU.out.trans (hm6.bel.mono hbU.out.size))
      have ct := Md.told_any (hT.out.below hb12.out)
      clear kc
      go_wp2_with fail
      with_reducible refine Calls.mono c0 ?_
      rintro e w7 ⟨rfl, rfl⟩
      go_wp2_with fail
      with_reducible refine Calls.mono c1 ?_
      rintro e w8 ⟨rfl, rfl⟩
      clear c0 c1 d4 d5
      go_wp2_with fail
      with_reducible refine Calls.mono ct ?_
      rintro e w12 ⟨rfl, hbt⟩
      have hm12 := hm6.below hbt
      have hb13 := Lib.hid (hb12.out.trans (hbt.mono hb12.out.size))
      have cr := Md.ms_reach hm12 (by decide)
      clear ct hm6 hb12 hbt
      go_wp2_with fail
      with_reducible refine Calls.mono cr ?_
      rintro e w14 ⟨v, zs, rfl, hb14, hi14, hz14⟩
      obtain rfl := Md.noneR (Md.rcF hs1 hg0 hg1) hz14
      obtain ⟨sp, cap, rfl, -, -⟩ := hi14
      have ci := Md.ms_ids (hm12.below hb14)
      rw [ho1] at ci
      have hfin := Lib.hid (hb13.out.trans (hb14.mono hb13.out.size))
      simp only [List.length_nil]
      clear cr hz14 hb14 hm12 hb13
      go_wp2_with fail
      with_reducible refine Calls.mono ci ?_
      rintro e w15 ⟨rfl, rfl⟩
      go_wp2_with fail
      go_ret
      exact ⟨rfl, hfin.out⟩
  · go_enter Tryd.func4, Tryd.ntmps4
    go_upto_region 2 with fail
    try rw [h00]
    try rw [h01]
    try rw [hk]
    try rw [hi]
    clear h00 h01 hk hi
    go_upto_region 5 with fail
    obtain ⟨W, hW⟩ : ∃ W, w.alloc (.cells #[.int .i64 2, .int .i64 2, .int .i64 1, .int .i64 i] 29) = W := ⟨_, rfl⟩
    have hbW : Below w.heap.size w W := by rw [← hW]; exact below_alloc (Below.refl _ _) _
    have kW : W.heap[w.heap.size]? = some (.cells #[.int .i64 2, .int .i64 2, .int .i64 1, .int .i64 i] 29 (0, 0)) := by rw [← hW]; exact heap_alloc_new _ _
    rw [hW]
    clear hW
    have n0 := cell_of kW (j := 0) rfl
    have n1 := cell_of kW (j := 1) rfl
    have n2 := cell_of kW (j := 2) rfl
    have n3 := cell_of kW (j := 3) rfl
    obtain ⟨N, hN⟩ : ∃ N, w.heap.size = N := ⟨_, rfl⟩
    rw [hN] at n0 n1 n2 n3 ⊢
    have hfr := Md.frow2 W [(8, 1, 0, 0), (1, 1, (k : Int), 0), Md.inF true i, (2, 3, 9, 0)] [(5, 0, 0, 0)] 4 1 rfl rfl (by decide)
    obtain ⟨U, hU⟩ : ∃ U, ((W.alloc (.cells #[.int .i64 8, .int .i64 1, .int .i64 0, .int .i64 0, .int .i64 1, .int .i64 1, .int .i64 k, .int .i64 0, .int .i64 2, .int .i64 2, .int .i64 1, .int .i64 i, .int .i64 2, .int .i64 3, .int .i64 9, .int .i64 0] 29)).alloc (.cells #[.int .i64 5, .int .i64 0, .int .i64 0, .int .i64 0] 29)).alloc (.cells #[.slice (some ⟨W.heap.size, 0, none⟩) 4 4, .slice (some ⟨W.heap.size + 1, 0, none⟩) 1 1] 30) = U := ⟨_, rfl⟩
    have hF : FRow U (.slice (some ⟨W.heap.size + 2, 0, none⟩) 2 2) (Md.fsF true i k) ∧ Below W.heap.size W U := by rw [← hU]; exact hfr
    have hbU : Hid (Below w.heap.size w U) := Lib.hid (hbW.trans (hF.2.mono hbW.size))
    have cb := Md.ms_build (G := 0) (hT.out.below hbU.out) hF.1 (Md.may_of (Md.pgF true i1 k1))
    have hP := Lib.hid (Md.pgF true i1 k1)
    replace hN := Lib.hid hN
    clear hfr hF hbW kW
    go_wp2_with fail
    try rw [hU]
    clear hU n0 n1 n2 n3
    with_reducible refine Calls.mono cb ?_
    rintro e w2 ⟨p, rfl, hm⟩
    clear cb
    have cd := Md.ms_step (g := 0) hm hP.out (by decide) (by decide) (by decide) rfl
    rw [Md.stF1] at cd
    replace hm := Lib.hid hm
    go_wp2_with fail
    with_reducible refine Calls.mono cd ?_
    rintro e w3 ⟨rfl, hm3, -⟩
    clear cd hm
    have cd := Md.ms_step (g := 0) hm3 hP.out (by decide) (by decide) (by decide) rfl
    rw [Md.stF2] at cd
    go_wp2_with fail
    with_reducible refine Calls.mono cd ?_
    rintro e w4 ⟨rfl, hm4, -⟩
    clear cd hm3
    have cd := Md.ms_step (g := 0) hm4 hP.out (by decide) (by show 2 < 1000; omega) (by show 0 < 2; omega) rfl
    by_cases hik : i ≤ k
    · obtain ⟨⟨op, hc1⟩, hs1, ho1, hc2, hs2, ho2, hg1⟩ := Md.goodF true hik
      rw [hc1] at cd
      obtain ⟨M3, hM3⟩ : ∃ M, Md.step (Md.fsF true i k) (Md.mF2 k) 0 = M := ⟨_, rfl⟩
      rw [hM3] at cd hs1 ho1 hc2 hs2 ho2 hg1
      clear hm4 hM3 hc1
      unfold Md.comV at cd
      go_wp2_with fail
      with_reducible refine Calls.mono cd ?_
      rintro e w5 ⟨rfl, hm5, -⟩
      clear cd
      go_upto_region 11 with fail
      obtain ⟨hm6, kc, -⟩ := hm5.var #[.int .i64 0, .int .i64 0, .int .i64 2, .int .i64 op, .int .i64 0, .bool false] 24
      obtain ⟨W6, hW6⟩ : ∃ W, w5.alloc (.cells #[.int .i64 0, .int .i64 0, .int .i64 2, .int .i64 op, .int .i64 0, .bool false] 24) = W := ⟨_, rfl⟩
      rw [hW6] at hm6 kc ⊢
      obtain ⟨Nc, hNc⟩ : ∃ N, w5.heap.size = N := ⟨_, rfl⟩
      rw [hNc] at hm6 kc ⊢
      clear hW6 hNc hm5
      have d4 := cell_of kc (j := 4) rfl
      have d5 := cell_of kc (j := 5) rfl
      have b1 : ¬ (k : Int) < (i : Int) := by omega
      have b2 : decide ((k : Int) < (i : Int)) = false := decide_eq_false b1
      have c0 := Md.ms_state hm6 0
      have c1 := Md.ms_state hm6 1
      unfold Md.stX at c0 c1
      rw [hs1] at c0 c1
      simp only [List.length_cons, List.length_nil, List.getD_cons_zero, List.getD_cons_succ, Int.toNat_zero, show (1 : Int).toNat = 1 from rfl] at c0 c1
      rw [if_pos (by omega)] at c0 c1
      have cd := Md.ms_step (g := 0) hm6 hP.out (by decide) (by rw [hg1]; decide) (by rw [hg1]; decide) (by rw [hs1]; rfl)
      rw [hc2] at cd
      unfold Md.comV at cd
      obtain ⟨M4, hM4⟩ : ∃ M, Md.step (Md.fsF true i k) M3 0 = M := ⟨_, rfl⟩
      rw [hM4] at cd hs2 ho2
      clear hM4 kc hc2 hs1 ho1 hg1
      replace hm6 := Lib.hid hm6
      go_wp2_with fail
      with_reducible refine Calls.mono c0 ?_
      rintro e w7 ⟨rfl, rfl⟩
      go_wp2_with fail
      with_reducible refine Calls.mono c1 ?_
      rintro e w8 ⟨rfl, rfl⟩
      clear c0 c1 d4 d5
      go_wp2_with fail
      with_reducible refine Calls.mono cd ?_
      rintro e w9 ⟨rfl, hm9, -⟩
      clear cd hm6
      go_upto_region 17 with fail
      obtain ⟨hm10, kd, -⟩ := hm9.var #[.int .i64 0, .int .i64 0, .int .i64 3, .int .i64 2, .int .i64 0, .bool true] 24
      obtain ⟨W10, hW10⟩ : ∃ W, w9.alloc (.cells #[.int .i64 0, .int .i64 0, .int .i64 3, .int .i64 2, .int .i64 0, .bool true] 24) = W := ⟨_, rfl⟩
      rw [hW10] at hm10 kd ⊢
      obtain ⟨Nd, hNd⟩ : ∃ N, w9.heap.size = N := ⟨_, rfl⟩
      rw [hNd] at hm10 kd ⊢
      clear hW10 hNd hm9
      go_upto_region 18 with fail
      have hb11 := below_alloc (Below.refl W10.heap.size W10) (.cells #[.int .i64 1] 3)
      have hi11 := Pt.ints_lit W10 [1] 1 rfl (by decide) (A := #[.int .i64 1]) rfl
      obtain ⟨W11, hW11⟩ : ∃ W, W10.alloc (.cells #[.int .i64 1] 3) = W := ⟨_, rfl⟩
      have hm11 := hm10.below (w' := W11) (by rw [← hW11]; exact hb11)
      rw [hW11] at hb11 hi11
      have kd := (hb11.block _ (block_lt kd)).trans kd
      have hb12 := Lib.hid (hbU.out.trans (hm11.bel.mono hbU.out.size))
      have ct := Md.told_any (hT.out.below hb12.out)
      try rw [hW11]
      clear hm10 hb11 hW11
      obtain ⟨N10, hN10⟩ : ∃ N, W10.heap.size = N := ⟨_, rfl⟩
      rw [hN10] at hi11
      try rw [hN10]
      clear hN10
      go_wp2_with fail
      with_reducible refine Calls.mono ct ?_
      rintro e w12 ⟨rfl, hbt⟩
      have kd := (hbt.block _ (block_lt kd)).trans kd
      have hi12 := hi11.below hbt
      have hm12 := hm11.below hbt
      have hb13 := Lib.hid (hb12.out.trans (hbt.mono hb12.out.size))
      have d5 := cell_of kd (j := 5) rfl
      have c0 := Md.ms_state hm12 0
      unfold Md.stX at c0
      rw [hs2] at c0
      simp only [List.length_cons, List.length_nil, List.getD_cons_zero, Int.toNat_zero] at c0
      rw [if_pos (by omega)] at c0
      have ci := Md.ms_ids hm12
      rw [ho2] at ci
      clear ct kd hi11 hm11 hb12 hbt
      go_wp2_with fail
      with_reducible refine Calls.mono c0 ?_
      rintro e w13 ⟨rfl, rfl⟩
      go_wp2_with fail
      with_reducible refine Calls.mono ci ?_
      rintro e w14 ⟨rfl, rfl⟩
      have hb15 := below_alloc (Below.refl w12.heap.size w12) (.cells #[.int .i64 1] 3)
      have hi15 := Pt.ints_lit w12 [1] 1 rfl (by decide) (A := #[.int .i64 1]) rfl
      have cq := ints_any (hi12.below hb15) hi15
      obtain ⟨W15, hW15⟩ : ∃ W, w12.alloc (.cells #[.int .i64 1] 3) = W := ⟨_, rfl⟩
      rw [hW15] at hb15 cq
      have hm15 := hm12.below hb15
      have c1 : Hid (∀ V, Below W15.heap.size W15 V → Calls Tryd.prog 20 #[.pointer (some ⟨p, 0, none⟩), .int .i64 1] V (Still (.int .i64 1) V)) := Lib.hid fun V hV => by
        have := Md.ms_state (hm15.below hV) 1
        unfold Md.stX at this
        rw [hs2] at this
        simp only [List.length_cons, List.length_nil, List.getD_cons_zero, List.getD_cons_succ, show (1 : Int).toNat = 1 from rfl] at this
        rw [if_pos (by omega)] at this
        exact this
      have hb16 := Lib.hid (hb13.out.trans (hb15.mono hb13.out.size))
      clear c0 ci d5 hi12 hm12 hb13 hb15 hi15 hm15 hs2 ho2
      go_wp2_with fail
      try rw [hW15]
      with_reducible refine Calls.mono cq ?_
      rintro e w17 ⟨rfl, dn, rfl⟩
      have hbd : Below W15.heap.size W15 (W15.drewN dn) := below_drewN (Below.refl _ _) dn
      have c1' := c1.out _ hbd
      have hfin := Lib.hid (hb16.out.trans (hbd.mono hb16.out.size))
      clear cq hW15 c1 hbd hb16
      obtain ⟨W18, hW18⟩ : ∃ W, W15.drewN dn = W := ⟨_, rfl⟩
      rw [hW18] at c1' hfin
      try rw [hW18]
      clear hW18
      go_wp2_with fail
      with_reducible refine Calls.mono c1' ?_
      rintro e w19 ⟨rfl, rfl⟩
      go_wp2_with fail
      go_ret
      exact ⟨rfl, hfin.out⟩
    · obtain ⟨⟨op, hc1⟩, hs1, ho1, hg0, hg1⟩ := Md.badF true (show k < i by omega)
      rw [hc1] at cd
      obtain ⟨M3, hM3⟩ : ∃ M, Md.step (Md.fsF true i k) (Md.mF2 k) 0 = M := ⟨_, rfl⟩
      rw [hM3] at cd hs1 ho1 hg0 hg1
      clear hm4 hM3 hc1
      unfold Md.comV at cd
      go_wp2_with fail
      with_reducible refine Calls.mono cd ?_
      rintro e w5 ⟨rfl, hm5, -⟩
      clear cd
      go_upto_region 11 with fail
      obtain ⟨hm6, kc, -⟩ := hm5.var #[.int .i64 0, .int .i64 0, .int .i64 2, .int .i64 op, .int .i64 0, .bool true] 24
      obtain ⟨W6, hW6⟩ : ∃ W, w5.alloc (.cells #[.int .i64 0, .int .i64 0, .int .i64 2, .int .i64 op, .int .i64 0, .bool true] 24) = W := ⟨_, rfl⟩
      rw [hW6] at hm6 kc ⊢
      obtain ⟨Nc, hNc⟩ : ∃ N, w5.heap.size = N := ⟨_, rfl⟩
      rw [hNc] at hm6 kc ⊢
      clear hW6 hNc hm5
      have d4 := cell_of kc (j := 4) rfl
      have d5 := cell_of kc (j := 5) rfl
      have b1 : (k : Int) < (i : Int) := by omega
      have b2 : decide ((k : Int) < (i : Int)) = true := decide_eq_true b1
      have c0 := Md.ms_state hm6 0
      have c1 := Md.ms_state hm6 1
      unfold Md.stX at c0 c1
      rw [hs1] at c0 c1
      simp only [List.length_cons, List.length_nil, List.getD_cons_zero, List.getD_cons_succ, Int.toNat_zero, show (1 : Int).toNat = 1 from rfl] at c0 c1
      rw [if_pos (by omega)] at c0 c1
      have hb12 := Lib.hid (hbU.out.trans (hm6.bel.mono hbU.out.size))
      have ct := Md.told_any (hT.out.below hb12.out)
      clear kc
      go_wp2_with fail
      with_reducible refine Calls.mono c0 ?_
      rintro e w7 ⟨rfl, rfl⟩
      go_wp2_with fail
      with_reducible refine Calls.mono c1 ?_
      rintro e w8 ⟨rfl, rfl⟩
      clear c0 c1 d4 d5
      go_wp2_with fail
      with_reducible refine Calls.mono ct ?_
      rintro e w12 ⟨rfl, hbt⟩
      have hm12 := hm6.below hbt
      have hb13 := Lib.hid (hb12.out.trans (hbt.mono hb12.out.size))
      have cr := Md.ms_reach hm12 (by decide)
      clear ct hm6 hb12 hbt
      go_wp2_with fail
      with_reducible refine Calls.mono cr ?_
      rintro e w14 ⟨v, zs, rfl, hb14, hi14, hz14⟩
      obtain rfl := Md.noneR (Md.rcF hs1 hg0 hg1) hz14
      obtain ⟨sp, cap, rfl, -, -⟩ := hi14
      have ci := Md.ms_ids (hm12.below hb14)
      rw [ho1] at ci
      have hfin := Lib.hid (hb13.out.trans (hb14.mono hb13.out.size))
      simp only [List.length_nil]
      clear cr hz14 hb14 hm12 hb13
      go_wp2_with fail
      with_reducible refine Calls.mono ci ?_
      rintro e w15 ⟨rfl, rfl⟩
      go_wp2_with fail
      go_ret
      exact ⟨rfl, hfin.out⟩

set_option maxRecDepth 100000 in
theorem lifted (os : Os) (started : os.Started) (H : Type) (enc : TypeId × Value → H) :
    ReturnsInHanded {} Tryd.checked os 4 .any (fun w args => (Rows.modelFaultsSpec.pre enc Tryd.prog Tryd.f4 [] false w args ∧ laidMetH Tryd.prog [("treadmill/code.takes", Rows.laid_treadmill_code_takes)] w) ∧ sizedMet enc Tryd.prog Tryd.f4 (OpenSpec.ofChange Rows.modelFaultsSpec) false w args) (Rows.modelFaultsSpec.post enc Tryd.prog Tryd.f4 false true false false) := by
  refine returnsInHanded_of_change_and (C := Tryd.checked) (X := fun w _ => laidMetH Tryd.prog [("treadmill/code.takes", Rows.laid_treadmill_code_takes)] w) (fun _ _ _ hh h => h.of_heap hh) own started (by kernel_rfl) Tryd.func4
    (ChangeSpec.witness_shaped (enc := enc) (C := Tryd.checked) (os := os) (X := fun w _ => laidMetH Tryd.prog [("treadmill/code.takes", Rows.laid_treadmill_code_takes)] w) false (World.doorLaid Tryd.prog 400 os) #[.int .i64 0, .int .i64 0, .bool false] 8 rfl (World.shaped_of_RefB (by kernel_rfl) (by kernel_rfl)) (by kernel_rfl) (by kernel_rfl) (by kernel_rfl) (door_met os _)) ?_
  intro W base args ds gs before hval0 hW _ _ hL _
  have hval : ∀ (j : Nat) t v, Tryd.f4.params[j]? = some t → args[j]? = some v → Value.okWide Tryd.prog W .any base t v := hval0
  have hW' := hW
  obtain ⟨p, q, hA0, hV, rfl, hfz, hnd⟩ := hW
  have hA : DataW.TrodAll enc Tryd.prog W 0 (fun _ => true) true Tryd.f4.params.toList args.toList ds p := hA0
  rw [Tryd.params4] at hA hval
  obtain ⟨v0, vs0, d0, ds0, p0, q0, hargs, rfl, rfl, h0, r0⟩ := trodAll_cons hA
  obtain ⟨v1, vs1, d1, ds1, p1, q1, rfl, rfl, rfl, h1, r1⟩ := trodAll_cons r0
  obtain ⟨v2, vs2, d2, ds2, p2, q2, rfl, rfl, rfl, h2, r2⟩ := trodAll_cons r1
  obtain ⟨rfl, rfl, rfl⟩ := trodAll_nil r2
  obtain rfl : args = #[v0, v1, v2] := by cases args; simp_all
  obtain ⟨rfl, rfl⟩ := trodVars_none hV
  obtain ⟨a0, rfl, rfl, rfl, w0⟩ := open_int Tryd.underlying3 (hval 0 3 v0 rfl rfl) h0
  obtain ⟨a1, rfl, rfl, rfl, w1⟩ := open_int Tryd.underlying3 (hval 1 3 v1 rfl rfl) h1
  obtain ⟨a2, rfl, rfl, rfl⟩ := open_bool Tryd.underlying4 (hval 2 4 v2 rfl rfl) h2
  clear hA0 hval0
  simp only [List.append_nil] at hW'
  refine (walk a0 a1 a2 W (tk_of_laid hL) w0 w1).mono fun e W' ⟨he, hg⟩ => ?_
  subst he
  exact ⟨_, rfl, post_of_kept (pa := _) (pv := []) hW' (fun _ _ _ => (trodAll_cons_mk (shut_bool Tryd.underlying4 _) trodAll_mk0)) (trodAll_cons_mk (shut_int Tryd.underlying3 w0) (trodAll_cons_mk (shut_int Tryd.underlying3 w1) (trodAll_cons_mk (shut_bool Tryd.underlying4 a2) trodAll_mk0))) (fun _ _ => rfl) (by simp) hg⟩

theorem over : Rows.modelFaultsRow.holds Tryd.pinned (OpenSpec.ofChange Rows.modelFaultsSpec) :=
  OpenClaim.holds_of_wide 4 Tryd.f4 rfl rfl rfl rfl rfl rfl rfl ⟨rfl, rfl, rfl, rfl, rfl⟩ rfl rfl rfl rfl rfl (by kernel_rfl) Tryd.func4 (by kernel_rfl)
    (of_decide_eq_true (by kernel_rfl)) (by unfold Func.isWrapper; first | (rw [if_pos (by decide +kernel)]; kernel_rfl) | (rw [if_neg (by decide +kernel)]; exact ⟨rfl, rfl⟩))
    (fun os started H enc _ => lifted os started H enc)

theorem proved : Rows.ModelFaultsCardSaid :=
  Claim7.holds_tied_plain_at .later [] [.data] true Rows.modelFaultsCard.stood.harness true
    over (fun _ h => by cases h) (by kernel_rfl) (fun _ h => by cases h) modelFaults_row_tie rfl ⟨rfl, rfl⟩ (by kernel_rfl) rfl
    (fun f fn hf hfn => by
      obtain rfl : f = 4 := Option.some.inj ((show Tryd.prog.funcNamed "treadmill/treadmilllaw16.ModelFaults" = some 4 by kernel_rfl).symm.trans hf) |>.symm
      obtain rfl : fn = Tryd.f4 := (Option.some.inj (Tryd.func4.symm.trans hfn)).symm
      exact ⟨by kernel_rfl, fun j t ht => by
        rw [Tryd.params4] at ht
        have hm : t ∈ [3, 3, 4] := by simpa using Array.mem_of_getElem? ht
        have hall : ([3, 3, 4].all fun u => !Tryd.prog.wantsStandIn u) = true := by kernel_rfl
        exact (show Tryd.prog.wantsStandIn t = false by simpa using List.all_eq_true.1 hall t hm)⟩)
    (by kernel_rfl)
#print axioms proved
end Go.Proofs.YtdnajpnnjfncbaaDoor.modelFaults
