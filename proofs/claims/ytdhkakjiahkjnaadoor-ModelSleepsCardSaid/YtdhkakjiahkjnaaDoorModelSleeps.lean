import Derived.Test.YtdhkakjiahkjnaaDoorMB9
import Derived.Test.YtdhkakjiahkjnaaDoorMB4
import Derived.Test.YtdhkakjiahkjnaaDoorMB5
import Derived.WalkKit
import Derived.ProofKit
import Derived.OpenShut
import Derived.Test.YtdhkakjiahkjnaaDoorTie
import Derived.Test.YtdhkakjiahkjnaaDoorCards
import Derived.LaidMore
import Derived.Stop.Joined
import Derived.SevenTiedAt
import Derived.Deep.RegionHeld3
import Derived.Deep.RegionWith
import Derived.Deep.Cut
import Derived.Deep.CutBlock
import Derived.Deep.CutRange
import Derived.Deep.LoopGhost
import Derived.Deep.DeepCutAuto
import Derived.RegionTactic
import Derived.StillTailTactics
import Derived.Deep.RegionLaw
/- Who sleeps wakes at their time, not ahead; of like times who fell asleep first is told first (16.1): any three times below 500, any step from 1 to 100. No further condition but the listed table. -/
namespace Go.Proofs.YtdhkakjiahkjnaaDoor.modelSleeps
open Go.ChangeShapes Go.WideShapes Go.ChangeAt Go.WideElems Go.RowKit Go.Lib Fx Ho Gr Cd
set_option linter.unusedVariables false

theorem own : ownKnob Tryd.prog.godebug = none := by kernel_rfl

set_option maxRecDepth 100000 in
set_option maxHeartbeats 4000000 in
theorem walk (a0 : Int) (a1 : Int) (a2 : Int) (a3 : Int) (w : World) (hT : Tk w) (w0 : (Lit.int .i64 a0).wf = true) (w1 : (Lit.int .i64 a1).wf = true) (w2 : (Lit.int .i64 a2).wf = true) (w3 : (Lit.int .i64 a3).wf = true) :
    Calls Tryd.prog 3 #[.int .i64 a0, .int .i64 a1, .int .i64 a2, .int .i64 a3] w fun e w' => e = .returned (.bool true) ∧ Below w.heap.size w w' := by
  obtain ⟨Y0, h00⟩ : ∃ Y : Int, IntKind.u64.wrap a0 = Y := ⟨_, rfl⟩
  obtain ⟨Y1, h01⟩ : ∃ Y : Int, IntKind.u64.wrap a1 = Y := ⟨_, rfl⟩
  obtain ⟨Y2, h02⟩ : ∃ Y : Int, IntKind.u64.wrap a2 = Y := ⟨_, rfl⟩
  obtain ⟨Y3, h03⟩ : ∃ Y : Int, IntKind.u64.wrap a3 = Y := ⟨_, rfl⟩
  have p0 : 0 ≤ Y0 := by rw [← h00, IntKind.wrap_u64]; omega
  have p1 : 0 ≤ Y1 := by rw [← h01, IntKind.wrap_u64]; omega
  have p2 : 0 ≤ Y2 := by rw [← h02, IntKind.wrap_u64]; omega
  have p3 : 0 ≤ Y3 := by rw [← h03, IntKind.wrap_u64]; omega
  obtain ⟨a, ha⟩ : ∃ k : Nat, Y0 % 500 = (k : Int) := ⟨(Y0 % 500).toNat, by omega⟩
  obtain ⟨b, hb⟩ : ∃ k : Nat, Y1 % 500 = (k : Int) := ⟨(Y1 % 500).toNat, by omega⟩
  obtain ⟨c, hc⟩ : ∃ k : Nat, Y2 % 500 = (k : Int) := ⟨(Y2 % 500).toNat, by omega⟩
  have a5 : a < 500 := by omega
  have b5 : b < 500 := by omega
  have c5 : c < 500 := by omega
  have hP := Lib.hid (Md.pgS a5 b5 c5)
  have hT := Lib.hid hT
  go_enter Tryd.func3, Tryd.ntmps3
  go_upto_region 2 with fail
  try rw [h00]
  try rw [h01]
  try rw [h02]
  try rw [ha]
  try rw [hb]
  try rw [hc]
  clear h00 h01 h02 ha hb hc
  go_upto_region 3 with fail
  have kt := heap_alloc_new w (.cells #[.int .i64 a, .int .i64 b, .int .i64 c] 3)
  have bt := below_alloc (Below.refl _ w) (.cells #[.int .i64 a, .int .i64 b, .int .i64 c] 3)
  obtain ⟨wt, hwt⟩ : ∃ W, w.alloc (.cells #[.int .i64 a, .int .i64 b, .int .i64 c] 3) = W := ⟨_, rfl⟩
  rw [hwt] at kt bt
  try rw [hwt]
  obtain ⟨N, hN⟩ : ∃ N, w.heap.size = N := ⟨_, rfl⟩
  rw [hN] at kt
  try rw [hN]
  have t0 := cell_of kt (j := 0) rfl
  have t1 := cell_of kt (j := 1) rfl
  have t2 := cell_of kt (j := 2) rfl
  have q0 : (0 : Int) ≤ (a : Int) := by omega
  replace kt := Lib.hid kt
  replace bt := Lib.hid bt
  clear hwt hN
  go_region
  have hA3 : (#[.int .i64 8, .int .i64 1, .int .i64 0, .int .i64 0, .int .i64 8, .int .i64 2, .int .i64 0, .int .i64 0, .int .i64 10, .int .i64 0, .int .i64 ((a : Int) / 256), .int .i64 (bits .and .i64 (a : Int) 255)] : Array Value) = (ca [(8, 1, 0, 0), (8, 2, 0, 0), Md.slI a]).toArray := by rw [Md.band a (by omega), Md.bdiv]; rfl
  have k3 := heap_alloc_new wt (.cells #[.int .i64 8, .int .i64 1, .int .i64 0, .int .i64 0, .int .i64 8, .int .i64 2, .int .i64 0, .int .i64 0, .int .i64 10, .int .i64 0, .int .i64 ((a : Int) / 256), .int .i64 (bits .and .i64 (a : Int) 255)] 26)
  have b3 := (below_alloc (Below.refl _ wt) (.cells #[.int .i64 8, .int .i64 1, .int .i64 0, .int .i64 0, .int .i64 8, .int .i64 2, .int .i64 0, .int .i64 0, .int .i64 10, .int .i64 0, .int .i64 ((a : Int) / 256), .int .i64 (bits .and .i64 (a : Int) 255)] 26)).drew
  obtain ⟨W, hW⟩ : ∃ W, (wt.alloc (.cells #[.int .i64 8, .int .i64 1, .int .i64 0, .int .i64 0, .int .i64 8, .int .i64 2, .int .i64 0, .int .i64 0, .int .i64 10, .int .i64 0, .int .i64 ((a : Int) / 256), .int .i64 (bits .and .i64 (a : Int) 255)] 26)).drew = W := ⟨_, rfl⟩
  have k3' : W.heap[wt.heap.size]? = some (.cells (ca [(8, 1, 0, 0), (8, 2, 0, 0), Md.slI a]).toArray 26 (0, 0)) := by rw [← hW, ← hA3]; exact k3
  rw [hW] at b3
  try rw [hW]
  clear k3 hW hA3
  obtain ⟨N3, hN3⟩ : ∃ N, wt.heap.size = N := ⟨_, rfl⟩
  have r0 := Md.irow_lit (l := [(8, 1, 0, 0), (8, 2, 0, 0), Md.slI a]) k3' (by show 3 ≤ 1000; omega)
  rw [hN3] at r0
  try rw [hN3]
  have t1' := cell_then b3 t1
  have t2' := cell_then b3 t2
  have t0' := cell_then b3 t0
  have u0 := below_alloc (Below.refl _ W) (.cells (ca [Md.slI b]).toArray 26)
  have e0 := heap_alloc_new W (.cells (ca [Md.slI b]).toArray 26)
  have e1 := heap_alloc_new (W.alloc (.cells (ca [Md.slI b]).toArray 26)) (.cells (ca [Md.slI c]).toArray 26)
  have u1 := below_alloc (Below.refl _ (W.alloc (.cells (ca [Md.slI b]).toArray 26))) (.cells (ca [Md.slI c]).toArray 26)
  obtain ⟨W2, hW2⟩ : ∃ V, (W.alloc (.cells (ca [Md.slI b]).toArray 26)).alloc (.cells (ca [Md.slI c]).toArray 26) = V := ⟨_, rfl⟩
  have e0' := (u1.block _ (block_lt e0)).trans e0
  rw [Md.s_alloc] at e1
  rw [hW2] at e1 u1 e0'
  have r1 := Md.irow_lit (l := [Md.slI b]) e0' (by show 1 ≤ 1000; omega)
  have r2 := Md.irow_lit (l := [Md.slI c]) e1 (by show 1 ≤ 1000; omega)
  have uw := u0.trans (u1.mono u0.size)
  have hs2 : W2.heap.size = W.heap.size + 1 + 1 := by rw [← hW2, Md.s_alloc, Md.s_alloc]
  have hFF : FRow (W2.alloc (.cells #[.slice (some ⟨N3, 0, none⟩) 3 3, .slice (some ⟨W.heap.size, 0, none⟩) 1 1, .slice (some ⟨W.heap.size + 1, 0, none⟩) 1 1] 24)) (.slice (some ⟨W2.heap.size, 0, none⟩) 3 3) (Md.fsS a b c) := by
    have kF := heap_alloc_new W2 (.cells #[.slice (some ⟨N3, 0, none⟩) 3 3, .slice (some ⟨W.heap.size, 0, none⟩) 1 1, .slice (some ⟨W.heap.size + 1, 0, none⟩) 1 1] 24)
    have bF := below_alloc (Below.refl _ W2) (.cells #[.slice (some ⟨N3, 0, none⟩) 3 3, .slice (some ⟨W.heap.size, 0, none⟩) 1 1, .slice (some ⟨W.heap.size + 1, 0, none⟩) 1 1] 24)
    exact Md.frow_lit (vs := [.slice (some ⟨N3, 0, none⟩) 3 3, .slice (some ⟨W.heap.size, 0, none⟩) 1 1, .slice (some ⟨W.heap.size + 1, 0, none⟩) 1 1]) (fs := Md.fsS a b c) kF rfl (by show 3 ≤ 1000; omega) (Md.three_cases ((r0.below uw).below bF) (r1.below bF) (r2.below bF))
  have bV := (b3.trans (uw.mono b3.size)).trans ((below_alloc (Below.refl _ W2) (.cells #[.slice (some ⟨N3, 0, none⟩) 3 3, .slice (some ⟨W.heap.size, 0, none⟩) 1 1, .slice (some ⟨W.heap.size + 1, 0, none⟩) 1 1] 24)).mono (by have := b3.size; have := uw.size; omega))
  have bU := bt.out.trans (bV.mono bt.out.size)
  have hfin : Hid (∀ p wx, Md.Ms (W2.alloc (.cells #[.slice (some ⟨N3, 0, none⟩) 3 3, .slice (some ⟨W.heap.size, 0, none⟩) 1 1, .slice (some ⟨W.heap.size + 1, 0, none⟩) 1 1] 24)).drew wx 0 (Md.fsS a b c) p (Md.mo0 0) 0 (fun k => k ∈ []) → Hid (∃ U, Below w.heap.size w U ∧ U.heap[N]? = some (.cells #[.int .i64 a, .int .i64 b, .int .i64 c] 3 (0, 0)) ∧ Md.Ms U wx 0 (Md.fsS a b c) p (Md.mo0 0) 0 (fun k => k ∈ []))) := Lib.hid fun p wx h => Lib.hid ⟨_, bU.drew, (bV.drew.block _ (block_lt kt.out)).trans kt.out, h⟩
  have cb := Md.ms_build (G := 0) (hT.out.below bU.drew) (fs := Md.fsS a b c) (hFF.below (Below.refl _ _).drew) (Md.may_of hP.out)
  rw [hs2, ← hW2] at cb
  rw [← hW2] at hfin
  have t2a := cell_then u0 t2'
  have t1a := cell_then u0 t1'
  replace bU := Lib.hid bU
  replace hFF := Lib.hid hFF
  replace cb := Lib.hid cb
  clear hW2 hs2 uw r0 r1 r2 u0 u1 e0 e1 e0' b3 k3' hN3 t0 t1 t2
  go_wp2_with fail
  go_cut [12] (fun u wx => ∃ p : Nat, u = .pointer (some ⟨p, 0, none⟩) ∧ Hid (∃ U, Below w.heap.size w U ∧ U.heap[N]? = some (.cells #[.int .i64 a, .int .i64 b, .int .i64 c] 3 (0, 0)) ∧ Md.Ms U wx 0 (Md.fsS a b c) p (Md.mo0 0) 0 (fun k => k ∈ [])))
  case first =>
    go_region_with (first | (go_at_call 4; ((with_reducible refine (Md.sclos b (by omega)).mono ?_); rintro e wy ⟨rfl, rfl⟩)) | (go_at_call 4; ((with_reducible refine (Md.sclos c (by omega)).mono ?_); rintro e wy ⟨rfl, rfl⟩; try rw [Md.s_alloc])) | (go_at_call 5; ((refine Calls.mono cb.out ?_); rintro e w2 ⟨p, rfl, hm⟩; have hm := hfin.out p w2 hm)))
    all_goals
      go_wp2_with fail
      go_meet
      exact ⟨p, rfl, hm⟩
  case rest =>
    obtain ⟨p, rfl, hm⟩ := hcut
    clear cb hfin hFF t0' t1' t2' t1a t2a bU
    obtain ⟨U, hbU, hNU, hm1⟩ := hm.out
    have st1 : Hid (Md.Ms U wc 0 (Md.fsS a b c) p (Md.sq a b c 0) 0 (fun k => k ∈ [])) := Lib.hid hm1
    replace hbU := Lib.hid hbU
    replace hNU := Lib.hid hNU
    obtain ⟨s, hs⟩ : ∃ k : Nat, 1 + Y3 % 100 = (k : Int) := ⟨(1 + Y3 % 100).toNat, by omega⟩
    have s1 : 1 ≤ s := by omega
    have s100 : s ≤ 100 := by omega
    clear hm hm1
    go_wp2_with fail
    go_loopw [13] (fun u wr => ∃ i : Nat, u = .int .i64 i ∧ i ≤ 5 ∧ Hid (Md.Ms U wr 0 (Md.fsS a b c) p (Md.sq a b c i) i (fun k => k ∈ []))) (fun u _ => (5 - (RowKit.intOf u).toNat))
    case atStart => exact ⟨0, rfl, by omega, st1⟩
    case round =>
      obtain ⟨i, rfl, hi5, hmr⟩ := hrel
      clear st1
      have i0 : (0 : Int) ≤ (i : Int) := by omega
      by_cases hlt : i < 5
      · have i2 : (i : Int) < 5 := by omega
        obtain ⟨e1, e2, e3, e4⟩ := Md.sq_step a b c i hlt
        have cd := Md.ms_step (g := i - 2) hmr.out hP.out (by omega) e3 e2 e4
        rw [e1] at cd
        obtain ⟨gq, fq, pq, oq, vq, bq, hcq⟩ : ∃ g f pc op v b', Md.comM (Md.fsS a b c) (Md.sq a b c i) (i - 2) = .agg #[.int .i64 g, .int .i64 f, .int .i64 pc, .int .i64 op, .int .i64 v, .bool b'] := ⟨_, _, _, _, _, _, rfl⟩
        rw [hcq] at cd
        have emx : max (0 : Int) ((i : Int) - 2) = ((i - 2 : Nat) : Int) := by omega
        obtain ⟨g, hg⟩ : ∃ g, i - 2 = g := ⟨_, rfl⟩
        rw [hg] at cd emx
        clear hmr e1 e2 e3 e4 hcq hg
        go_wp2_with fail
        with_reducible refine Calls.mono cd ?_
        rintro e w8 ⟨rfl, hm8, -⟩
        have hnx : Hid (Md.Ms U (w8.alloc (.cells #[.int .i64 gq, .int .i64 fq, .int .i64 pq, .int .i64 oq, .int .i64 vq, .bool bq] 31)) 0 (Md.fsS a b c) p (Md.sq a b c (i + 1)) (i + 1) (fun k => k ∈ [])) := Lib.hid (hm8.below (below_alloc (Below.refl _ _) _))
        clear cd hm8 emx
        go_wp2_with fail
        go_roundw
        case rel => exact ⟨i + 1, by go_num, by omega, hnx⟩
        case measure => simp [RowKit.intOf]; omega
      · obtain rfl : i = 5 := by omega
        have hmd := hmr.out
        have c0 := Md.ms_state hmd 0
        have c1 := Md.ms_state hmd 1
        have c2 := Md.ms_state hmd 2
        have cq := Md.ms_stuck hmd
        rw [show Md.stX (Md.sq a b c 5) 0 = 3 from rfl] at c0
        rw [show Md.stX (Md.sq a b c 5) 1 = 3 from rfl] at c1
        rw [show Md.stX (Md.sq a b c 5) 2 = 3 from rfl] at c2
        rw [show (decide (St.cnt (Md.sq a b c 5).st 1 = 0) && (decide ((Md.sq a b c 5).tm.length = 0) && decide (0 < St.cnt (Md.sq a b c 5).st 3))) = false from rfl] at cq
        have st2 : Hid (∃ (now : Nat) (M : Md.Mo), s = now + s ∧ Md.Ms U wr 0 (Md.fsS a b c) p M (5 + now) (fun k => k ∈ []) ∧ Md.Sp a b c now M ∧ (0 ≤ (-1 : Int) ∨ ∀ g, g < 3 → now < Md.tt a b c g + 1)) := Lib.hid ⟨0, _, by omega, hmd, Md.sp_start, .inr fun g hg => by omega⟩
        clear hmr hmd
        go_wp2_with fail
        with_reducible refine Calls.mono c0 ?_
        rintro e w7 ⟨rfl, rfl⟩
        go_wp2_with fail
        with_reducible refine Calls.mono c1 ?_
        rintro e w7 ⟨rfl, rfl⟩
        go_wp2_with fail
        with_reducible refine Calls.mono c2 ?_
        rintro e w7 ⟨rfl, rfl⟩
        go_wp2_with fail
        with_reducible refine Calls.mono cq ?_
        rintro e w7 ⟨rfl, rfl⟩
        clear c0 c1 c2 cq
        go_upto_region 17 with fail
        try rw [h03]
        try rw [hs]
        clear h03 hs p3
        go_wp2_with fail
        go_loopw [18, 19] (fun u18 u19 wq => ∃ (last : Int) (nx : Nat), u18 = .int .i64 last ∧ u19 = .int .i64 nx ∧ nx ≤ 800 ∧ Hid (∃ (now : Nat) (M : Md.Mo), nx = now + s ∧ Md.Ms U wq 0 (Md.fsS a b c) p M (5 + now) (fun k => k ∈ []) ∧ Md.Sp a b c now M ∧ (0 ≤ last ∨ ∀ g, g < 3 → now < Md.tt a b c g + 1))) (fun _ u _ => (800 - (RowKit.intOf u).toNat))
        case atStart => exact ⟨-1, s, rfl, rfl, by omega, st2⟩
        case round =>
          obtain ⟨last, nx, rfl, rfl, hnx8, hst⟩ := hrel
          obtain ⟨now, M, hnn, hms, hsp, hla⟩ := hst.out
          clear st2 hst
          have n0 : (0 : Int) ≤ (nx : Int) := by omega
          by_cases hlt : nx < 700
          · have i3 : (nx : Int) < 700 := by omega
            have ct := Md.tickS hms hsp (by omega) (by omega) s1
            have hnow : Hid ((nx : Int) - (s : Int) = (now : Int)) := Lib.hid (by omega)
            rw [← hnn] at ct
            replace hnn := Lib.hid hnn
            have hb5 := Lib.hid hms.bel
            replace hla := Lib.hid hla
            clear hms hsp
            go_wp2_with fail
            with_reducible refine Calls.mono ct ?_
            rintro e w5 ⟨sp, n, cap, rfl, hnm, hwk, hno, hmo⟩
            clear ct hb5
            go_wp2_with fail
            go_loopw [18, 21] (fun u18 u21 wz => ∃ (l2 : Int) (i : Nat), u18 = .int .i64 l2 ∧ u21 = .int .i64 i ∧ i ≤ n ∧ Hid ((0 < i → 0 ≤ l2) ∧ (i = 0 → l2 = last)) ∧ Hid (Below w5.heap.size w5 wz)) (fun _ u _ => (n - (RowKit.intOf u).toNat))
            case atStart => exact ⟨last, 0, rfl, rfl, by omega, Lib.hid ⟨fun h => by omega, fun _ => rfl⟩, Lib.hid (Below.refl _ _)⟩
            case round =>
              obtain ⟨l2, i, rfl, rfl, hin, hl2, hbz⟩ := hrel
              have i0 : (0 : Int) ≤ (i : Int) := by omega
              by_cases hlt2 : i < n
              · have i2 : (i : Int) < (n : Int) := by omega
                obtain ⟨g, b', off, rfl, cg, g3, t1, t2, hpr⟩ := hwk.out i hlt2
                obtain ⟨M', hm', _⟩ := hmo.out
                have tg := cell_then hbz.out (cell_then hm'.bel (Md.tcell hNU.out g3))
                have cg' := cell_then hbz.out cg
                have tP : ∀ g', g' < 3 → wr.cell? ⟨N, g', none⟩ = some (.int .i64 (Md.tt a b c g')) := fun g' h3 => cell_then hbz.out (cell_then hm'.bel (Md.tcell hNU.out h3))
                have hcP : ∀ x y, w5.cell? x = some y → wr.cell? x = some y := fun x y h => cell_then hbz.out h
                obtain ⟨x, hx⟩ : ∃ x, Md.tt a b c g = x := ⟨_, rfl⟩
                rw [hx] at tg t1 t2 hpr
                have hnn' := hnn.out
                have hno' := hnow.out
                have gg0 : (0 : Int) ≤ (g : Int) := by omega
                have gg2 : (g : Int) ≤ 2 := by omega
                have gg4 : (g : Int) < 3 := by omega
                have q1 : decide ((g : Int) < 0) = false := decide_eq_false (by omega)
                have q2 : decide ((2 : Int) < (g : Int)) = false := decide_eq_false (by omega)
                have q3 : decide ((nx : Int) < (x : Int) + 1) = false := decide_eq_false (by omega)
                have q4 : decide ((x : Int) + 1 ≤ (now : Int)) = false := decide_eq_false (by omega)
                have z1 : IntKind.i64.wrap ((x : Int) + 1) = (x : Int) + 1 := by rw [IntKind.wrap_i64]; omega
                have z2 : IntKind.i64.wrap ((nx : Int) - (s : Int)) = (now : Int) := by rw [IntKind.wrap_i64]; omega
                have r1 : ¬ (nx : Int) < (x : Int) + 1 := by omega
                have r2 : ¬ (x : Int) + 1 ≤ (now : Int) := by omega
                have hZ : Hid (∀ V, Below wr.heap.size wr V → Below w5.heap.size w5 V) := Lib.hid fun V hV => hbz.out.trans (hV.mono hbz.out.size)
                clear cg hm' hl2 hwk hx hnn'
                by_cases hi0 : i = 0
                · have y4 : ¬ (0 : Int) < (i : Int) := by omega
                  have y6 : ¬ 0 < i := by omega
                  have y7 : decide ((0 : Int) < (i : Int)) = false := decide_eq_false y4
                  have y8 : decide (0 < i) = false := decide_eq_false y6
                  replace hi0 := Lib.hid hi0
                  replace hno' := Lib.hid hno'
                  clear hpr tP hcP
                  go_wp2_with fail
                  go_big_quiet (fail)
                  go_wp2_with fail
                  go_roundw
                  case rel => exact ⟨g, i + 1, rfl, by go_num, by omega, Lib.hid ⟨fun _ => gg0, fun h => by omega⟩, Lib.hid (hZ.out _ (by repeat (first | assumption | exact Below.refl _ _ | refine below_drewN ?_ _ | refine below_alloc ?_ _ | refine below_then ?_ (by assumption))))⟩
                  case measure => simp [RowKit.intOf]; omega
                · obtain ⟨i', hi'⟩ : ∃ i', i = i' + 1 := ⟨i - 1, by omega⟩
                  obtain ⟨g', cp, g3', hor⟩ := hpr i' hi'
                  have cp' := hcP _ _ cp
                  have tg' := tP g' g3'
                  obtain ⟨x', hx'⟩ : ∃ x', Md.tt a b c g' = x' := ⟨_, rfl⟩
                  rw [hx'] at tg' hor
                  have gh0 : (0 : Int) ≤ (g' : Int) := by omega
                  have gh4 : (g' : Int) < 3 := by omega
                  have y4 : (0 : Int) < (i : Int) := by omega
                  have y6 : 0 < i := by omega
                  have z4 : IntKind.i64.wrap ((i : Int) - 1) = (i' : Int) := by rw [IntKind.wrap_i64]; omega
                  have z6 : (i : Int) - 1 = (i' : Int) := by omega
                  have i4 : (i' : Int) < (n : Int) := by omega
                  have i5 : (0 : Int) ≤ (i' : Int) := by omega
                  have y9 : decide ((x : Int) < (x' : Int)) = false := decide_eq_false (by omega)
                  have y9' : decide (x < x') = false := decide_eq_false (by omega)
                  have y5 : ¬ (x : Int) < (x' : Int) := by omega
                  have y5' : ¬ x < x' := by omega
                  replace hi' := Lib.hid hi'
                  replace hi0 := Lib.hid hi0
                  replace hno' := Lib.hid hno'
                  clear hpr tP hcP cp hx'
                  by_cases hxx : x' = x
                  · subst hxx
                    have y10 : decide ((g : Int) < (g' : Int)) = false := decide_eq_false (by omega)
                    have y11 : decide (g < g') = false := decide_eq_false (by omega)
                    have y12 : ¬ (g : Int) < (g' : Int) := by omega
                    have y13 : ¬ g < g' := by omega
                    clear hor
                    go_wp2_with fail
                    go_big_quiet (fail)
                    go_wp2_with fail
                    go_roundw
                    case rel => exact ⟨g, i + 1, rfl, by go_num, by omega, Lib.hid ⟨fun _ => gg0, fun h => by omega⟩, Lib.hid (hZ.out _ (by repeat (first | assumption | exact Below.refl _ _ | refine below_drewN ?_ _ | refine below_alloc ?_ _ | refine below_then ?_ (by assumption))))⟩
                    case measure => simp [RowKit.intOf]; omega
                  · have y10 : ((x' : Int) == (x : Int)) = false := by rw [beq_eq_false_iff_ne]; omega
                    have y11 : (x' == x) = false := by rw [beq_eq_false_iff_ne]; exact hxx
                    have y12 : decide ((x' : Int) = (x : Int)) = false := decide_eq_false (by omega)
                    have y13 : decide (x' = x) = false := decide_eq_false hxx
                    have y14 : ¬ (x' : Int) = (x : Int) := by omega
                    clear hor
                    go_wp2_with fail
                    go_big_quiet (fail)
                    go_wp2_with fail
                    go_roundw
                    case rel => exact ⟨g, i + 1, rfl, by go_num, by omega, Lib.hid ⟨fun _ => gg0, fun h => by omega⟩, Lib.hid (hZ.out _ (by repeat (first | assumption | exact Below.refl _ _ | refine below_drewN ?_ _ | refine below_alloc ?_ _ | refine below_then ?_ (by assumption))))⟩
                    case measure => simp [RowKit.intOf]; omega
              · obtain rfl : i = n := by omega
                obtain ⟨M', hm', hsp'⟩ := hmo.out
                have hms2 : Hid (∀ V, Below wr.heap.size wr V → Md.Ms U V 0 (Md.fsS a b c) p M' (5 + nx) (fun k => k ∈ [])) := Lib.hid fun V hV => hm'.below (hbz.out.trans (hV.mono hbz.out.size))
                have htc : Hid (∀ V, Below wr.heap.size wr V → ∀ g, g < 3 → V.cell? ⟨N, g, none⟩ = some (.int .i64 (Md.tt a b c g))) := Lib.hid fun V hV g h3 => cell_then (hms2.out V hV).bel (Md.tcell hNU.out h3)
                have hcs : Hid (∀ V, Below wr.heap.size wr V → ∀ g : Nat, g < 3 → Calls Tryd.prog 7 #[.pointer (some ⟨p, 0, none⟩), .int .i64 g] V (Still (.int .i64 (if Md.tt a b c g + 1 ≤ nx then 1 else 3)) V)) := Lib.hid fun V hV g h3 => by
                  have := Md.ms_state (hms2.out V hV) (g : Int)
                  rw [Md.sp_stX hsp' h3] at this
                  exact this
                have hla2 : Hid (0 ≤ l2 ∨ ∀ g, g < 3 → nx < Md.tt a b c g + 1) := Lib.hid (by
                  by_cases e : i = 0
                  · rcases hla.out with e2 | e2
                    · exact .inl (by rw [hl2.out.2 e]; exact e2)
                    · exact .inr fun g h3 => hno.out e g h3 (e2 g h3)
                  · exact .inl (hl2.out.1 (by omega)))
                have hend : Hid (∀ V, Below wr.heap.size wr V → ∃ (now : Nat) (M : Md.Mo), nx + s = now + s ∧ Md.Ms U V 0 (Md.fsS a b c) p M (5 + now) (fun k => k ∈ []) ∧ Md.Sp a b c now M ∧ (0 ≤ l2 ∨ ∀ g, g < 3 → now < Md.tt a b c g + 1)) := Lib.hid fun V hV => ⟨nx, M', rfl, hms2.out V hV, hsp', hla2.out⟩
                clear hm' hsp' hmo hwk hno hla hl2 hms2 hla2 hnn hbz
                obtain ⟨W9, hW9⟩ : ∃ W9, wr = W9 := ⟨_, rfl⟩
                rw [hW9] at hend hcs htc ⊢
                clear hW9
                go_wp2_with fail
                go_loopw [23] (fun u wz => ∃ g : Nat, u = .int .i64 g ∧ g ≤ 3 ∧ Hid (Below W9.heap.size W9 wz)) (fun u _ => (3 - (RowKit.intOf u).toNat))
                case atStart => exact ⟨0, rfl, by omega, Lib.hid (Below.refl _ _)⟩
                case round =>
                  obtain ⟨g, rfl, hg3, hbz⟩ := hrel
                  have gg0 : (0 : Int) ≤ (g : Int) := by omega
                  by_cases hlt3 : g < 3
                  · have gg4 : (g : Int) < 3 := by omega
                    obtain ⟨w1, hw1⟩ : ∃ w1, wr = w1 := ⟨_, rfl⟩
                    rw [hw1] at hbz ⊢
                    have tg := htc.out _ hbz.out g hlt3
                    have k1 : Hid (∀ n, Calls Tryd.prog 7 #[.pointer (some ⟨p, 0, none⟩), .int .i64 g] (w1.drewN n) (Ans (.int .i64 (if Md.tt a b c g + 1 ≤ nx then 1 else 3)) (w1.drewN n))) := Lib.hid fun n => (hcs.out _ (hbz.out.trans ((below_drewN (Below.refl _ _) n).mono hbz.out.size)) g hlt3).mono fun _ _ ⟨he, hw⟩ => ⟨he, 0, hw.symm⟩
                    have tb := Md.tt_lt a5 b5 c5 g
                    obtain ⟨x, hx⟩ : ∃ x, Md.tt a b c g = x := ⟨_, rfl⟩
                    rw [hx] at tg k1 tb
                    have z1 : IntKind.i64.wrap ((x : Int) + 1) = (x : Int) + 1 := by rw [IntKind.wrap_i64]; omega
                    have hZ : Hid (∀ V, Below w1.heap.size w1 V → Below W9.heap.size W9 V) := Lib.hid fun V hV => hbz.out.trans (hV.mono hbz.out.size)
                    clear hx hbz
                    by_cases hle : x + 1 ≤ nx
                    · rw [if_pos hle] at k1
                      have hle1 : (x : Int) + 1 ≤ (nx : Int) := by omega
                      go_wp2_with fail
                      go_quiet ((go_at_call 7; exact quiet_ans1 (k1.out _)))
                      go_wp2_with fail
                      go_roundw
                      case rel => exact ⟨g + 1, by go_num, by omega, Lib.hid (hZ.out _ (by repeat (first | assumption | exact Below.refl _ _ | refine below_drewN ?_ _ | refine below_alloc ?_ _ | refine below_then ?_ (by assumption))))⟩
                      case measure => simp [RowKit.intOf]; omega
                    · rw [if_neg hle] at k1
                      have hle1 : ¬ (x : Int) + 1 ≤ (nx : Int) := by omega
                      go_wp2_with fail
                      go_quiet ((go_at_call 7; exact quiet_ans1 (k1.out _)))
                      go_wp2_with fail
                      go_roundw
                      case rel => exact ⟨g + 1, by go_num, by omega, Lib.hid (hZ.out _ (by repeat (first | assumption | exact Below.refl _ _ | refine below_drewN ?_ _ | refine below_alloc ?_ _ | refine below_then ?_ (by assumption))))⟩
                      case measure => simp [RowKit.intOf]; omega
                  · obtain rfl : g = 3 := by omega
                    have hnxt := Lib.hid (hend.out _ hbz.out)
                    clear hbz hend hcs htc
                    have z9 : IntKind.i64.wrap ((nx : Int) + (s : Int)) = ((nx + s : Nat) : Int) := by rw [IntKind.wrap_i64]; omega
                    go_wp2_with fail
                    go_roundw
                    case rel => exact ⟨l2, nx + s, rfl, by go_num, by omega, hnxt⟩
                    case measure => simp [RowKit.intOf]; omega
          · have i3 : ¬ (nx : Int) < 700 := by omega
            have l0 : 0 ≤ last := by
              rcases hla with e | e
              · exact e
              · have := e 0 (by omega)
                have := Md.tt_lt a5 b5 c5 0
                omega
            have hbW := Lib.hid (hbU.out.trans (hms.bel.mono hbU.out.size))
            have ctl := Md.told_any (hT.out.below hbW.out)
            clear hms hsp hla hnn
            go_wp2_with fail
            with_reducible refine Calls.mono ctl ?_
            rintro e w9 ⟨rfl, hb9⟩
            have hfin := Lib.hid (hbW.out.trans (hb9.mono hbW.out.size))
            clear ctl hb9 hbW
            go_wp2_with fail
            go_ret
            exact ⟨rfl, hfin.out⟩

set_option maxRecDepth 100000 in
theorem lifted (os : Os) (started : os.Started) (H : Type) (enc : TypeId × Value → H) :
    ReturnsInHanded {} Tryd.checked os 3 .any (fun w args => (Rows.modelSleepsSpec.pre enc Tryd.prog Tryd.f3 [] false w args ∧ laidMetH Tryd.prog [("treadmill/code.takes", Rows.laid_treadmill_code_takes)] w) ∧ sizedMet enc Tryd.prog Tryd.f3 (OpenSpec.ofChange Rows.modelSleepsSpec) false w args) (Rows.modelSleepsSpec.post enc Tryd.prog Tryd.f3 false true false false) := by
  refine returnsInHanded_of_change_and (C := Tryd.checked) (X := fun w _ => laidMetH Tryd.prog [("treadmill/code.takes", Rows.laid_treadmill_code_takes)] w) (fun _ _ _ hh h => h.of_heap hh) own started (by kernel_rfl) Tryd.func3
    (ChangeSpec.witness_shaped (enc := enc) (C := Tryd.checked) (os := os) (X := fun w _ => laidMetH Tryd.prog [("treadmill/code.takes", Rows.laid_treadmill_code_takes)] w) false (World.doorLaid Tryd.prog 400 os) #[.int .i64 0, .int .i64 0, .int .i64 0, .int .i64 0] 8 rfl (World.shaped_of_RefB (by kernel_rfl) (by kernel_rfl)) (by kernel_rfl) (by kernel_rfl) (by kernel_rfl) (door_met os _)) ?_
  intro W base args ds gs before hval0 hW _ _ hL _
  have hval : ∀ (j : Nat) t v, Tryd.f3.params[j]? = some t → args[j]? = some v → Value.okWide Tryd.prog W .any base t v := hval0
  have hW' := hW
  obtain ⟨p, q, hA0, hV, rfl, hfz, hnd⟩ := hW
  have hA : DataW.TrodAll enc Tryd.prog W 0 (fun _ => true) true Tryd.f3.params.toList args.toList ds p := hA0
  rw [Tryd.params3] at hA hval
  obtain ⟨v0, vs0, d0, ds0, p0, q0, hargs, rfl, rfl, h0, r0⟩ := trodAll_cons hA
  obtain ⟨v1, vs1, d1, ds1, p1, q1, rfl, rfl, rfl, h1, r1⟩ := trodAll_cons r0
  obtain ⟨v2, vs2, d2, ds2, p2, q2, rfl, rfl, rfl, h2, r2⟩ := trodAll_cons r1
  obtain ⟨v3, vs3, d3, ds3, p3, q3, rfl, rfl, rfl, h3, r3⟩ := trodAll_cons r2
  obtain ⟨rfl, rfl, rfl⟩ := trodAll_nil r3
  obtain rfl : args = #[v0, v1, v2, v3] := by cases args; simp_all
  obtain ⟨rfl, rfl⟩ := trodVars_none hV
  obtain ⟨a0, rfl, rfl, rfl, w0⟩ := open_int Tryd.underlying3 (hval 0 3 v0 rfl rfl) h0
  obtain ⟨a1, rfl, rfl, rfl, w1⟩ := open_int Tryd.underlying3 (hval 1 3 v1 rfl rfl) h1
  obtain ⟨a2, rfl, rfl, rfl, w2⟩ := open_int Tryd.underlying3 (hval 2 3 v2 rfl rfl) h2
  obtain ⟨a3, rfl, rfl, rfl, w3⟩ := open_int Tryd.underlying3 (hval 3 3 v3 rfl rfl) h3
  clear hA0 hval0
  simp only [List.append_nil] at hW'
  refine (walk a0 a1 a2 a3 W (tk_of_laid hL) w0 w1 w2 w3).mono fun e W' ⟨he, hg⟩ => ?_
  subst he
  exact ⟨_, rfl, post_of_kept (pa := _) (pv := []) hW' (fun _ _ _ => (trodAll_cons_mk (shut_bool Tryd.underlying4 _) trodAll_mk0)) (trodAll_cons_mk (shut_int Tryd.underlying3 w0) (trodAll_cons_mk (shut_int Tryd.underlying3 w1) (trodAll_cons_mk (shut_int Tryd.underlying3 w2) (trodAll_cons_mk (shut_int Tryd.underlying3 w3) trodAll_mk0)))) (fun _ _ => rfl) (by simp) hg⟩

theorem over : Rows.modelSleepsRow.holds Tryd.pinned (OpenSpec.ofChange Rows.modelSleepsSpec) :=
  OpenClaim.holds_of_wide 3 Tryd.f3 rfl rfl rfl rfl rfl rfl rfl ⟨rfl, rfl, rfl, rfl, rfl⟩ rfl rfl rfl rfl rfl (by kernel_rfl) Tryd.func3 (by kernel_rfl)
    (of_decide_eq_true (by kernel_rfl)) (by unfold Func.isWrapper; first | (rw [if_pos (by decide +kernel)]; kernel_rfl) | (rw [if_neg (by decide +kernel)]; exact ⟨rfl, rfl⟩))
    (fun os started H enc _ => lifted os started H enc)

theorem proved : Rows.ModelSleepsCardSaid :=
  Claim7.holds_tied_plain_at .later [] [.data] true Rows.modelSleepsCard.stood.harness true
    over (fun _ h => by cases h) (by kernel_rfl) (fun _ h => by cases h) modelSleeps_row_tie rfl ⟨rfl, rfl⟩ (by kernel_rfl) rfl
    (fun f fn hf hfn => by
      obtain rfl : f = 3 := Option.some.inj ((show Tryd.prog.funcNamed "treadmill/treadmilllaw16.ModelSleeps" = some 3 by kernel_rfl).symm.trans hf) |>.symm
      obtain rfl : fn = Tryd.f3 := (Option.some.inj (Tryd.func3.symm.trans hfn)).symm
      exact ⟨by kernel_rfl, fun j t ht => by
        rw [Tryd.params3] at ht
        have hm : t ∈ [3] := by simpa using Array.mem_of_getElem? ht
        have hall : ([3].all fun u => !Tryd.prog.wantsStandIn u) = true := by kernel_rfl
        exact (show Tryd.prog.wantsStandIn t = false by simpa using List.all_eq_true.1 hall t hm)⟩)
    (by kernel_rfl)
#print axioms proved
end Go.Proofs.YtdhkakjiahkjnaaDoor.modelSleeps
