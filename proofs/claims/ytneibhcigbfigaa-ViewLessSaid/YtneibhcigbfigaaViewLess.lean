/- treadmilllaw29.ViewLess. -/
import Derived.Test.YtneibhcigbfigaaHome
import Derived.Test.YtneibhcigbfigaaVwArg
import Derived.Test.YtneibhcigbfigaaVwLsG
import Derived.WalkKit
import Derived.ProofKit
import Derived.OpenShut
import Derived.Deep.RegionHeld3
import Derived.Deep.RegionWith
import Derived.Deep.Cut
import Derived.Deep.CutBlock
import Derived.Deep.CutRange
import Derived.Deep.LoopGhost
import Derived.Deep.DeepCutAuto
import Derived.RegionTactic
import Derived.StillTailTactics
namespace Go.Proofs.Ytneibhcigbfigaa.viewLess
open Go.ChangeShapes Go.WideShapes Go.ChangeAt Go.WideElems Go.RowKit Go.Lib Fx Ho Vw Gr
set_option linter.unusedVariables false

theorem own : ownKnob Try.prog.godebug = none := by kernel_rfl

set_option linter.unusedSimpArgs false
set_option maxRecDepth 100000 in
set_option maxHeartbeats 4000000 in
theorem walk (V0 : Vi) (vg0 vs0 vo0 : Value) (a1 : Int) (a2 : Int) (w : World) (h0 : IsV w V0 vg0 vs0 vo0) (w1 : (Lit.int .i64 a1).wf = true) (w2 : (Lit.int .i64 a2).wf = true) :
    Calls Try.prog 7 #[vv V0 vg0 vs0 vo0, .int .i64 a1, .int .i64 a2] w fun e w' => e = .returned (.bool true) ∧ Below w.heap.size w w' := by
  have ct := fun w => told_any w
  obtain ⟨sg, cg, rfl, hml, -⟩ := id h0.gl
  obtain ⟨ss, cs, rfl, hmg, -⟩ := id h0.gs
  obtain ⟨so, co, rfl, hmo, -⟩ := id h0.os
  obtain ⟨vg0, hvg⟩ : ∃ v : Value, v = .slice sg V0.gl.length cg := ⟨_, rfl⟩
  obtain ⟨vs0, hvs⟩ : ∃ v : Value, v = .slice ss V0.gs.length cs := ⟨_, rfl⟩
  obtain ⟨vo0, hvo⟩ : ∃ v : Value, v = .slice so V0.os.length co := ⟨_, rfl⟩
  rw [← hvg, ← hvs, ← hvo] at h0 ⊢
  replace hvg := Lib.hid hvg
  replace hvs := Lib.hid hvs
  replace hvo := Lib.hid hvo
  obtain ⟨W1, hW1⟩ : ∃ W1, w.alloc (.cells #[.int .i64 V0.ph, .int .i64 V0.cy, .int .i64 V0.ck, vg0, vs0, vo0, .int .i64 V0.gr, .int .i64 V0.nt, .int .i64 V0.rt] 32) = W1 := ⟨_, rfl⟩
  have hb1 := below_alloc (Below.refl _ w) (.cells #[.int .i64 V0.ph, .int .i64 V0.cy, .int .i64 V0.ck, vg0, vs0, vo0, .int .i64 V0.gr, .int .i64 V0.nt, .int .i64 V0.rt] 32)
  have k1 := heap_alloc_new w (.cells #[.int .i64 V0.ph, .int .i64 V0.cy, .int .i64 V0.ck, vg0, vs0, vo0, .int .i64 V0.gr, .int .i64 V0.nt, .int .i64 V0.rt] 32)
  rw [hW1] at hb1 k1
  have h1 := h0.below hb1
  have hB1 := Lib.hid (box9_of (V := V0) k1)
  have cf := few_any h1
  unfold vv at cf ⊢
  clear h0 k1
  replace h1 := Lib.hid h1
  replace hb1 := Lib.hid hb1
  go_enter Try.func7, Try.ntmps7
  go_upto_region 1 with fail
  try rw [hW1]
  clear hW1
  obtain ⟨p, hp⟩ : ∃ p, w.heap.size = p := ⟨_, rfl⟩
  rw [hp] at hB1
  try rw [hp]
  replace hp := Lib.hid hp
  obtain ⟨g0, g1, g2, g3, g4, g5, g6, g7, g8⟩ := hB1.out
  go_wp2_with fail
  with_reducible refine Calls.mono cf ?_
  rintro ed w2 ⟨⟨bq, rfl, hF⟩, hb⟩
  clear cf g0 g1 g2 g3 g4 g5 g6 g7 g8
  have hb2 := Lib.hid (hb1.out.trans (hb.mono hb1.out.size))
  cases bq with
  | false =>
    have ct := ct w2
    clear hF hb hb1 h1 hB1
    go_wp2_with fail
    with_reducible refine Calls.mono ct ?_
    rintro ed w3 ⟨rfl, hb⟩
    have hfin := Lib.hid (hb2.out.trans (hb.mono hb2.out.size))
    clear ct hb
    go_wp2_with fail
    go_ret
    exact ⟨rfl, hfin.out⟩
  | true =>
    have hf := hF rfl
    have h2 := h1.out.below hb
    have hB2 := Lib.hid (hB1.out.below hb)
    have cr := viewReach_any h2 hf
    unfold ReachV vv at cr
    replace hf := Lib.hid hf
    clear hF hb hB1 h1 hb1
    replace h2 := Lib.hid h2
    obtain ⟨g0, g1, g2, g3, g4, g5, g6, g7, g8⟩ := hB2.out
    go_wp2_with fail
    with_reducible refine Calls.mono cr ?_
    rintro ed w3 ⟨wv, ts, rfl, hts, hwi, hb⟩
    have h3 := Lib.hid (h2.out.below hb)
    have hB3 := Lib.hid (hB2.out.below hb)
    have hb3 := Lib.hid (hb2.out.trans (hb.mono hb2.out.size))
    clear cr g0 g1 g2 g3 g4 g5 g6 g7 g8 hB2 h2 hb2
    replace hts := Lib.hid hts
    have hwi := Lib.hid hwi
    obtain ⟨sw, cw, rfl, -⟩ := id hwi.out
    obtain ⟨g0, g1, g2, g3, g4, g5, g6, g7, g8⟩ := hB3.out
    clear hb
    obtain ⟨l, hl⟩ : ∃ l, V0.gl.length = l := ⟨_, rfl⟩
    obtain ⟨g, hg⟩ : ∃ g, V0.gs.length = g := ⟨_, rfl⟩
    obtain ⟨m, hm⟩ : ∃ m, V0.os.length = m := ⟨_, rfl⟩
    have hvg2 := hvg.out
    have hvs2 := hvs.out
    have hvo2 := hvo.out
    rw [hl] at hvg2
    rw [hg] at hvs2
    rw [hm] at hvo2
    subst hvg2 hvs2 hvo2
    clear hvg hvs hvo
    replace hl := Lib.hid hl
    replace hg := Lib.hid hg
    replace hm := Lib.hid hm
    go_upto_region 5 with fail
    have hlw : Hid (∀ k t, Lw w3 (w3.alloc (.cells #[.int .i64 V0.ph, .int .i64 V0.cy, .int .i64 V0.ck, .slice sg l cg, .slice ss g cs, .slice none 0 0, .int .i64 V0.gr, .int .i64 V0.nt, .int .i64 V0.rt] 32)) V0 w3.heap.size (.slice sg l cg) (.slice ss g cs) (.slice none 0 0) k t 0 []) := Lib.hid fun k t => Lw.start w3
    go_upto_region 6 with fail
    clear g0 g1 g2 g3 g4 g5 g6 g7 g8
    obtain ⟨U, hU⟩ : ∃ U, (w3.alloc (.cells #[.int .i64 V0.ph, .int .i64 V0.cy, .int .i64 V0.ck, .slice sg l cg, .slice ss g cs, .slice none 0 0, .int .i64 V0.gr, .int .i64 V0.nt, .int .i64 V0.rt] 32)) = U := ⟨_, rfl⟩
    rw [hU] at hlw ⊢
    obtain ⟨q, hq⟩ : ∃ q, w3.heap.size = q := ⟨_, rfl⟩
    rw [hq] at hlw
    try rw [hq]
    clear hU
    replace hq := Lib.hid hq
    have m40 : m ≤ 40 := by rw [← hm.out]; exact hf.out.os
    have l40 : l ≤ 40 := by rw [← hl.out]; exact hf.out.gl
    have mm0 : (0 : Int) ≤ (m : Int) := by omega
    have ll0 : (0 : Int) ≤ (l : Int) := by omega
    obtain ⟨Y, hY⟩ : ∃ Y : Int, IntKind.u64.wrap a1 = Y := ⟨_, rfl⟩
    have Y0 : 0 ≤ Y := by rw [← hY, IntKind.wrap_u64]; omega
    obtain ⟨t, hZ⟩ : ∃ t : Nat, IntKind.u64.wrap a2 = (t : Int) := ⟨(IntKind.u64.wrap a2).toNat, by rw [IntKind.wrap_u64]; omega⟩
    have hat : Hid (∀ W, Below w3.heap.size w3 W → ∀ i, i < m → ∃ b off sp2 p2, so = some ⟨b, off, none⟩ ∧ W.cell? ⟨b, off + i * 3, none⟩ = some (.int .i64 (V0.os.getD i o0).1) ∧ W.cell? ⟨b, off + i * 3 + 1, none⟩ = some (.slice sp2 (V0.os.getD i o0).2.1.length p2) ∧ W.cell? ⟨b, off + i * 3 + 2, none⟩ = some (.bool (V0.os.getD i o0).2.2) ∧ Ints W Any (.slice sp2 (V0.os.getD i o0).2.1.length p2) (V0.os.getD i o0).2.1) := Lib.hid fun W hW i hi => by
      obtain ⟨sp', cap', e, _, hos⟩ := h3.out.os
      obtain ⟨b, off, sv, e1, _, e3, e4, e5, e6⟩ := hos i (by rw [hm.out]; exact hi)
      obtain ⟨sp2, p2, rfl, _⟩ := id e6
      cases e
      exact ⟨b, off, sp2, p2, e1, cell_then hW e3, cell_then hW e4, cell_then hW e5, e6.below hW⟩
    have hfew : Hid (∀ i, i < m → (V0.os.getD i o0).2.1.length ≤ 300) := Lib.hid fun i hi => hf.out.sl _ (getD_mem o0 (by rw [hm.out]; exact hi))
    obtain ⟨f0, f1, f2, f3, f4, f5, f6, f7, f8⟩ := hB3.out.below (w' := U) (hlw.out 0 0).bel
    clear f0 f1 f2 f4 f6 f7 f8
    obtain ⟨κ, hκ1, hκ0⟩ : ∃ κ : Nat, (0 < m → Y % (m : Int) = (κ : Int) ∧ κ < m) ∧ (m = 0 → κ = 0) := by
      by_cases e : 0 < m
      · have i1b : (m : Int) ≠ 0 := by omega
        have h1 := Int.emod_nonneg Y i1b
        have h2 := Int.emod_lt_of_pos Y (show (0 : Int) < (m : Int) by omega)
        exact ⟨(Y % (m : Int)).toNat, fun _ => ⟨by omega, by omega⟩, fun e2 => by omega⟩
      · exact ⟨0, fun e2 => absurd e2 e, fun _ => rfl⟩
    have i1o : Hid ((0 : Int) < (m : Int) ∨ m = 0) := Lib.hid (by omega)
    go_upto_if 25 with fail
    go_cut [9] (fun u9 wx => u9 = .int .i64 (κ : Int) ∧ wx = U)
    case first =>
      by_cases hm0 : 0 < m
      · have i1 : (0 : Int) < (m : Int) := by omega
        have i1b : (m : Int) ≠ 0 := by omega
        obtain ⟨hκ, κm⟩ := hκ1 hm0
        have κ0 : (0 : Int) ≤ (κ : Int) := by omega
        go_wp2_with fail
        go_meet
        exact ⟨rfl, rfl⟩
      · have i1 : ¬ ((0 : Int) < (m : Int)) := by omega
        have e0 := hκ0 (by omega)
        go_wp2_with fail
        go_meet
        exact ⟨by rw [e0]; rfl, rfl⟩
    case rest =>
      obtain ⟨e9, eU⟩ := hcut
      subst e9 eU
      clear hκ1 hκ0
      go_wp2_with fail
      clear f3 f5
      go_loopw [10, 11] (fun u10 u11 wx => ∃ i : Nat, u10 = .int .i64 i ∧ i ≤ m ∧ Hid (∃ vr xs, Lw w3 wx V0 q (.slice sg l cg) (.slice ss g cs) vr κ t i xs)) (fun u10 _ _ => (m - (RowKit.intOf u10).toNat))
      case atStart => exact ⟨0, rfl, by omega, Lib.hid ⟨_, _, hlw.out κ t⟩⟩
      case round =>
        clear hlw
        obtain ⟨i, rfl, j1, hpa⟩ := hrel
        obtain ⟨vr, xs, hpl⟩ := hpa.out
        clear hpa
        have ii0 : (0 : Int) ≤ (i : Int) := by omega
        obtain ⟨f0, f1, f2, f3, f4, f5, f6, f7, f8⟩ := hB3.out.below (w' := wr) hpl.bel
        clear f0 f1 f2 f4 f6 f7 f8
        by_cases hi : i < m
        · have i2 : (i : Int) < (m : Int) := by omega
          obtain ⟨b, off, sp2, p2, rfl, d0, d1, d2, hI⟩ := hat.out wr hpl.bel i hi
          have n300 := hfew.out i hi
          have hpl := Lib.hid hpl
          obtain ⟨A, hA⟩ : ∃ A, (V0.os.getD i o0).1 = A := ⟨_, rfl⟩
          obtain ⟨mk, hmk⟩ : ∃ mk, (V0.os.getD i o0).2.2 = mk := ⟨_, rfl⟩
          obtain ⟨zs, hzs⟩ : ∃ zs, (V0.os.getD i o0).2.1 = zs := ⟨_, rfl⟩
          rw [hA] at d0
          rw [hmk] at d2
          rw [hzs] at d1 hI n300
          obtain ⟨n, hn⟩ : ∃ n, zs.length = n := ⟨_, rfl⟩
          rw [hn] at d1 hI n300
          replace hI := Lib.hid hI
          replace hA := Lib.hid hA
          replace hzs := Lib.hid hzs
          replace hn := Lib.hid hn
          go_upto_region 14 with fail
          obtain ⟨X, hX⟩ : ∃ X, wr.alloc (.cells #[.int .i64 A, .slice sp2 n p2, .bool true] 29) = X := ⟨_, rfl⟩
          have kX := heap_alloc_new wr (.cells #[.int .i64 A, .slice sp2 n p2, .bool true] 29)
          have bX := below_alloc (Below.refl _ wr) (.cells #[.int .i64 A, .slice sp2 n p2, .bool true] 29)
          rw [hX] at kX bX ⊢
          obtain ⟨O, hO⟩ : ∃ O, wr.heap.size = O := ⟨_, rfl⟩
          have hOO : wr.heap.size ≤ O := by omega
          rw [hO] at kX
          try rw [hO]
          clear hX hO d0 d1 d2 f3 f5
          have hbd : 0 + zs.length ≤ 1000000 := by rw [hn.out]; omega
          have o1 : X.cell? ⟨O, 1, none⟩ = some (.slice sp2 n p2) := cell_of kX rfl
          have o1b : (X.alloc (.cells #[] 3)).cell? ⟨O, 1, none⟩ = some (.slice sp2 n p2) := cell_then (below_alloc (Below.refl _ X) _) o1
          have hsrc : Hid (Src Try.prog 1 23 (.slice sp2 n p2) zs.length (cells zs) (X.alloc (.cells #[] 3))) := Lib.hid (src_of_ints ((hI.out.below bX).below (below_alloc (Below.refl _ X) _)))
          have hlitK : Hid (X.heap.size < (X.alloc (.cells #[] 3)).heap.size) := Lib.hid (by rw [s_alloc]; omega)
          have key : Hid (∀ v9 w9, GRow 1 w9 v9 (0 + zs.length) ([] ++ cells zs) → Wrote (fun r => (Value.slice (some ⟨X.heap.size, 0, none⟩) 0 0).ownBlock = some r) (X.alloc (.cells #[] 3)) (fun r => v9.ownBlock = some r) w9 → (∃ s c, v9 = .slice s n c) ∧ w9.cell? ⟨O, 1, none⟩ = some (.slice sp2 n p2) ∧ w9.frozen? ⟨O, 1, none⟩ = false ∧ Hid (Cp wr (w9.setCell ⟨O, 1, none⟩ v9) O A v9 zs)) := Lib.hid fun v9 w9 g1 g2 => by
            obtain ⟨e1, e2, e3, e4⟩ := Cp.make kX bX hOO g1 g2
            rw [hn.out] at e1
            exact ⟨e1, e2, e3, Lib.hid e4⟩
          clear kX bX hI
          go_upto_region 15 with (at_builtin; refine wpList_append_g rfl (.tmp 47) (.tmp 49) rfl rfl eltI (lit_row1 hlitK.out) rfl rfl hsrc.out hbd ?_; intro v9 w9 g1 g2; obtain ⟨⟨s9, p9, rfl⟩, c9, f9, hcp⟩ := key.out v9 w9 g1 g2; clear g1 g2 key hsrc hlitK)
          obtain ⟨Yw, hYw⟩ : ∃ Yw, w9.setCell ⟨O, 1, none⟩ (.slice s9 n p9) = Yw := ⟨_, rfl⟩
          rw [hYw] at hcp ⊢
          clear hYw c9 f9 o1 o1b hbd
          have u1 : Yw.cell? ⟨O, 1, none⟩ = some (.slice s9 n p9) := cell_of hcp.out.o rfl
          by_cases e15 : i = κ
          · have e1 : ((i : Int) == (κ : Int)) = true := by simp; omega
            by_cases hn0 : 0 < n
            · have e2 : (0 : Int) < (n : Int) := by omega
              have e3 : (n : Int) ≠ 0 := by omega
              have nn0 : (0 : Int) ≤ (n : Int) := by omega
              obtain ⟨ρ, hρ⟩ : ∃ ρ : Nat, t % n = ρ := ⟨_, rfl⟩
              have ρn : ρ < n := by rw [← hρ]; exact Nat.mod_lt _ hn0
              have hρi : (t : Int) % (n : Int) = (ρ : Int) := by rw [← hρ]; omega
              have ρ0 : (0 : Int) ≤ (ρ : Int) := by omega
              have ρ1 : (ρ : Int) < (n : Int) := by omega
              obtain ⟨b2, off2, cap2, ee, z1, z2, hcp3⟩ := hcp.out.zero (i := ρ) (by rw [hn.out]; exact ρn)
              rw [hn.out] at ee
              cases ee
              have hcp3 := Lib.hid hcp3
              replace hρ := Lib.hid hρ
              clear hcp
              go_upto_region 16 with fail
              go_region
              have hcp4 : Hid (Cp wr ((Yw.setCell ⟨b2, off2 + ρ, none⟩ (.int .i64 0)).drew) O A (.slice (some ⟨b2, off2, none⟩) n p9) (zs.set ρ 0)) := Lib.hid (hcp3.out.drewN 1)
              obtain ⟨Y3, hY3⟩ : ∃ Y3, (Yw.setCell ⟨b2, off2 + ρ, none⟩ (.int .i64 0)).drew = Y3 := ⟨_, rfl⟩
              rw [hY3] at hcp4 ⊢
              clear hY3 z1 z2 u1 hcp3
              have h300 : (zs.set ρ 0).length ≤ 1000000 := by rw [List.length_set, hn.out]; omega
              obtain ⟨q5, p0, p1, p2x, hrow, hnext⟩ := hcp4.out.step hpl.out hA.out (by unfold slL; rw [hzs.out, if_pos ⟨e15, by rw [hn.out]; exact hn0⟩, hn.out, hρ.out]) h300
              have key : Hid (∀ v9 w9, GRow 3 w9 v9 (i + 1) (xs ++ [.int .i64 A, .slice (some ⟨b2, off2, none⟩) n p9, .bool true]) → Wrote (fun r => vr.ownBlock = some r) (Y3.alloc (.cells #[.int .i64 A, .slice (some ⟨b2, off2, none⟩) n p9, .bool true] 29)) (fun r => v9.ownBlock = some r) w9 → (∃ s c, v9 = .slice s (i + 1) c) ∧ w9.cell? ⟨q, 5, none⟩ = some vr ∧ w9.frozen? ⟨q, 5, none⟩ = false ∧ Hid (∃ vr xs, Lw w3 (w9.setCell ⟨q, 5, none⟩ v9) V0 q (.slice sg l cg) (.slice ss g cs) vr κ t (i + 1) xs)) := Lib.hid fun v9 w9 g1 g2 => hnext v9 w9 g1 _ g2
              have hrow := Lib.hid hrow
              have hbd3 : i + 1 ≤ 1000000 := by omega
              clear hnext hcp4 h300 hpl
              try replace e15 := Lib.hid e15
              go_wp2_with (at_builtin; refine wpList_append_g rfl (.tmp 73) (.tmp 75) rfl rfl eltO (hrow.out.below (below_alloc (Below.refl _ _) _)) rfl rfl (src_obj2 Y3 A (some ⟨b2, off2, none⟩) n p9 true) hbd3 ?_; intro v8 w8 g1 g2; obtain ⟨⟨s8, p8, rfl⟩, c8, f8, hnx⟩ := key.out v8 w8 g1 g2; clear g1 g2 key hrow hbd3)
              go_roundw
              case rel => exact ⟨i + 1, by go_num, by omega, hnx⟩
              case measure => simp [RowKit.intOf]; omega
            · have e2 : ¬ ((0 : Int) < (n : Int)) := by omega
              have hcp3 := hcp
              have h300 : (zs).length ≤ 1000000 := by rw [hn.out]; omega
              obtain ⟨q5, p0, p1, p2x, hrow, hnext⟩ := hcp3.out.step hpl.out hA.out (by unfold slL; rw [if_neg (by rw [hzs.out, hn.out]; omega)]; exact hzs.out.symm) h300
              have key : Hid (∀ v9 w9, GRow 3 w9 v9 (i + 1) (xs ++ [.int .i64 A, .slice s9 n p9, .bool true]) → Wrote (fun r => vr.ownBlock = some r) (Yw.alloc (.cells #[.int .i64 A, .slice s9 n p9, .bool true] 29)) (fun r => v9.ownBlock = some r) w9 → (∃ s c, v9 = .slice s (i + 1) c) ∧ w9.cell? ⟨q, 5, none⟩ = some vr ∧ w9.frozen? ⟨q, 5, none⟩ = false ∧ Hid (∃ vr xs, Lw w3 (w9.setCell ⟨q, 5, none⟩ v9) V0 q (.slice sg l cg) (.slice ss g cs) vr κ t (i + 1) xs)) := Lib.hid fun v9 w9 g1 g2 => hnext v9 w9 g1 _ g2
              have hrow := Lib.hid hrow
              have hbd3 : i + 1 ≤ 1000000 := by omega
              clear hnext hcp3 h300 hcp hpl
              try replace e15 := Lib.hid e15
              go_wp2_with (at_builtin; refine wpList_append_g rfl (.tmp 73) (.tmp 75) rfl rfl eltO (hrow.out.below (below_alloc (Below.refl _ _) _)) rfl rfl (src_obj2 Yw A s9 n p9 true) hbd3 ?_; intro v8 w8 g1 g2; obtain ⟨⟨s8, p8, rfl⟩, c8, f8, hnx⟩ := key.out v8 w8 g1 g2; clear g1 g2 key hrow hbd3)
              go_roundw
              case rel => exact ⟨i + 1, by go_num, by omega, hnx⟩
              case measure => simp [RowKit.intOf]; omega
          · have e1 : ((i : Int) == (κ : Int)) = false := by simp; omega
            have e1p : ¬ ((i : Int) = (κ : Int)) := by omega
            have hcp3 := hcp
            have h300 : (zs).length ≤ 1000000 := by rw [hn.out]; omega
            obtain ⟨q5, p0, p1, p2x, hrow, hnext⟩ := hcp3.out.step hpl.out hA.out (by unfold slL; rw [if_neg (by omega)]; exact hzs.out.symm) h300
            have key : Hid (∀ v9 w9, GRow 3 w9 v9 (i + 1) (xs ++ [.int .i64 A, .slice s9 n p9, .bool true]) → Wrote (fun r => vr.ownBlock = some r) (Yw.alloc (.cells #[.int .i64 A, .slice s9 n p9, .bool true] 29)) (fun r => v9.ownBlock = some r) w9 → (∃ s c, v9 = .slice s (i + 1) c) ∧ w9.cell? ⟨q, 5, none⟩ = some vr ∧ w9.frozen? ⟨q, 5, none⟩ = false ∧ Hid (∃ vr xs, Lw w3 (w9.setCell ⟨q, 5, none⟩ v9) V0 q (.slice sg l cg) (.slice ss g cs) vr κ t (i + 1) xs)) := Lib.hid fun v9 w9 g1 g2 => hnext v9 w9 g1 _ g2
            have hrow := Lib.hid hrow
            have hbd3 : i + 1 ≤ 1000000 := by omega
            clear hnext hcp3 h300 hcp hpl
            try replace e15 := Lib.hid e15
            go_wp2_with (at_builtin; refine wpList_append_g rfl (.tmp 73) (.tmp 75) rfl rfl eltO (hrow.out.below (below_alloc (Below.refl _ _) _)) rfl rfl (src_obj2 Yw A s9 n p9 true) hbd3 ?_; intro v8 w8 g1 g2; obtain ⟨⟨s8, p8, rfl⟩, c8, f8, hnx⟩ := key.out v8 w8 g1 g2; clear g1 g2 key hrow hbd3)
            go_roundw
            case rel => exact ⟨i + 1, by go_num, by omega, hnx⟩
            case measure => simp [RowKit.intOf]; omega
        · obtain rfl : m = i := by omega
          have i2 : ¬ ((m : Int) < (m : Int)) := by omega
          have hpl : Hid (∃ vr xs, Lw w3 wr V0 q (.slice sg l cg) (.slice ss g cs) vr κ t m xs) := Lib.hid ⟨_, _, hpl⟩
          clear hat hfew hi
          have f3b : (wr.alloc (.cells #[] 3)).cell? ⟨p, 3, none⟩ = some (.slice sg l cg) := cell_then (below_alloc (Below.refl _ wr) _) f3
          by_cases hl0 : 0 < l
          · have l1 : (0 : Int) < (l : Int) := by omega
            have l1b : decide ((0 : Int) < (l : Int)) = true := decide_eq_true l1
            have l2 : (l : Int) ≠ 0 := by omega
            go_upto_if 86 with fail
            go_cut [] (fun wx => ∃ gq gl', Hid (Less V0 (Lw.less V0 κ t gl') κ t) ∧ Hid (∃ vr xs, Lw w3 wx V0 q gq (.slice ss g cs) vr κ t m xs ∧ Ints wx Any gq gl'))
            case first =>
              cases hb : (bits BinOp.and IntKind.i64 a1 1 == 1) with
              | true =>
                obtain ⟨ρ, hρ⟩ : ∃ ρ : Nat, t % l = ρ := ⟨_, rfl⟩
                have ρn : ρ < l := by rw [← hρ]; exact Nat.mod_lt _ hl0
                have hρi : (t : Int) % (l : Int) = (ρ : Int) := by rw [← hρ]; omega
                have ρ0 : (0 : Int) ≤ (ρ : Int) := by omega
                have ρ1 : (ρ : Int) < (l : Int) := by omega
                have hsrc : Hid (Src Try.prog 1 23 (.slice sg l cg) V0.gl.length (cells V0.gl) (wr.alloc (.cells #[] 3))) := Lib.hid (by
                  obtain ⟨vr, xs, hpl⟩ := hpl.out
                  exact src_of_ints ((h3.out.gl.below hpl.bel).below (below_alloc (Below.refl _ wr) _)))
                have hlitK : Hid (wr.heap.size < (wr.alloc (.cells #[] 3)).heap.size) := Lib.hid (by rw [s_alloc]; omega)
                have hbd : 0 + V0.gl.length ≤ 1000000 := by rw [hl.out]; omega
                have key : Hid (∀ v9 w9, GRow 1 w9 v9 (0 + V0.gl.length) ([] ++ cells V0.gl) → Wrote (fun r => (Value.slice (some ⟨wr.heap.size, 0, none⟩) 0 0).ownBlock = some r) (wr.alloc (.cells #[] 3)) (fun r => v9.ownBlock = some r) w9 → w9.cell? ⟨q, 3, none⟩ = some (.slice sg l cg) ∧ w9.frozen? ⟨q, 3, none⟩ = false ∧ ∃ b off cap, v9 = .slice (some ⟨b, off, none⟩) l cap ∧ (w9.setCell ⟨q, 3, none⟩ v9).cell? ⟨q, 3, none⟩ = some v9 ∧ (w9.setCell ⟨q, 3, none⟩ v9).cell? ⟨b, off + ρ, none⟩ = some (.int .i64 (V0.gl.getD ρ 0)) ∧ (w9.setCell ⟨q, 3, none⟩ v9).frozen? ⟨b, off + ρ, none⟩ = false ∧ Hid (∃ vr xs, Lw w3 (((w9.setCell ⟨q, 3, none⟩ v9).setCell ⟨b, off + ρ, none⟩ (.int .i64 0)).drew) V0 q v9 (.slice ss g cs) vr κ t m xs ∧ Ints (((w9.setCell ⟨q, 3, none⟩ v9).setCell ⟨b, off + ρ, none⟩ (.int .i64 0)).drew) Any v9 (V0.gl.set ρ 0))) := Lib.hid fun v9 w9 g1 g2 => by
                  obtain ⟨vr, xs, hpl⟩ := hpl.out
                  obtain ⟨e1, e2, e3⟩ := copy_new g1 g2
                  obtain ⟨a1, a2, b, off, cap, a3, a4, a5, a6, a7⟩ := hpl.glob e3 e1 e2 (i := ρ) (by rw [hl.out]; exact ρn) (by rw [hl.out]; omega)
                  rw [hl.out] at a3
                  exact ⟨a1, a2, b, off, cap, a3, a4, a5, a6, Lib.hid ⟨vr, xs, a7.out⟩⟩
                clear hpl
                go_upto_region 20 with (at_builtin; refine wpList_append_g rfl (.tmp 87) (.tmp 89) rfl rfl eltI (lit_row1 hlitK.out) rfl rfl hsrc.out hbd ?_; intro v9 w9 g1 g2; obtain ⟨c9, f9, b9, o9, p9, rfl, c10, c11, f11, hnx⟩ := key.out v9 w9 g1 g2; clear g1 g2 key hsrc hlitK)
                go_region
                go_wp2_with fail
                go_meet
                exact ⟨_, _, Lib.hid (less_set V0 κ t ρ), hnx⟩
              | false =>
                go_wp2_with fail
                go_meet
                obtain ⟨vr, xs, hpl⟩ := hpl.out
                exact ⟨_, _, Lib.hid (less_own V0 κ t), Lib.hid ⟨vr, xs, hpl, h3.out.gl.below hpl.bel⟩⟩
            case rest =>
              clear hpl f3b f3 f5
              obtain ⟨gq, gl', hless, hpe⟩ := hcut
              obtain ⟨vr, xs, hlw2, hgi⟩ := hpe.out
              clear hpe
              have hV : Hid (IsV wc (Lw.less V0 κ t gl') gq (.slice ss g cs) vr) := Lib.hid (Lw.isV (by rw [hm.out]; exact hlw2) h3.out hgi hless.out (by rw [hm.out]; exact m40))
              have hF : Hid (Fw (Lw.less V0 κ t gl')) := Lib.hid (hless.out.fw hf.out)
              have hbel := Lib.hid hlw2.bel
              obtain ⟨g0, g1, g2, g3, g4, g5, g6, g7, g8⟩ := hlw2.cell
              have hcl : Hid (∀ W, Below wc.heap.size wc W → W.cell? ⟨q, 0, none⟩ = some (.int .i64 V0.ph) ∧ W.cell? ⟨q, 1, none⟩ = some (.int .i64 V0.cy) ∧ W.cell? ⟨q, 2, none⟩ = some (.int .i64 V0.ck) ∧ W.cell? ⟨q, 3, none⟩ = some gq ∧ W.cell? ⟨q, 4, none⟩ = some (.slice ss g cs) ∧ W.cell? ⟨q, 5, none⟩ = some vr ∧ W.cell? ⟨q, 6, none⟩ = some (.int .i64 V0.gr) ∧ W.cell? ⟨q, 7, none⟩ = some (.int .i64 V0.nt) ∧ W.cell? ⟨q, 8, none⟩ = some (.int .i64 V0.rt)) := Lib.hid fun W hW => (hlw2.below hW).cell
              clear hlw2 hgi
              have cc := vvL (ex := #[]) (viewReach_any hV.out hF.out)
              unfold ReachV at cc
              simp only [List.push_toArray, List.append_toArray, List.nil_append, List.cons_append, Array.append_empty] at cc
              go_wp2_with fail
              with_reducible refine Calls.mono cc ?_
              rintro ed w6 ⟨v, us, rfl, hus, hi, hb⟩
              have hsub := hless.out.sub hts.out hus
              have hb6 := Lib.hid (hbel.out.trans (hb.mono hbel.out.size))
              have hW6 := Lib.hid hb
              have hcl6 := hcl.out w6 hb
              have hV6 := Lib.hid (hV.out.below hb)
              have hi6 := Lib.hid hi
              obtain ⟨su, cu, rfl, hmxN, -⟩ := id hi
              obtain ⟨N, hN⟩ : ∃ N, us.length = N := ⟨_, rfl⟩
              obtain ⟨T, hT⟩ : ∃ T, ts.length = T := ⟨_, rfl⟩
              have hNT : (N : Int) ≤ (T : Int) := by have := hsub.2; omega
              have hget : Hid (∀ i, i < N → ∃ b off, su = some ⟨b, off, none⟩ ∧ w6.cell? ⟨b, off + i, none⟩ = some (.int .i64 (us.getD i 0)) ∧ Calls Try.prog 38 #[.slice sw T cw, .int .i64 (us.getD i 0)] w6 (Still (.bool true) w6)) := Lib.hid fun i hi => by
                obtain ⟨sp, cap, e, _, hat⟩ := hi6.out
                obtain ⟨b, off, e1, _, _, e2⟩ := hat i (by omega)
                cases e
                refine ⟨b, off, e1, e2, ?_⟩
                have := has_any (us.getD i 0) (hwi.out.below hb6.out)
                rw [decide_eq_true (hsub.1 _ (getD_mem 0 (by omega))), hT] at this
                exact this
              rw [hN]
              rw [hN] at hmxN
              have hNN := Lib.hid hN
              have hTT := Lib.hid hT
              have hNT := Lib.hid hNT
              try rw [hT]
              clear cc g0 g1 g2 g3 g4 g5 g6 g7 g8 hi hb hsub hN hT hV hus
              go_wp2_with fail
              go_loopw [6, 13] (fun u6 u13 wz => ∃ i : Nat, u13 = .int .i64 i ∧ i ≤ N ∧ wz = w6) (fun _ u13 _ => (N - (RowKit.intOf u13).toNat))
              case atStart => exact ⟨0, rfl, by omega, rfl⟩
              case round =>
                obtain ⟨i, rfl, j1, rfl⟩ := hrel
                have ii0 : (0 : Int) ≤ (i : Int) := by omega
                by_cases hi : i < N
                · have i2 : (i : Int) < (N : Int) := by omega
                  obtain ⟨b, off, rfl, e2, ch⟩ := hget.out i hi
                  generalize us.getD i 0 = y at e2 ch
                  clear hget
                  go_wp2_with fail
                  with_reducible refine Calls.mono ch ?_
                  rintro ed w7 ⟨rfl, rfl⟩
                  clear ch
                  go_wp2_with fail
                  go_roundw
                  case rel => exact ⟨i + 1, by go_num, by omega, by first | rfl | trivial⟩
                  case measure => simp [RowKit.intOf]; omega
                · obtain rfl : N = i := by omega
                  have i2 : ¬ ((N : Int) < (N : Int)) := by omega
                  clear hget hi
                  have ct := ct wr
                  go_wp2_with fail
                  with_reducible refine Calls.mono ct ?_
                  rintro ed w8 ⟨rfl, hb⟩
                  have hb8 := Lib.hid (hb6.out.trans (hb.mono hb6.out.size))
                  obtain ⟨g0, g1, g2, g3, g4, g5, g6, g7, g8⟩ := hcl.out w8 (hW6.out.trans (hb.mono hW6.out.size))
                  have cc := vvL (ex := #[]) (viewWhite_any (hV6.out.below hb) hF.out)
                  unfold WhiteV at cc
                  simp only [List.push_toArray, List.append_toArray, List.nil_append, List.cons_append, Array.append_empty] at cc
                  clear ct hb hb6 hV6 hW6 hcl
                  go_wp2_with fail
                  with_reducible refine Calls.mono cc ?_
                  rintro ed w9 ⟨v, l0, rfl, hl0, hi, hb⟩
                  obtain rfl := hless.out.white hl0
                  have hfin := Lib.hid (hb3.out.trans ((hb8.out.trans (hb.mono hb8.out.size)).mono hb3.out.size))
                  obtain ⟨sp, cp, rfl, -⟩ := hi
                  rw [show ([] : List Int).length = 0 from rfl]
                  have hnt := hNT.out
                  have hntb : decide ((N : Int) ≤ (T : Int)) = true := decide_eq_true hnt
                  clear cc g0 g1 g2 g3 g4 g5 g6 g7 g8 hb hl0 hb8
                  go_wp2_with fail
                  go_ret
                  exact ⟨rfl, hfin.out⟩
          · have l1 : ¬ ((0 : Int) < (l : Int)) := by omega
            have l1b : decide ((0 : Int) < (l : Int)) = false := decide_eq_false l1
            go_upto_if 86 with fail
            go_cut [] (fun wx => ∃ gq gl', Hid (Less V0 (Lw.less V0 κ t gl') κ t) ∧ Hid (∃ vr xs, Lw w3 wx V0 q gq (.slice ss g cs) vr κ t m xs ∧ Ints wx Any gq gl'))
            case first =>
              go_wp2_with fail
              go_meet
              obtain ⟨vr, xs, hpl⟩ := hpl.out
              exact ⟨_, _, Lib.hid (less_own V0 κ t), Lib.hid ⟨vr, xs, hpl, h3.out.gl.below hpl.bel⟩⟩
            case rest =>
              clear hpl f3b f3 f5
              obtain ⟨gq, gl', hless, hpe⟩ := hcut
              obtain ⟨vr, xs, hlw2, hgi⟩ := hpe.out
              clear hpe
              have hV : Hid (IsV wc (Lw.less V0 κ t gl') gq (.slice ss g cs) vr) := Lib.hid (Lw.isV (by rw [hm.out]; exact hlw2) h3.out hgi hless.out (by rw [hm.out]; exact m40))
              have hF : Hid (Fw (Lw.less V0 κ t gl')) := Lib.hid (hless.out.fw hf.out)
              have hbel := Lib.hid hlw2.bel
              obtain ⟨g0, g1, g2, g3, g4, g5, g6, g7, g8⟩ := hlw2.cell
              have hcl : Hid (∀ W, Below wc.heap.size wc W → W.cell? ⟨q, 0, none⟩ = some (.int .i64 V0.ph) ∧ W.cell? ⟨q, 1, none⟩ = some (.int .i64 V0.cy) ∧ W.cell? ⟨q, 2, none⟩ = some (.int .i64 V0.ck) ∧ W.cell? ⟨q, 3, none⟩ = some gq ∧ W.cell? ⟨q, 4, none⟩ = some (.slice ss g cs) ∧ W.cell? ⟨q, 5, none⟩ = some vr ∧ W.cell? ⟨q, 6, none⟩ = some (.int .i64 V0.gr) ∧ W.cell? ⟨q, 7, none⟩ = some (.int .i64 V0.nt) ∧ W.cell? ⟨q, 8, none⟩ = some (.int .i64 V0.rt)) := Lib.hid fun W hW => (hlw2.below hW).cell
              clear hlw2 hgi
              have cc := vvL (ex := #[]) (viewReach_any hV.out hF.out)
              unfold ReachV at cc
              simp only [List.push_toArray, List.append_toArray, List.nil_append, List.cons_append, Array.append_empty] at cc
              go_wp2_with fail
              with_reducible refine Calls.mono cc ?_
              rintro ed w6 ⟨v, us, rfl, hus, hi, hb⟩
              have hsub := hless.out.sub hts.out hus
              have hb6 := Lib.hid (hbel.out.trans (hb.mono hbel.out.size))
              have hW6 := Lib.hid hb
              have hcl6 := hcl.out w6 hb
              have hV6 := Lib.hid (hV.out.below hb)
              have hi6 := Lib.hid hi
              obtain ⟨su, cu, rfl, hmxN, -⟩ := id hi
              obtain ⟨N, hN⟩ : ∃ N, us.length = N := ⟨_, rfl⟩
              obtain ⟨T, hT⟩ : ∃ T, ts.length = T := ⟨_, rfl⟩
              have hNT : (N : Int) ≤ (T : Int) := by have := hsub.2; omega
              have hget : Hid (∀ i, i < N → ∃ b off, su = some ⟨b, off, none⟩ ∧ w6.cell? ⟨b, off + i, none⟩ = some (.int .i64 (us.getD i 0)) ∧ Calls Try.prog 38 #[.slice sw T cw, .int .i64 (us.getD i 0)] w6 (Still (.bool true) w6)) := Lib.hid fun i hi => by
                obtain ⟨sp, cap, e, _, hat⟩ := hi6.out
                obtain ⟨b, off, e1, _, _, e2⟩ := hat i (by omega)
                cases e
                refine ⟨b, off, e1, e2, ?_⟩
                have := has_any (us.getD i 0) (hwi.out.below hb6.out)
                rw [decide_eq_true (hsub.1 _ (getD_mem 0 (by omega))), hT] at this
                exact this
              rw [hN]
              rw [hN] at hmxN
              have hNN := Lib.hid hN
              have hTT := Lib.hid hT
              have hNT := Lib.hid hNT
              try rw [hT]
              clear cc g0 g1 g2 g3 g4 g5 g6 g7 g8 hi hb hsub hN hT hV hus
              go_wp2_with fail
              go_loopw [6, 13] (fun u6 u13 wz => ∃ i : Nat, u13 = .int .i64 i ∧ i ≤ N ∧ wz = w6) (fun _ u13 _ => (N - (RowKit.intOf u13).toNat))
              case atStart => exact ⟨0, rfl, by omega, rfl⟩
              case round =>
                obtain ⟨i, rfl, j1, rfl⟩ := hrel
                have ii0 : (0 : Int) ≤ (i : Int) := by omega
                by_cases hi : i < N
                · have i2 : (i : Int) < (N : Int) := by omega
                  obtain ⟨b, off, rfl, e2, ch⟩ := hget.out i hi
                  generalize us.getD i 0 = y at e2 ch
                  clear hget
                  go_wp2_with fail
                  with_reducible refine Calls.mono ch ?_
                  rintro ed w7 ⟨rfl, rfl⟩
                  clear ch
                  go_wp2_with fail
                  go_roundw
                  case rel => exact ⟨i + 1, by go_num, by omega, by first | rfl | trivial⟩
                  case measure => simp [RowKit.intOf]; omega
                · obtain rfl : N = i := by omega
                  have i2 : ¬ ((N : Int) < (N : Int)) := by omega
                  clear hget hi
                  have ct := ct wr
                  go_wp2_with fail
                  with_reducible refine Calls.mono ct ?_
                  rintro ed w8 ⟨rfl, hb⟩
                  have hb8 := Lib.hid (hb6.out.trans (hb.mono hb6.out.size))
                  obtain ⟨g0, g1, g2, g3, g4, g5, g6, g7, g8⟩ := hcl.out w8 (hW6.out.trans (hb.mono hW6.out.size))
                  have cc := vvL (ex := #[]) (viewWhite_any (hV6.out.below hb) hF.out)
                  unfold WhiteV at cc
                  simp only [List.push_toArray, List.append_toArray, List.nil_append, List.cons_append, Array.append_empty] at cc
                  clear ct hb hb6 hV6 hW6 hcl
                  go_wp2_with fail
                  with_reducible refine Calls.mono cc ?_
                  rintro ed w9 ⟨v, l0, rfl, hl0, hi, hb⟩
                  obtain rfl := hless.out.white hl0
                  have hfin := Lib.hid (hb3.out.trans ((hb8.out.trans (hb.mono hb8.out.size)).mono hb3.out.size))
                  obtain ⟨sp, cp, rfl, -⟩ := hi
                  rw [show ([] : List Int).length = 0 from rfl]
                  have hnt := hNT.out
                  have hntb : decide ((N : Int) ≤ (T : Int)) = true := decide_eq_true hnt
                  clear cc g0 g1 g2 g3 g4 g5 g6 g7 g8 hb hl0 hb8
                  go_wp2_with fail
                  go_ret
                  exact ⟨rfl, hfin.out⟩

set_option maxRecDepth 100000 in
theorem lifted (os : Os) (started : os.Started) (H : Type) (enc : TypeId × Value → H) :
    ReturnsInHanded {} Try.checked os 7 .any (Rows.viewLessSpec.pre6 enc Try.prog Try.f7 Rows.viewLessRow.domain false) (Rows.viewLessSpec.post enc Try.prog Try.f7 false true false false) := by
  refine returnsInHanded_of_change (C := Try.checked) own started (by kernel_rfl) Try.func7
    (ChangeSpec.witness6 (enc := enc) (C := Try.checked) false ⟨#[], #[.agg #[.int .i64 0, .int .i64 0, .int .i64 0, .slice none 0 0, .slice none 0 0, .slice none 0 0, .int .i64 0, .int .i64 0, .int .i64 0], .int .i64 0, .int .i64 0], []⟩ 8 (by kernel_rfl) (by kernel_rfl) (by kernel_rfl) (by kernel_rfl)) ?_
  intro W base args ds gs before hval0 hW hcnd _
  have hval : ∀ (j : Nat) t v, Try.f7.params[j]? = some t → args[j]? = some v → Value.okWide Try.prog W .any base t v := hval0
  have hW' := hW
  obtain ⟨p, q, hA0, hV, rfl, hfz, hnd⟩ := hW
  have hA : DataW.TrodAll enc Try.prog W 0 (fun _ => true) true Try.f7.params.toList args.toList ds p := hA0
  rw [Try.params7] at hA hval
  obtain ⟨v0, vs0, d0, ds0, p0, q0, hargs, rfl, rfl, h0, r0⟩ := trodAll_cons hA
  obtain ⟨v1, vs1, d1, ds1, p1, q1, rfl, rfl, rfl, h1, r1⟩ := trodAll_cons r0
  obtain ⟨v2, vs2, d2, ds2, p2, q2, rfl, rfl, rfl, h2, r2⟩ := trodAll_cons r1
  obtain ⟨rfl, rfl, rfl⟩ := trodAll_nil r2
  obtain rfl : args = #[v0, v1, v2] := by cases args; simp_all
  obtain ⟨rfl, rfl⟩ := trodVars_none hV
  obtain ⟨V0, vg0, vs0, vo0, rfl, i0⟩ := view_arg (hval 0 32 v0 rfl rfl) h0
  obtain ⟨a1, rfl, rfl, rfl, w1⟩ := open_int Try.underlying3 (hval 1 3 v1 rfl rfl) h1
  obtain ⟨a2, rfl, rfl, rfl, w2⟩ := open_int Try.underlying3 (hval 2 3 v2 rfl rfl) h2
  clear hA0 hval0
  simp only [List.append_nil] at hW'
  have lt0 : ∀ x ∈ p0, x.block < W.heap.size := fun x hx => by have := hW'.lt x (by simp [hx]); simpa using this
  refine (walk V0 vg0 vs0 vo0 a1 a2 W i0 w1 w2).mono fun e W' ⟨he, hg⟩ => ?_
  subst he
  exact ⟨_, rfl, post_of_kept (pa := _) (pv := []) hW' (fun _ _ _ => (trodAll_cons_mk (shut_bool Try.underlying4 _) trodAll_mk0)) (trodAll_cons_mk (Below.trod laidOut (by kernel_rfl) (of_decide_eq_true (by kernel_rfl)) h0 hg lt0) (trodAll_cons_mk (shut_int Try.underlying3 w1) (trodAll_cons_mk (shut_int Try.underlying3 w2) trodAll_mk0))) (fun _ _ => rfl) (by simp) hg⟩

theorem over : Rows.viewLessRow.holds Try.pinned (OpenSpec.ofChange Rows.viewLessSpec) :=
  OpenClaim.holds_of_wide 7 Try.f7 rfl rfl rfl rfl rfl rfl rfl ⟨rfl, rfl, rfl, rfl, rfl⟩ rfl rfl rfl rfl rfl (by kernel_rfl) Try.func7 (by kernel_rfl)
    (of_decide_eq_true (by kernel_rfl)) (by unfold Func.isWrapper; first | (rw [if_pos (by decide +kernel)]; kernel_rfl) | (rw [if_neg (by decide +kernel)]; exact ⟨rfl, rfl⟩))
    (fun os started H enc _ => lifted os started H enc)

theorem proved : Rows.ViewLessSaid :=
  over
#print axioms proved
end Go.Proofs.Ytneibhcigbfigaa.viewLess
