/- treadmilllaw29.ViewClosed. -/
import Derived.Test.YtneibhcigbfigaaHome
import Derived.Test.YtneibhcigbfigaaVwArg
import Derived.Test.YtneibhcigbfigaaVwStep
import Derived.WalkKit
import Derived.ProofKit
import Derived.OpenShut
import Derived.Deep.RegionHeld3
import Derived.Deep.RegionWith
import Derived.Deep.Cut
import Derived.Deep.CutBlock
import Derived.Deep.CutRange
import Derived.Deep.LoopGhost
import Derived.Deep.DeepCutAuto
import Derived.RegionTactic
import Derived.StillTailTactics
namespace Go.Proofs.Ytneibhcigbfigaa.viewClosed
open Go.ChangeShapes Go.WideShapes Go.ChangeAt Go.WideElems Go.RowKit Go.Lib Fx Ho Vw Gr
set_option linter.unusedVariables false

theorem own : ownKnob Try.prog.godebug = none := by kernel_rfl

set_option linter.unusedSimpArgs false
set_option maxRecDepth 100000 in
set_option maxHeartbeats 40000000 in
theorem walk (V0 : Vi) (vg0 vs0 vo0 : Value) (w : World) (h0 : IsV w V0 vg0 vs0 vo0) :
    Calls Try.prog 6 #[vv V0 vg0 vs0 vo0] w fun e w' => e = .returned (.bool true) ∧ Below w.heap.size w w' := by
  have ct := fun w => told_any w
  obtain ⟨sg, cg, rfl, hml, -⟩ := id h0.gl
  obtain ⟨ss, cs, rfl, hmg, -⟩ := id h0.gs
  obtain ⟨so, co, rfl, hmo, -⟩ := id h0.os
  obtain ⟨vg0, hvg⟩ : ∃ v : Value, v = .slice sg V0.gl.length cg := ⟨_, rfl⟩
  obtain ⟨vs0, hvs⟩ : ∃ v : Value, v = .slice ss V0.gs.length cs := ⟨_, rfl⟩
  obtain ⟨vo0, hvo⟩ : ∃ v : Value, v = .slice so V0.os.length co := ⟨_, rfl⟩
  rw [← hvg, ← hvs, ← hvo] at h0 ⊢
  replace hvg := Lib.hid hvg
  replace hvs := Lib.hid hvs
  replace hvo := Lib.hid hvo
  obtain ⟨W1, hW1⟩ : ∃ W1, w.alloc (.cells #[.int .i64 V0.ph, .int .i64 V0.cy, .int .i64 V0.ck, vg0, vs0, vo0, .int .i64 V0.gr, .int .i64 V0.nt, .int .i64 V0.rt] 32) = W1 := ⟨_, rfl⟩
  have hb1 := below_alloc (Below.refl _ w) (.cells #[.int .i64 V0.ph, .int .i64 V0.cy, .int .i64 V0.ck, vg0, vs0, vo0, .int .i64 V0.gr, .int .i64 V0.nt, .int .i64 V0.rt] 32)
  have k1 := heap_alloc_new w (.cells #[.int .i64 V0.ph, .int .i64 V0.cy, .int .i64 V0.ck, vg0, vs0, vo0, .int .i64 V0.gr, .int .i64 V0.nt, .int .i64 V0.rt] 32)
  rw [hW1] at hb1 k1
  have h1 := h0.below hb1
  have hB1 := Lib.hid (box9_of (V := V0) k1)
  have cf := few_any h1
  unfold vv at cf ⊢
  clear h0 k1
  replace h1 := Lib.hid h1
  replace hb1 := Lib.hid hb1
  go_enter Try.func6, Try.ntmps6
  go_upto_region 1 with fail
  try rw [hW1]
  clear hW1
  obtain ⟨p, hp⟩ : ∃ p, w.heap.size = p := ⟨_, rfl⟩
  rw [hp] at hB1
  try rw [hp]
  replace hp := Lib.hid hp
  obtain ⟨g0, g1, g2, g3, g4, g5, g6, g7, g8⟩ := hB1.out
  go_wp2_with fail
  with_reducible refine Calls.mono cf ?_
  rintro ed w2 ⟨⟨bq, rfl, hF⟩, hb⟩
  clear cf g0 g1 g2 g3 g4 g5 g6 g7 g8
  have hb2 := Lib.hid (hb1.out.trans (hb.mono hb1.out.size))
  cases bq with
  | false =>
    have ct := ct w2
    clear hF hb hb1 h1 hB1
    go_wp2_with fail
    with_reducible refine Calls.mono ct ?_
    rintro ed w3 ⟨rfl, hb⟩
    have hfin := Lib.hid (hb2.out.trans (hb.mono hb2.out.size))
    clear ct hb
    go_wp2_with fail
    go_ret
    exact ⟨rfl, hfin.out⟩
  | true =>
    have hf := Lib.hid (hF rfl)
    have h2 := Lib.hid (h1.out.below hb)
    have hB2 := Lib.hid (hB1.out.below hb)
    have co := own_any h2.out
    unfold vv at co
    clear hF hb hB1 h1 hb1
    obtain ⟨g0, g1, g2, g3, g4, g5, g6, g7, g8⟩ := hB2.out
    go_wp2_with fail
    with_reducible refine Calls.mono co ?_
    rintro ed w3 ⟨⟨bo, rfl, hO⟩, hb⟩
    clear co g0 g1 g2 g3 g4 g5 g6 g7 g8
    have hb3 := Lib.hid (hb2.out.trans (hb.mono hb2.out.size))
    cases bo with
    | false =>
      have ct := ct w3
      clear hO hb hb2 h2 hB2 hf
      go_wp2_with fail
      with_reducible refine Calls.mono ct ?_
      rintro ed w4 ⟨rfl, hb⟩
      have hfin := Lib.hid (hb3.out.trans (hb.mono hb3.out.size))
      clear ct hb
      go_wp2_with fail
      go_ret
      exact ⟨rfl, hfin.out⟩
    | true =>
      have hO := Lib.hid (hO rfl)
      have h3 := Lib.hid (h2.out.below hb)
      have hB3 := Lib.hid (hB2.out.below hb)
      clear h2 hB2 hb2 hb
      obtain ⟨l, hl⟩ : ∃ l, V0.gl.length = l := ⟨_, rfl⟩
      obtain ⟨g, hg⟩ : ∃ g, V0.gs.length = g := ⟨_, rfl⟩
      obtain ⟨m, hm⟩ : ∃ m, V0.os.length = m := ⟨_, rfl⟩
      have hvg2 := hvg.out
      have hvs2 := hvs.out
      have hvo2 := hvo.out
      rw [hl] at hvg2
      rw [hg] at hvs2
      rw [hm] at hvo2
      subst hvg2 hvs2 hvo2
      clear hvg hvs hvo
      replace hl := Lib.hid hl
      replace hg := Lib.hid hg
      replace hm := Lib.hid hm
      have cR : Hid (∀ W, Below w3.heap.size w3 W → Calls Try.prog 26 #[(.agg #[.int .i64 V0.ph, .int .i64 V0.cy, .int .i64 V0.ck, .slice sg l cg, .slice ss g cs, .slice so m co, .int .i64 V0.gr, .int .i64 V0.nt, .int .i64 V0.rt])] W (ReachV W V0)) := Lib.hid fun W hW => viewReach_any (h3.out.below hW) hf.out
      have cL : Hid (∀ W, Below w3.heap.size w3 W → Calls Try.prog 30 #[(.agg #[.int .i64 V0.ph, .int .i64 V0.cy, .int .i64 V0.ck, .slice sg l cg, .slice ss g cs, .slice so m co, .int .i64 V0.gr, .int .i64 V0.nt, .int .i64 V0.rt])] W (LostV W V0)) := Lib.hid fun W hW => viewLost_any (h3.out.below hW) hf.out
      have cO : Hid (∀ W, Below w3.heap.size w3 W → Calls Try.prog 24 #[(.agg #[.int .i64 V0.ph, .int .i64 V0.cy, .int .i64 V0.ck, .slice sg l cg, .slice ss g cs, .slice so m co, .int .i64 V0.gr, .int .i64 V0.nt, .int .i64 V0.rt])] W (NewRow W (rootsL V0.gl V0.gs))) := Lib.hid fun W hW => roots_any (h3.out.below hW) hf.out
      obtain ⟨g0, g1, g2, g3, g4, g5, g6, g7, g8⟩ := hB3.out
      go_upto_region 3 with fail
      go_cut [3, 4, 5] (fun u3 u4 u5 wx => ∃ p3 p4 va vb vr ts us, u3 = .pointer (some ⟨p3, 0, none⟩) ∧ u4 = .pointer (some ⟨p4, 0, none⟩) ∧ u5 = vr ∧ Hid (RchL V0 ts) ∧ Hid (LstL V0 us) ∧ Hid (Kz w3 wx V0 (.slice sg l cg) (.slice ss g cs) (.slice so m co) va vb vr ts us (rootsL V0.gl V0.gs) p p3 p4))
      case first =>
        as_aux_lemma =>
          have hv3 := h3
          clear h3
          refine wp_region_held_drew (S := (fun W' => Below w3.heap.size w3 W' ∧ W'.cell? ⟨p, 0, none⟩ = some (.int .i64 V0.ph) ∧ W'.cell? ⟨p, 1, none⟩ = some (.int .i64 V0.cy) ∧ W'.cell? ⟨p, 2, none⟩ = some (.int .i64 V0.ck) ∧ W'.cell? ⟨p, 3, none⟩ = some (.slice sg l cg) ∧ W'.cell? ⟨p, 4, none⟩ = some (.slice ss g cs) ∧ W'.cell? ⟨p, 5, none⟩ = some (.slice so m co) ∧ W'.cell? ⟨p, 6, none⟩ = some (.int .i64 V0.gr) ∧ W'.cell? ⟨p, 7, none⟩ = some (.int .i64 V0.nt) ∧ W'.cell? ⟨p, 8, none⟩ = some (.int .i64 V0.rt))) (by kernel_rfl) (kz_go hB3.out (Below.refl _ _).drew) (fun hHeld => ?_)
          obtain ⟨X0, hX⟩ : ∃ X, w3.drew = X := ⟨_, rfl⟩
          have hq0 : Below w3.heap.size w3 X0 := by rw [← hX]; exact (Below.refl _ _).drew
          rw [hX] at hHeld ⊢
          clear hX g0 g1 g2 g3 g4 g5 g6 g7 g8
          try (refine wpAnyH_take (i := 0) rfl (by kernel_rfl) (by decide +kernel) (by decide +kernel) (fun _ _ _ h => h) (Or.inl ⟨by kernel_rfl, by (intro w hSw; (try dsimp only at hSw); go_simp; try with_reducible rfl)⟩) (by assumption) ?_; try simp only [Act.put, List.getElem_toArray, List.getElem_cons_zero, List.setIfInBounds_toArray, List.set_cons_zero, List.set_cons_succ])
          try (refine wpAnyH_take (i := 2) rfl (by kernel_rfl) (by decide +kernel) (by decide +kernel) (fun _ _ _ h => h) (Or.inl ⟨by kernel_rfl, by (intro w hSw; (try dsimp only at hSw); go_simp; try with_reducible rfl)⟩) (by assumption) ?_; try simp only [Act.put, List.getElem_toArray, List.getElem_cons_succ, List.getElem_cons_zero, List.setIfInBounds_toArray, List.set_cons_zero, List.set_cons_succ])
          try (refine wpAnyH_take (i := 4) rfl (by kernel_rfl) (by decide +kernel) (by decide +kernel) (fun _ _ _ h => h) (Or.inl ⟨by kernel_rfl, by (intro w hSw; (try dsimp only at hSw); go_simp; try with_reducible rfl)⟩) (by assumption) ?_; try simp only [Act.put, List.getElem_toArray, List.getElem_cons_succ, List.getElem_cons_zero, List.setIfInBounds_toArray, List.set_cons_zero, List.set_cons_succ])
          refine wpAnyH_ready (rs := [1, 6, 7]) (by decide +kernel) (by simp) ?_
          refine AllReadyH.cons rfl (fun K hK => ?_) (AllReadyH.cons rfl (fun K hK => ?_) (AllReadyH.cons rfl (fun K hK => ?_) AllReadyH.nil))
          · as_aux_lemma =>
              skip
              (go_simp; (with_reducible refine Calls.mono (cR.out _ hq0) ?_); rintro ed X1 ⟨va, ts, rfl, hts, hia, hb⟩)
              obtain ⟨sa, ca, rfl, -⟩ := id hia
              try go_simp
              have hq1 := below_step hq0 hb
              refine hK.out _ _ (kz_go hB3.out hq1) (fun hHeld => ?_)
              clear hK K
              try simp only [Act.put, List.getElem_toArray, List.getElem_cons_succ, List.getElem_cons_zero, List.setIfInBounds_toArray, List.set_cons_zero, List.set_cons_succ]
              have hts := Lib.hid hts
              have hia := ints_any0 hia
              clear hb
              refine wpAnyH_ready (rs := [3, 6, 7]) (by decide +kernel) (by simp) ?_
              refine AllReadyH.cons rfl (fun K hK => ?_) (AllReadyH.cons rfl (fun K hK => ?_) (AllReadyH.cons rfl (fun K hK => ?_) AllReadyH.nil))
              · as_aux_lemma =>
                  skip
                  (go_simp; (with_reducible refine Calls.mono (cL.out _ hq1) ?_); rintro ed X2 ⟨vb, us, rfl, hus, hib, hb⟩)
                  obtain ⟨sb, cb, rfl, -⟩ := id hib
                  try go_simp
                  have hq2 := below_step hq1 hb
                  refine hK.out _ _ (kz_go hB3.out hq2) (fun hHeld => ?_)
                  clear hK K
                  try simp only [Act.put, List.getElem_toArray, List.getElem_cons_succ, List.getElem_cons_zero, List.setIfInBounds_toArray, List.set_cons_zero, List.set_cons_succ]
                  have hus := Lib.hid hus
                  have hib := ints_any0 hib
                  replace hia := hia.below hb
                  clear hb
                  refine wpAnyH_ready (rs := [5, 6, 7]) (by decide +kernel) (by simp) ?_
                  refine AllReadyH.cons rfl (fun K hK => ?_) (AllReadyH.cons rfl (fun K hK => ?_) (AllReadyH.cons rfl (fun K hK => ?_) AllReadyH.nil))
                  · as_aux_lemma =>
                      skip
                      (go_simp; (with_reducible refine Calls.mono (cO.out _ hq2) ?_); rintro ed X3 ⟨vr, rfl, hir, hb⟩)
                      try go_simp
                      have hq3 := below_step hq2 hb
                      refine hK.out _ _ (kz_go hB3.out hq3) (fun hHeld => ?_)
                      clear hK K
                      try simp only [Act.put, List.getElem_toArray, List.getElem_cons_succ, List.getElem_cons_zero, List.setIfInBounds_toArray, List.set_cons_zero, List.set_cons_succ]
                      have hir := ints_any0 hir
                      replace hia := hia.below hb
                      replace hib := hib.below hb
                      clear hb
                      refine wpAnyH_ready (rs := [6, 7]) (by decide +kernel) (by simp) ?_
                      refine AllReadyH.cons rfl (fun K hK => ?_) (AllReadyH.cons rfl (fun K hK => ?_) AllReadyH.nil)
                      · skip
                        go_simp
                        refine hK.out _ _ (kz_go hB3.out (below_alloc hq3 _)) (fun hHeld => ?_)
                        clear hK K
                        try simp only [Act.put, List.getElem_toArray, List.getElem_cons_succ, List.getElem_cons_zero, List.setIfInBounds_toArray, List.set_cons_zero, List.set_cons_succ]
                        have h3 := Bx.new hq3
                        have hb := below_alloc (Below.refl _ X3) (.cells #[.slice none 0 0] 23)
                        obtain ⟨X4, hY⟩ : ∃ Y, X3.alloc (.cells #[.slice none 0 0] 23) = Y := ⟨_, rfl⟩
                        obtain ⟨N3, hN⟩ : ∃ N, X3.heap.size = N := ⟨_, rfl⟩
                        have hq4 := below_step hq3 hb
                        rw [hY] at h3 hb hq4 ⊢
                        replace hia := hia.below hb
                        replace hib := hib.below hb
                        replace hir := hir.below hb
                        rw [hN] at h3 ⊢
                        clear hb hY hN
                        refine wpAnyH_ready (rs := [7]) (by decide +kernel) (by simp) ?_
                        refine AllReadyH.cons rfl (fun K hK => ?_) AllReadyH.nil
                        · skip
                          go_simp
                          refine hK.out _ _ (kz_go hB3.out (below_alloc hq4 _)) (fun hHeld => ?_)
                          clear hK K
                          try simp only [Act.put, List.getElem_toArray, List.getElem_cons_succ, List.getElem_cons_zero, List.setIfInBounds_toArray, List.set_cons_zero, List.set_cons_succ]
                          have h4 := Bx.new hq4
                          have hb := below_alloc (Below.refl _ X4) (.cells #[.slice none 0 0] 23)
                          have hne : N3 ≠ X4.heap.size := by have := block_lt h3.1; omega
                          obtain ⟨X5, hY⟩ : ∃ Y, X4.alloc (.cells #[.slice none 0 0] 23) = Y := ⟨_, rfl⟩
                          obtain ⟨N4, hN⟩ : ∃ N, X4.heap.size = N := ⟨_, rfl⟩
                          have hq5 := below_step hq4 hb
                          rw [hY] at h4 hb hq5 ⊢
                          replace hia := hia.below hb
                          replace hib := hib.below hb
                          replace hir := hir.below hb
                          replace h3 := h3.below hb
                          rw [hN] at h4 hne ⊢
                          clear hb hY hN
                          have kz := kz_end hq5 h3 h4 hne hv3.out hB3.out hia hib hir
                          obtain ⟨c3, f3⟩ := h3.cell
                          obtain ⟨d3, h5, hq9⟩ := Bx.put (u := .slice sa ts.length ca) h3 h4 hne hq5
                          obtain ⟨c4, f4⟩ := h5.cell
                          have hl3 := h3.2
                          have hl4 := h5.2
                          replace kz := Lib.hid kz
                          clear h3 h4 h5 hia hib hir
                          refine wpAnyH_ready (rs := [8]) (by decide +kernel) (by simp) ?_
                          refine AllReadyH.cons rfl (fun K hK => ?_) AllReadyH.nil
                          go_simp
                          refine hK.out _ _ (kz_go hB3.out hq9) (fun hHeld => ?_)
                          clear hK K
                          try simp only [Act.put, List.getElem_toArray, List.getElem_cons_succ, List.getElem_cons_zero, List.setIfInBounds_toArray, List.set_cons_zero, List.set_cons_succ]
                          refine wpAnyH_ready (rs := [9]) (by decide +kernel) (by simp) ?_
                          refine AllReadyH.cons rfl (fun K hK => ?_) AllReadyH.nil
                          go_simp
                          refine hK.out _ _ (kz_go hB3.out (below_set hq9 hl4)) (fun hHeld => ?_)
                          clear hK K
                          try simp only [Act.put, List.getElem_toArray, List.getElem_cons_succ, List.getElem_cons_zero, List.setIfInBounds_toArray, List.set_cons_zero, List.set_cons_succ]
                          refine wpAnyH_ready (rs := [10]) (by decide +kernel) (by simp) ?_
                          refine AllReadyH.cons rfl (fun K hK => ?_) AllReadyH.nil
                          go_simp
                          refine hK.out _ _ (kz_go hB3.out (below_set hq9 hl4)) (fun hHeld => ?_)
                          clear hK K
                          try simp only [Act.put, List.getElem_toArray, List.getElem_cons_succ, List.getElem_cons_zero, List.setIfInBounds_toArray, List.set_cons_zero, List.set_cons_succ]
                          refine wpAnyH_done (by kernel_rfl) ?_ _
                          go_wp2_with fail
                          go_meet
                          exact ⟨_, _, _, _, _, _, _, rfl, rfl, rfl, hts, hus, kz⟩
                      · skip
                        go_simp
                        refine hK.out _ _ (kz_go hB3.out (below_alloc hq3 _)) (fun hHeld => ?_)
                        clear hK K
                        try simp only [Act.put, List.getElem_toArray, List.getElem_cons_succ, List.getElem_cons_zero, List.setIfInBounds_toArray, List.set_cons_zero, List.set_cons_succ]
                        have h4 := Bx.new hq3
                        have hb := below_alloc (Below.refl _ X3) (.cells #[.slice none 0 0] 23)
                        obtain ⟨X4, hY⟩ : ∃ Y, X3.alloc (.cells #[.slice none 0 0] 23) = Y := ⟨_, rfl⟩
                        obtain ⟨N4, hN⟩ : ∃ N, X3.heap.size = N := ⟨_, rfl⟩
                        have hq4 := below_step hq3 hb
                        rw [hY] at h4 hb hq4 ⊢
                        replace hia := hia.below hb
                        replace hib := hib.below hb
                        replace hir := hir.below hb
                        rw [hN] at h4 ⊢
                        clear hb hY hN
                        refine wpAnyH_ready (rs := [6]) (by decide +kernel) (by simp) ?_
                        refine AllReadyH.cons rfl (fun K hK => ?_) AllReadyH.nil
                        · skip
                          go_simp
                          refine hK.out _ _ (kz_go hB3.out (below_alloc hq4 _)) (fun hHeld => ?_)
                          clear hK K
                          try simp only [Act.put, List.getElem_toArray, List.getElem_cons_succ, List.getElem_cons_zero, List.setIfInBounds_toArray, List.set_cons_zero, List.set_cons_succ]
                          have h3 := Bx.new hq4
                          have hb := below_alloc (Below.refl _ X4) (.cells #[.slice none 0 0] 23)
                          have hne : X4.heap.size ≠ N4 := by have := block_lt h4.1; omega
                          obtain ⟨X5, hY⟩ : ∃ Y, X4.alloc (.cells #[.slice none 0 0] 23) = Y := ⟨_, rfl⟩
                          obtain ⟨N3, hN⟩ : ∃ N, X4.heap.size = N := ⟨_, rfl⟩
                          have hq5 := below_step hq4 hb
                          rw [hY] at h3 hb hq5 ⊢
                          replace hia := hia.below hb
                          replace hib := hib.below hb
                          replace hir := hir.below hb
                          replace h4 := h4.below hb
                          rw [hN] at h3 hne ⊢
                          clear hb hY hN
                          have kz := kz_end hq5 h3 h4 hne hv3.out hB3.out hia hib hir
                          obtain ⟨c3, f3⟩ := h3.cell
                          obtain ⟨d3, h5, hq9⟩ := Bx.put (u := .slice sa ts.length ca) h3 h4 hne hq5
                          obtain ⟨c4, f4⟩ := h5.cell
                          have hl3 := h3.2
                          have hl4 := h5.2
                          replace kz := Lib.hid kz
                          clear h3 h4 h5 hia hib hir
                          refine wpAnyH_ready (rs := [8]) (by decide +kernel) (by simp) ?_
                          refine AllReadyH.cons rfl (fun K hK => ?_) AllReadyH.nil
                          go_simp
                          refine hK.out _ _ (kz_go hB3.out hq9) (fun hHeld => ?_)
                          clear hK K
                          try simp only [Act.put, List.getElem_toArray, List.getElem_cons_succ, List.getElem_cons_zero, List.setIfInBounds_toArray, List.set_cons_zero, List.set_cons_succ]
                          refine wpAnyH_ready (rs := [9]) (by decide +kernel) (by simp) ?_
                          refine AllReadyH.cons rfl (fun K hK => ?_) AllReadyH.nil
                          go_simp
                          refine hK.out _ _ (kz_go hB3.out (below_set hq9 hl4)) (fun hHeld => ?_)
                          clear hK K
                          try simp only [Act.put, List.getElem_toArray, List.getElem_cons_succ, List.getElem_cons_zero, List.setIfInBounds_toArray, List.set_cons_zero, List.set_cons_succ]
                          refine wpAnyH_ready (rs := [10]) (by decide +kernel) (by simp) ?_
                          refine AllReadyH.cons rfl (fun K hK => ?_) AllReadyH.nil
                          go_simp
                          refine hK.out _ _ (kz_go hB3.out (below_set hq9 hl4)) (fun hHeld => ?_)
                          clear hK K
                          try simp only [Act.put, List.getElem_toArray, List.getElem_cons_succ, List.getElem_cons_zero, List.setIfInBounds_toArray, List.set_cons_zero, List.set_cons_succ]
                          refine wpAnyH_done (by kernel_rfl) ?_ _
                          go_wp2_with fail
                          go_meet
                          exact ⟨_, _, _, _, _, _, _, rfl, rfl, rfl, hts, hus, kz⟩
                  · as_aux_lemma =>
                      skip
                      go_simp
                      refine hK.out _ _ (kz_go hB3.out (below_alloc hq2 _)) (fun hHeld => ?_)
                      clear hK K
                      try simp only [Act.put, List.getElem_toArray, List.getElem_cons_succ, List.getElem_cons_zero, List.setIfInBounds_toArray, List.set_cons_zero, List.set_cons_succ]
                      have h3 := Bx.new hq2
                      have hb := below_alloc (Below.refl _ X2) (.cells #[.slice none 0 0] 23)
                      obtain ⟨X3, hY⟩ : ∃ Y, X2.alloc (.cells #[.slice none 0 0] 23) = Y := ⟨_, rfl⟩
                      obtain ⟨N3, hN⟩ : ∃ N, X2.heap.size = N := ⟨_, rfl⟩
                      have hq3 := below_step hq2 hb
                      rw [hY] at h3 hb hq3 ⊢
                      replace hia := hia.below hb
                      replace hib := hib.below hb
                      rw [hN] at h3 ⊢
                      clear hb hY hN
                      refine wpAnyH_ready (rs := [5, 7]) (by decide +kernel) (by simp) ?_
                      refine AllReadyH.cons rfl (fun K hK => ?_) (AllReadyH.cons rfl (fun K hK => ?_) AllReadyH.nil)
                      · skip
                        (go_simp; (with_reducible refine Calls.mono (cO.out _ hq3) ?_); rintro ed X4 ⟨vr, rfl, hir, hb⟩)
                        try go_simp
                        have hq4 := below_step hq3 hb
                        refine hK.out _ _ (kz_go hB3.out hq4) (fun hHeld => ?_)
                        clear hK K
                        try simp only [Act.put, List.getElem_toArray, List.getElem_cons_succ, List.getElem_cons_zero, List.setIfInBounds_toArray, List.set_cons_zero, List.set_cons_succ]
                        have hir := ints_any0 hir
                        replace hia := hia.below hb
                        replace hib := hib.below hb
                        replace h3 := h3.below hb
                        clear hb
                        refine wpAnyH_ready (rs := [7]) (by decide +kernel) (by simp) ?_
                        refine AllReadyH.cons rfl (fun K hK => ?_) AllReadyH.nil
                        · skip
                          go_simp
                          refine hK.out _ _ (kz_go hB3.out (below_alloc hq4 _)) (fun hHeld => ?_)
                          clear hK K
                          try simp only [Act.put, List.getElem_toArray, List.getElem_cons_succ, List.getElem_cons_zero, List.setIfInBounds_toArray, List.set_cons_zero, List.set_cons_succ]
                          have h4 := Bx.new hq4
                          have hb := below_alloc (Below.refl _ X4) (.cells #[.slice none 0 0] 23)
                          have hne : N3 ≠ X4.heap.size := by have := block_lt h3.1; omega
                          obtain ⟨X5, hY⟩ : ∃ Y, X4.alloc (.cells #[.slice none 0 0] 23) = Y := ⟨_, rfl⟩
                          obtain ⟨N4, hN⟩ : ∃ N, X4.heap.size = N := ⟨_, rfl⟩
                          have hq5 := below_step hq4 hb
                          rw [hY] at h4 hb hq5 ⊢
                          replace hia := hia.below hb
                          replace hib := hib.below hb
                          replace hir := hir.below hb
                          replace h3 := h3.below hb
                          rw [hN] at h4 hne ⊢
                          clear hb hY hN
                          have kz := kz_end hq5 h3 h4 hne hv3.out hB3.out hia hib hir
                          obtain ⟨c3, f3⟩ := h3.cell
                          obtain ⟨d3, h5, hq9⟩ := Bx.put (u := .slice sa ts.length ca) h3 h4 hne hq5
                          obtain ⟨c4, f4⟩ := h5.cell
                          have hl3 := h3.2
                          have hl4 := h5.2
                          replace kz := Lib.hid kz
                          clear h3 h4 h5 hia hib hir
                          refine wpAnyH_ready (rs := [8]) (by decide +kernel) (by simp) ?_
                          refine AllReadyH.cons rfl (fun K hK => ?_) AllReadyH.nil
                          go_simp
                          refine hK.out _ _ (kz_go hB3.out hq9) (fun hHeld => ?_)
                          clear hK K
                          try simp only [Act.put, List.getElem_toArray, List.getElem_cons_succ, List.getElem_cons_zero, List.setIfInBounds_toArray, List.set_cons_zero, List.set_cons_succ]
                          refine wpAnyH_ready (rs := [9]) (by decide +kernel) (by simp) ?_
                          refine AllReadyH.cons rfl (fun K hK => ?_) AllReadyH.nil
                          go_simp
                          refine hK.out _ _ (kz_go hB3.out (below_set hq9 hl4)) (fun hHeld => ?_)
                          clear hK K
                          try simp only [Act.put, List.getElem_toArray, List.getElem_cons_succ, List.getElem_cons_zero, List.setIfInBounds_toArray, List.set_cons_zero, List.set_cons_succ]
                          refine wpAnyH_ready (rs := [10]) (by decide +kernel) (by simp) ?_
                          refine AllReadyH.cons rfl (fun K hK => ?_) AllReadyH.nil
                          go_simp
                          refine hK.out _ _ (kz_go hB3.out (below_set hq9 hl4)) (fun hHeld => ?_)
                          clear hK K
                          try simp only [Act.put, List.getElem_toArray, List.getElem_cons_succ, List.getElem_cons_zero, List.setIfInBounds_toArray, List.set_cons_zero, List.set_cons_succ]
                          refine wpAnyH_done (by kernel_rfl) ?_ _
                          go_wp2_with fail
                          go_meet
                          exact ⟨_, _, _, _, _, _, _, rfl, rfl, rfl, hts, hus, kz⟩
                      · skip
                        go_simp
                        refine hK.out _ _ (kz_go hB3.out (below_alloc hq3 _)) (fun hHeld => ?_)
                        clear hK K
                        try simp only [Act.put, List.getElem_toArray, List.getElem_cons_succ, List.getElem_cons_zero, List.setIfInBounds_toArray, List.set_cons_zero, List.set_cons_succ]
                        have h4 := Bx.new hq3
                        have hb := below_alloc (Below.refl _ X3) (.cells #[.slice none 0 0] 23)
                        have hne : N3 ≠ X3.heap.size := by have := block_lt h3.1; omega
                        obtain ⟨X4, hY⟩ : ∃ Y, X3.alloc (.cells #[.slice none 0 0] 23) = Y := ⟨_, rfl⟩
                        obtain ⟨N4, hN⟩ : ∃ N, X3.heap.size = N := ⟨_, rfl⟩
                        have hq4 := below_step hq3 hb
                        rw [hY] at h4 hb hq4 ⊢
                        replace hia := hia.below hb
                        replace hib := hib.below hb
                        replace h3 := h3.below hb
                        rw [hN] at h4 hne ⊢
                        clear hb hY hN
                        refine wpAnyH_ready (rs := [5]) (by decide +kernel) (by simp) ?_
                        refine AllReadyH.cons rfl (fun K hK => ?_) AllReadyH.nil
                        · skip
                          (go_simp; (with_reducible refine Calls.mono (cO.out _ hq4) ?_); rintro ed X5 ⟨vr, rfl, hir, hb⟩)
                          try go_simp
                          have hq5 := below_step hq4 hb
                          refine hK.out _ _ (kz_go hB3.out hq5) (fun hHeld => ?_)
                          clear hK K
                          try simp only [Act.put, List.getElem_toArray, List.getElem_cons_succ, List.getElem_cons_zero, List.setIfInBounds_toArray, List.set_cons_zero, List.set_cons_succ]
                          have hir := ints_any0 hir
                          replace hia := hia.below hb
                          replace hib := hib.below hb
                          replace h3 := h3.below hb
                          replace h4 := h4.below hb
                          clear hb
                          have kz := kz_end hq5 h3 h4 hne hv3.out hB3.out hia hib hir
                          obtain ⟨c3, f3⟩ := h3.cell
                          obtain ⟨d3, h5, hq9⟩ := Bx.put (u := .slice sa ts.length ca) h3 h4 hne hq5
                          obtain ⟨c4, f4⟩ := h5.cell
                          have hl3 := h3.2
                          have hl4 := h5.2
                          replace kz := Lib.hid kz
                          clear h3 h4 h5 hia hib hir
                          refine wpAnyH_ready (rs := [8]) (by decide +kernel) (by simp) ?_
                          refine AllReadyH.cons rfl (fun K hK => ?_) AllReadyH.nil
                          go_simp
                          refine hK.out _ _ (kz_go hB3.out hq9) (fun hHeld => ?_)
                          clear hK K
                          try simp only [Act.put, List.getElem_toArray, List.getElem_cons_succ, List.getElem_cons_zero, List.setIfInBounds_toArray, List.set_cons_zero, List.set_cons_succ]
                          refine wpAnyH_ready (rs := [9]) (by decide +kernel) (by simp) ?_
                          refine AllReadyH.cons rfl (fun K hK => ?_) AllReadyH.nil
                          go_simp
                          refine hK.out _ _ (kz_go hB3.out (below_set hq9 hl4)) (fun hHeld => ?_)
                          clear hK K
                          try simp only [Act.put, List.getElem_toArray, List.getElem_cons_succ, List.getElem_cons_zero, List.setIfInBounds_toArray, List.set_cons_zero, List.set_cons_succ]
                          refine wpAnyH_ready (rs := [10]) (by decide +kernel) (by simp) ?_
                          refine AllReadyH.cons rfl (fun K hK => ?_) AllReadyH.nil
                          go_simp
                          refine hK.out _ _ (kz_go hB3.out (below_set hq9 hl4)) (fun hHeld => ?_)
                          clear hK K
                          try simp only [Act.put, List.getElem_toArray, List.getElem_cons_succ, List.getElem_cons_zero, List.setIfInBounds_toArray, List.set_cons_zero, List.set_cons_succ]
                          refine wpAnyH_done (by kernel_rfl) ?_ _
                          go_wp2_with fail
                          go_meet
                          exact ⟨_, _, _, _, _, _, _, rfl, rfl, rfl, hts, hus, kz⟩
                  · as_aux_lemma =>
                      skip
                      go_simp
                      refine hK.out _ _ (kz_go hB3.out (below_alloc hq2 _)) (fun hHeld => ?_)
                      clear hK K
                      try simp only [Act.put, List.getElem_toArray, List.getElem_cons_succ, List.getElem_cons_zero, List.setIfInBounds_toArray, List.set_cons_zero, List.set_cons_succ]
                      have h4 := Bx.new hq2
                      have hb := below_alloc (Below.refl _ X2) (.cells #[.slice none 0 0] 23)
                      obtain ⟨X3, hY⟩ : ∃ Y, X2.alloc (.cells #[.slice none 0 0] 23) = Y := ⟨_, rfl⟩
                      obtain ⟨N4, hN⟩ : ∃ N, X2.heap.size = N := ⟨_, rfl⟩
                      have hq3 := below_step hq2 hb
                      rw [hY] at h4 hb hq3 ⊢
                      replace hia := hia.below hb
                      replace hib := hib.below hb
                      rw [hN] at h4 ⊢
                      clear hb hY hN
                      refine wpAnyH_ready (rs := [5, 6]) (by decide +kernel) (by simp) ?_
                      refine AllReadyH.cons rfl (fun K hK => ?_) (AllReadyH.cons rfl (fun K hK => ?_) AllReadyH.nil)
                      · skip
                        (go_simp; (with_reducible refine Calls.mono (cO.out _ hq3) ?_); rintro ed X4 ⟨vr, rfl, hir, hb⟩)
                        try go_simp
                        have hq4 := below_step hq3 hb
                        refine hK.out _ _ (kz_go hB3.out hq4) (fun hHeld => ?_)
                        clear hK K
                        try simp only [Act.put, List.getElem_toArray, List.getElem_cons_succ, List.getElem_cons_zero, List.setIfInBounds_toArray, List.set_cons_zero, List.set_cons_succ]
                        have hir := ints_any0 hir
                        replace hia := hia.below hb
                        replace hib := hib.below hb
                        replace h4 := h4.below hb
                        clear hb
                        refine wpAnyH_ready (rs := [6]) (by decide +kernel) (by simp) ?_
                        refine AllReadyH.cons rfl (fun K hK => ?_) AllReadyH.nil
                        · skip
                          go_simp
                          refine hK.out _ _ (kz_go hB3.out (below_alloc hq4 _)) (fun hHeld => ?_)
                          clear hK K
                          try simp only [Act.put, List.getElem_toArray, List.getElem_cons_succ, List.getElem_cons_zero, List.setIfInBounds_toArray, List.set_cons_zero, List.set_cons_succ]
                          have h3 := Bx.new hq4
                          have hb := below_alloc (Below.refl _ X4) (.cells #[.slice none 0 0] 23)
                          have hne : X4.heap.size ≠ N4 := by have := block_lt h4.1; omega
                          obtain ⟨X5, hY⟩ : ∃ Y, X4.alloc (.cells #[.slice none 0 0] 23) = Y := ⟨_, rfl⟩
                          obtain ⟨N3, hN⟩ : ∃ N, X4.heap.size = N := ⟨_, rfl⟩
                          have hq5 := below_step hq4 hb
                          rw [hY] at h3 hb hq5 ⊢
                          replace hia := hia.below hb
                          replace hib := hib.below hb
                          replace hir := hir.below hb
                          replace h4 := h4.below hb
                          rw [hN] at h3 hne ⊢
                          clear hb hY hN
                          have kz := kz_end hq5 h3 h4 hne hv3.out hB3.out hia hib hir
                          obtain ⟨c3, f3⟩ := h3.cell
                          obtain ⟨d3, h5, hq9⟩ := Bx.put (u := .slice sa ts.length ca) h3 h4 hne hq5
                          obtain ⟨c4, f4⟩ := h5.cell
                          have hl3 := h3.2
                          have hl4 := h5.2
                          replace kz := Lib.hid kz
                          clear h3 h4 h5 hia hib hir
                          refine wpAnyH_ready (rs := [8]) (by decide +kernel) (by simp) ?_
                          refine AllReadyH.cons rfl (fun K hK => ?_) AllReadyH.nil
                          go_simp
                          refine hK.out _ _ (kz_go hB3.out hq9) (fun hHeld => ?_)
                          clear hK K
                          try simp only [Act.put, List.getElem_toArray, List.getElem_cons_succ, List.getElem_cons_zero, List.setIfInBounds_toArray, List.set_cons_zero, List.set_cons_succ]
                          refine wpAnyH_ready (rs := [9]) (by decide +kernel) (by simp) ?_
                          refine AllReadyH.cons rfl (fun K hK => ?_) AllReadyH.nil
                          go_simp
                          refine hK.out _ _ (kz_go hB3.out (below_set hq9 hl4)) (fun hHeld => ?_)
                          clear hK K
                          try simp only [Act.put, List.getElem_toArray, List.getElem_cons_succ, List.getElem_cons_zero, List.setIfInBounds_toArray, List.set_cons_zero, List.set_cons_succ]
                          refine wpAnyH_ready (rs := [10]) (by decide +kernel) (by simp) ?_
                          refine AllReadyH.cons rfl (fun K hK => ?_) AllReadyH.nil
                          go_simp
                          refine hK.out _ _ (kz_go hB3.out (below_set hq9 hl4)) (fun hHeld => ?_)
                          clear hK K
                          try simp only [Act.put, List.getElem_toArray, List.getElem_cons_succ, List.getElem_cons_zero, List.setIfInBounds_toArray, List.set_cons_zero, List.set_cons_succ]
                          refine wpAnyH_done (by kernel_rfl) ?_ _
                          go_wp2_with fail
                          go_meet
                          exact ⟨_, _, _, _, _, _, _, rfl, rfl, rfl, hts, hus, kz⟩
                      · skip
                        go_simp
                        refine hK.out _ _ (kz_go hB3.out (below_alloc hq3 _)) (fun hHeld => ?_)
                        clear hK K
                        try simp only [Act.put, List.getElem_toArray, List.getElem_cons_succ, List.getElem_cons_zero, List.setIfInBounds_toArray, List.set_cons_zero, List.set_cons_succ]
                        have h3 := Bx.new hq3
                        have hb := below_alloc (Below.refl _ X3) (.cells #[.slice none 0 0] 23)
                        have hne : X3.heap.size ≠ N4 := by have := block_lt h4.1; omega
                        obtain ⟨X4, hY⟩ : ∃ Y, X3.alloc (.cells #[.slice none 0 0] 23) = Y := ⟨_, rfl⟩
                        obtain ⟨N3, hN⟩ : ∃ N, X3.heap.size = N := ⟨_, rfl⟩
                        have hq4 := below_step hq3 hb
                        rw [hY] at h3 hb hq4 ⊢
                        replace hia := hia.below hb
                        replace hib := hib.below hb
                        replace h4 := h4.below hb
                        rw [hN] at h3 hne ⊢
                        clear hb hY hN
                        refine wpAnyH_ready (rs := [5]) (by decide +kernel) (by simp) ?_
                        refine AllReadyH.cons rfl (fun K hK => ?_) AllReadyH.nil
                        · skip
                          (go_simp; (with_reducible refine Calls.mono (cO.out _ hq4) ?_); rintro ed X5 ⟨vr, rfl, hir, hb⟩)
                          try go_simp
                          have hq5 := below_step hq4 hb
                          refine hK.out _ _ (kz_go hB3.out hq5) (fun hHeld => ?_)
                          clear hK K
                          try simp only [Act.put, List.getElem_toArray, List.getElem_cons_succ, List.getElem_cons_zero, List.setIfInBounds_toArray, List.set_cons_zero, List.set_cons_succ]
                          have hir := ints_any0 hir
                          replace hia := hia.below hb
                          replace hib := hib.below hb
                          replace h3 := h3.below hb
                          replace h4 := h4.below hb
                          clear hb
                          have kz := kz_end hq5 h3 h4 hne hv3.out hB3.out hia hib hir
                          obtain ⟨c3, f3⟩ := h3.cell
                          obtain ⟨d3, h5, hq9⟩ := Bx.put (u := .slice sa ts.length ca) h3 h4 hne hq5
                          obtain ⟨c4, f4⟩ := h5.cell
                          have hl3 := h3.2
                          have hl4 := h5.2
                          replace kz := Lib.hid kz
                          clear h3 h4 h5 hia hib hir
                          refine wpAnyH_ready (rs := [8]) (by decide +kernel) (by simp) ?_
                          refine AllReadyH.cons rfl (fun K hK => ?_) AllReadyH.nil
                          go_simp
                          refine hK.out _ _ (kz_go hB3.out hq9) (fun hHeld => ?_)
                          clear hK K
                          try simp only [Act.put, List.getElem_toArray, List.getElem_cons_succ, List.getElem_cons_zero, List.setIfInBounds_toArray, List.set_cons_zero, List.set_cons_succ]
                          refine wpAnyH_ready (rs := [9]) (by decide +kernel) (by simp) ?_
                          refine AllReadyH.cons rfl (fun K hK => ?_) AllReadyH.nil
                          go_simp
                          refine hK.out _ _ (kz_go hB3.out (below_set hq9 hl4)) (fun hHeld => ?_)
                          clear hK K
                          try simp only [Act.put, List.getElem_toArray, List.getElem_cons_succ, List.getElem_cons_zero, List.setIfInBounds_toArray, List.set_cons_zero, List.set_cons_succ]
                          refine wpAnyH_ready (rs := [10]) (by decide +kernel) (by simp) ?_
                          refine AllReadyH.cons rfl (fun K hK => ?_) AllReadyH.nil
                          go_simp
                          refine hK.out _ _ (kz_go hB3.out (below_set hq9 hl4)) (fun hHeld => ?_)
                          clear hK K
                          try simp only [Act.put, List.getElem_toArray, List.getElem_cons_succ, List.getElem_cons_zero, List.setIfInBounds_toArray, List.set_cons_zero, List.set_cons_succ]
                          refine wpAnyH_done (by kernel_rfl) ?_ _
                          go_wp2_with fail
                          go_meet
                          exact ⟨_, _, _, _, _, _, _, rfl, rfl, rfl, hts, hus, kz⟩
              · as_aux_lemma =>
                  skip
                  go_simp
                  refine hK.out _ _ (kz_go hB3.out (below_alloc hq1 _)) (fun hHeld => ?_)
                  clear hK K
                  try simp only [Act.put, List.getElem_toArray, List.getElem_cons_succ, List.getElem_cons_zero, List.setIfInBounds_toArray, List.set_cons_zero, List.set_cons_succ]
                  have h3 := Bx.new hq1
                  have hb := below_alloc (Below.refl _ X1) (.cells #[.slice none 0 0] 23)
                  obtain ⟨X2, hY⟩ : ∃ Y, X1.alloc (.cells #[.slice none 0 0] 23) = Y := ⟨_, rfl⟩
                  obtain ⟨N3, hN⟩ : ∃ N, X1.heap.size = N := ⟨_, rfl⟩
                  have hq2 := below_step hq1 hb
                  rw [hY] at h3 hb hq2 ⊢
                  replace hia := hia.below hb
                  rw [hN] at h3 ⊢
                  clear hb hY hN
                  refine wpAnyH_ready (rs := [3, 7]) (by decide +kernel) (by simp) ?_
                  refine AllReadyH.cons rfl (fun K hK => ?_) (AllReadyH.cons rfl (fun K hK => ?_) AllReadyH.nil)
                  · as_aux_lemma =>
                      skip
                      (go_simp; (with_reducible refine Calls.mono (cL.out _ hq2) ?_); rintro ed X3 ⟨vb, us, rfl, hus, hib, hb⟩)
                      obtain ⟨sb, cb, rfl, -⟩ := id hib
                      try go_simp
                      have hq3 := below_step hq2 hb
                      refine hK.out _ _ (kz_go hB3.out hq3) (fun hHeld => ?_)
                      clear hK K
                      try simp only [Act.put, List.getElem_toArray, List.getElem_cons_succ, List.getElem_cons_zero, List.setIfInBounds_toArray, List.set_cons_zero, List.set_cons_succ]
                      have hus := Lib.hid hus
                      have hib := ints_any0 hib
                      replace hia := hia.below hb
                      replace h3 := h3.below hb
                      clear hb
                      refine wpAnyH_ready (rs := [5, 7]) (by decide +kernel) (by simp) ?_
                      refine AllReadyH.cons rfl (fun K hK => ?_) (AllReadyH.cons rfl (fun K hK => ?_) AllReadyH.nil)
                      · skip
                        (go_simp; (with_reducible refine Calls.mono (cO.out _ hq3) ?_); rintro ed X4 ⟨vr, rfl, hir, hb⟩)
                        try go_simp
                        have hq4 := below_step hq3 hb
                        refine hK.out _ _ (kz_go hB3.out hq4) (fun hHeld => ?_)
                        clear hK K
                        try simp only [Act.put, List.getElem_toArray, List.getElem_cons_succ, List.getElem_cons_zero, List.setIfInBounds_toArray, List.set_cons_zero, List.set_cons_succ]
                        have hir := ints_any0 hir
                        replace hia := hia.below hb
                        replace hib := hib.below hb
                        replace h3 := h3.below hb
                        clear hb
                        refine wpAnyH_ready (rs := [7]) (by decide +kernel) (by simp) ?_
                        refine AllReadyH.cons rfl (fun K hK => ?_) AllReadyH.nil
                        · skip
                          go_simp
                          refine hK.out _ _ (kz_go hB3.out (below_alloc hq4 _)) (fun hHeld => ?_)
                          clear hK K
                          try simp only [Act.put, List.getElem_toArray, List.getElem_cons_succ, List.getElem_cons_zero, List.setIfInBounds_toArray, List.set_cons_zero, List.set_cons_succ]
                          have h4 := Bx.new hq4
                          have hb := below_alloc (Below.refl _ X4) (.cells #[.slice none 0 0] 23)
                          have hne : N3 ≠ X4.heap.size := by have := block_lt h3.1; omega
                          obtain ⟨X5, hY⟩ : ∃ Y, X4.alloc (.cells #[.slice none 0 0] 23) = Y := ⟨_, rfl⟩
                          obtain ⟨N4, hN⟩ : ∃ N, X4.heap.size = N := ⟨_, rfl⟩
                          have hq5 := below_step hq4 hb
                          rw [hY] at h4 hb hq5 ⊢
                          replace hia := hia.below hb
                          replace hib := hib.below hb
                          replace hir := hir.below hb
                          replace h3 := h3.below hb
                          rw [hN] at h4 hne ⊢
                          clear hb hY hN
                          have kz := kz_end hq5 h3 h4 hne hv3.out hB3.out hia hib hir
                          obtain ⟨c3, f3⟩ := h3.cell
                          obtain ⟨d3, h5, hq9⟩ := Bx.put (u := .slice sa ts.length ca) h3 h4 hne hq5
                          obtain ⟨c4, f4⟩ := h5.cell
                          have hl3 := h3.2
                          have hl4 := h5.2
                          replace kz := Lib.hid kz
                          clear h3 h4 h5 hia hib hir
                          refine wpAnyH_ready (rs := [8]) (by decide +kernel) (by simp) ?_
                          refine AllReadyH.cons rfl (fun K hK => ?_) AllReadyH.nil
                          go_simp
                          refine hK.out _ _ (kz_go hB3.out hq9) (fun hHeld => ?_)
                          clear hK K
                          try simp only [Act.put, List.getElem_toArray, List.getElem_cons_succ, List.getElem_cons_zero, List.setIfInBounds_toArray, List.set_cons_zero, List.set_cons_succ]
                          refine wpAnyH_ready (rs := [9]) (by decide +kernel) (by simp) ?_
                          refine AllReadyH.cons rfl (fun K hK => ?_) AllReadyH.nil
                          go_simp
                          refine hK.out _ _ (kz_go hB3.out (below_set hq9 hl4)) (fun hHeld => ?_)
                          clear hK K
                          try simp only [Act.put, List.getElem_toArray, List.getElem_cons_succ, List.getElem_cons_zero, List.setIfInBounds_toArray, List.set_cons_zero, List.set_cons_succ]
                          refine wpAnyH_ready (rs := [10]) (by decide +kernel) (by simp) ?_
                          refine AllReadyH.cons rfl (fun K hK => ?_) AllReadyH.nil
                          go_simp
                          refine hK.out _ _ (kz_go hB3.out (below_set hq9 hl4)) (fun hHeld => ?_)
                          clear hK K
                          try simp only [Act.put, List.getElem_toArray, List.getElem_cons_succ, List.getElem_cons_zero, List.setIfInBounds_toArray, List.set_cons_zero, List.set_cons_succ]
                          refine wpAnyH_done (by kernel_rfl) ?_ _
                          go_wp2_with fail
                          go_meet
                          exact ⟨_, _, _, _, _, _, _, rfl, rfl, rfl, hts, hus, kz⟩
                      · skip
                        go_simp
                        refine hK.out _ _ (kz_go hB3.out (below_alloc hq3 _)) (fun hHeld => ?_)
                        clear hK K
                        try simp only [Act.put, List.getElem_toArray, List.getElem_cons_succ, List.getElem_cons_zero, List.setIfInBounds_toArray, List.set_cons_zero, List.set_cons_succ]
                        have h4 := Bx.new hq3
                        have hb := below_alloc (Below.refl _ X3) (.cells #[.slice none 0 0] 23)
                        have hne : N3 ≠ X3.heap.size := by have := block_lt h3.1; omega
                        obtain ⟨X4, hY⟩ : ∃ Y, X3.alloc (.cells #[.slice none 0 0] 23) = Y := ⟨_, rfl⟩
                        obtain ⟨N4, hN⟩ : ∃ N, X3.heap.size = N := ⟨_, rfl⟩
                        have hq4 := below_step hq3 hb
                        rw [hY] at h4 hb hq4 ⊢
                        replace hia := hia.below hb
                        replace hib := hib.below hb
                        replace h3 := h3.below hb
                        rw [hN] at h4 hne ⊢
                        clear hb hY hN
                        refine wpAnyH_ready (rs := [5]) (by decide +kernel) (by simp) ?_
                        refine AllReadyH.cons rfl (fun K hK => ?_) AllReadyH.nil
                        · skip
                          (go_simp; (with_reducible refine Calls.mono (cO.out _ hq4) ?_); rintro ed X5 ⟨vr, rfl, hir, hb⟩)
                          try go_simp
                          have hq5 := below_step hq4 hb
                          refine hK.out _ _ (kz_go hB3.out hq5) (fun hHeld => ?_)
                          clear hK K
                          try simp only [Act.put, List.getElem_toArray, List.getElem_cons_succ, List.getElem_cons_zero, List.setIfInBounds_toArray, List.set_cons_zero, List.set_cons_succ]
                          have hir := ints_any0 hir
                          replace hia := hia.below hb
                          replace hib := hib.below hb
                          replace h3 := h3.below hb
                          replace h4 := h4.below hb
                          clear hb
                          have kz := kz_end hq5 h3 h4 hne hv3.out hB3.out hia hib hir
                          obtain ⟨c3, f3⟩ := h3.cell
                          obtain ⟨d3, h5, hq9⟩ := Bx.put (u := .slice sa ts.length ca) h3 h4 hne hq5
                          obtain ⟨c4, f4⟩ := h5.cell
                          have hl3 := h3.2
                          have hl4 := h5.2
                          replace kz := Lib.hid kz
                          clear h3 h4 h5 hia hib hir
                          refine wpAnyH_ready (rs := [8]) (by decide +kernel) (by simp) ?_
                          refine AllReadyH.cons rfl (fun K hK => ?_) AllReadyH.nil
                          go_simp
                          refine hK.out _ _ (kz_go hB3.out hq9) (fun hHeld => ?_)
                          clear hK K
                          try simp only [Act.put, List.getElem_toArray, List.getElem_cons_succ, List.getElem_cons_zero, List.setIfInBounds_toArray, List.set_cons_zero, List.set_cons_succ]
                          refine wpAnyH_ready (rs := [9]) (by decide +kernel) (by simp) ?_
                          refine AllReadyH.cons rfl (fun K hK => ?_) AllReadyH.nil
                          go_simp
                          refine hK.out _ _ (kz_go hB3.out (below_set hq9 hl4)) (fun hHeld => ?_)
                          clear hK K
                          try simp only [Act.put, List.getElem_toArray, List.getElem_cons_succ, List.getElem_cons_zero, List.setIfInBounds_toArray, List.set_cons_zero, List.set_cons_succ]
                          refine wpAnyH_ready (rs := [10]) (by decide +kernel) (by simp) ?_
                          refine AllReadyH.cons rfl (fun K hK => ?_) AllReadyH.nil
                          go_simp
                          refine hK.out _ _ (kz_go hB3.out (below_set hq9 hl4)) (fun hHeld => ?_)
                          clear hK K
                          try simp only [Act.put, List.getElem_toArray, List.getElem_cons_succ, List.getElem_cons_zero, List.setIfInBounds_toArray, List.set_cons_zero, List.set_cons_succ]
                          refine wpAnyH_done (by kernel_rfl) ?_ _
                          go_wp2_with fail
                          go_meet
                          exact ⟨_, _, _, _, _, _, _, rfl, rfl, rfl, hts, hus, kz⟩
                  · as_aux_lemma =>
                      skip
                      go_simp
                      refine hK.out _ _ (kz_go hB3.out (below_alloc hq2 _)) (fun hHeld => ?_)
                      clear hK K
                      try simp only [Act.put, List.getElem_toArray, List.getElem_cons_succ, List.getElem_cons_zero, List.setIfInBounds_toArray, List.set_cons_zero, List.set_cons_succ]
                      have h4 := Bx.new hq2
                      have hb := below_alloc (Below.refl _ X2) (.cells #[.slice none 0 0] 23)
                      have hne : N3 ≠ X2.heap.size := by have := block_lt h3.1; omega
                      obtain ⟨X3, hY⟩ : ∃ Y, X2.alloc (.cells #[.slice none 0 0] 23) = Y := ⟨_, rfl⟩
                      obtain ⟨N4, hN⟩ : ∃ N, X2.heap.size = N := ⟨_, rfl⟩
                      have hq3 := below_step hq2 hb
                      rw [hY] at h4 hb hq3 ⊢
                      replace hia := hia.below hb
                      replace h3 := h3.below hb
                      rw [hN] at h4 hne ⊢
                      clear hb hY hN
                      refine wpAnyH_ready (rs := [3]) (by decide +kernel) (by simp) ?_
                      refine AllReadyH.cons rfl (fun K hK => ?_) AllReadyH.nil
                      · skip
                        (go_simp; (with_reducible refine Calls.mono (cL.out _ hq3) ?_); rintro ed X4 ⟨vb, us, rfl, hus, hib, hb⟩)
                        obtain ⟨sb, cb, rfl, -⟩ := id hib
                        try go_simp
                        have hq4 := below_step hq3 hb
                        refine hK.out _ _ (kz_go hB3.out hq4) (fun hHeld => ?_)
                        clear hK K
                        try simp only [Act.put, List.getElem_toArray, List.getElem_cons_succ, List.getElem_cons_zero, List.setIfInBounds_toArray, List.set_cons_zero, List.set_cons_succ]
                        have hus := Lib.hid hus
                        have hib := ints_any0 hib
                        replace hia := hia.below hb
                        replace h3 := h3.below hb
                        replace h4 := h4.below hb
                        clear hb
                        refine wpAnyH_ready (rs := [5]) (by decide +kernel) (by simp) ?_
                        refine AllReadyH.cons rfl (fun K hK => ?_) AllReadyH.nil
                        · skip
                          (go_simp; (with_reducible refine Calls.mono (cO.out _ hq4) ?_); rintro ed X5 ⟨vr, rfl, hir, hb⟩)
                          try go_simp
                          have hq5 := below_step hq4 hb
                          refine hK.out _ _ (kz_go hB3.out hq5) (fun hHeld => ?_)
                          clear hK K
                          try simp only [Act.put, List.getElem_toArray, List.getElem_cons_succ, List.getElem_cons_zero, List.setIfInBounds_toArray, List.set_cons_zero, List.set_cons_succ]
                          have hir := ints_any0 hir
                          replace hia := hia.below hb
                          replace hib := hib.below hb
                          replace h3 := h3.below hb
                          replace h4 := h4.below hb
                          clear hb
                          have kz := kz_end hq5 h3 h4 hne hv3.out hB3.out hia hib hir
                          obtain ⟨c3, f3⟩ := h3.cell
                          obtain ⟨d3, h5, hq9⟩ := Bx.put (u := .slice sa ts.length ca) h3 h4 hne hq5
                          obtain ⟨c4, f4⟩ := h5.cell
                          have hl3 := h3.2
                          have hl4 := h5.2
                          replace kz := Lib.hid kz
                          clear h3 h4 h5 hia hib hir
                          refine wpAnyH_ready (rs := [8]) (by decide +kernel) (by simp) ?_
                          refine AllReadyH.cons rfl (fun K hK => ?_) AllReadyH.nil
                          go_simp
                          refine hK.out _ _ (kz_go hB3.out hq9) (fun hHeld => ?_)
                          clear hK K
                          try simp only [Act.put, List.getElem_toArray, List.getElem_cons_succ, List.getElem_cons_zero, List.setIfInBounds_toArray, List.set_cons_zero, List.set_cons_succ]
                          refine wpAnyH_ready (rs := [9]) (by decide +kernel) (by simp) ?_
                          refine AllReadyH.cons rfl (fun K hK => ?_) AllReadyH.nil
                          go_simp
                          refine hK.out _ _ (kz_go hB3.out (below_set hq9 hl4)) (fun hHeld => ?_)
                          clear hK K
                          try simp only [Act.put, List.getElem_toArray, List.getElem_cons_succ, List.getElem_cons_zero, List.setIfInBounds_toArray, List.set_cons_zero, List.set_cons_succ]
                          refine wpAnyH_ready (rs := [10]) (by decide +kernel) (by simp) ?_
                          refine AllReadyH.cons rfl (fun K hK => ?_) AllReadyH.nil
                          go_simp
                          refine hK.out _ _ (kz_go hB3.out (below_set hq9 hl4)) (fun hHeld => ?_)
                          clear hK K
                          try simp only [Act.put, List.getElem_toArray, List.getElem_cons_succ, List.getElem_cons_zero, List.setIfInBounds_toArray, List.set_cons_zero, List.set_cons_succ]
                          refine wpAnyH_done (by kernel_rfl) ?_ _
                          go_wp2_with fail
                          go_meet
                          exact ⟨_, _, _, _, _, _, _, rfl, rfl, rfl, hts, hus, kz⟩
              · as_aux_lemma =>
                  skip
                  go_simp
                  refine hK.out _ _ (kz_go hB3.out (below_alloc hq1 _)) (fun hHeld => ?_)
                  clear hK K
                  try simp only [Act.put, List.getElem_toArray, List.getElem_cons_succ, List.getElem_cons_zero, List.setIfInBounds_toArray, List.set_cons_zero, List.set_cons_succ]
                  have h4 := Bx.new hq1
                  have hb := below_alloc (Below.refl _ X1) (.cells #[.slice none 0 0] 23)
                  obtain ⟨X2, hY⟩ : ∃ Y, X1.alloc (.cells #[.slice none 0 0] 23) = Y := ⟨_, rfl⟩
                  obtain ⟨N4, hN⟩ : ∃ N, X1.heap.size = N := ⟨_, rfl⟩
                  have hq2 := below_step hq1 hb
                  rw [hY] at h4 hb hq2 ⊢
                  replace hia := hia.below hb
                  rw [hN] at h4 ⊢
                  clear hb hY hN
                  refine wpAnyH_ready (rs := [3, 6]) (by decide +kernel) (by simp) ?_
                  refine AllReadyH.cons rfl (fun K hK => ?_) (AllReadyH.cons rfl (fun K hK => ?_) AllReadyH.nil)
                  · as_aux_lemma =>
                      skip
                      (go_simp; (with_reducible refine Calls.mono (cL.out _ hq2) ?_); rintro ed X3 ⟨vb, us, rfl, hus, hib, hb⟩)
                      obtain ⟨sb, cb, rfl, -⟩ := id hib
                      try go_simp
                      have hq3 := below_step hq2 hb
                      refine hK.out _ _ (kz_go hB3.out hq3) (fun hHeld => ?_)
                      clear hK K
                      try simp only [Act.put, List.getElem_toArray, List.getElem_cons_succ, List.getElem_cons_zero, List.setIfInBounds_toArray, List.set_cons_zero, List.set_cons_succ]
                      have hus := Lib.hid hus
                      have hib := ints_any0 hib
                      replace hia := hia.below hb
                      replace h4 := h4.below hb
                      clear hb
                      refine wpAnyH_ready (rs := [5, 6]) (by decide +kernel) (by simp) ?_
                      refine AllReadyH.cons rfl (fun K hK => ?_) (AllReadyH.cons rfl (fun K hK => ?_) AllReadyH.nil)
                      · skip
                        (go_simp; (with_reducible refine Calls.mono (cO.out _ hq3) ?_); rintro ed X4 ⟨vr, rfl, hir, hb⟩)
                        try go_simp
                        have hq4 := below_step hq3 hb
                        refine hK.out _ _ (kz_go hB3.out hq4) (fun hHeld => ?_)
                        clear hK K
                        try simp only [Act.put, List.getElem_toArray, List.getElem_cons_succ, List.getElem_cons_zero, List.setIfInBounds_toArray, List.set_cons_zero, List.set_cons_succ]
                        have hir := ints_any0 hir
                        replace hia := hia.below hb
                        replace hib := hib.below hb
                        replace h4 := h4.below hb
                        clear hb
                        refine wpAnyH_ready (rs := [6]) (by decide +kernel) (by simp) ?_
                        refine AllReadyH.cons rfl (fun K hK => ?_) AllReadyH.nil
                        · skip
                          go_simp
                          refine hK.out _ _ (kz_go hB3.out (below_alloc hq4 _)) (fun hHeld => ?_)
                          clear hK K
                          try simp only [Act.put, List.getElem_toArray, List.getElem_cons_succ, List.getElem_cons_zero, List.setIfInBounds_toArray, List.set_cons_zero, List.set_cons_succ]
                          have h3 := Bx.new hq4
                          have hb := below_alloc (Below.refl _ X4) (.cells #[.slice none 0 0] 23)
                          have hne : X4.heap.size ≠ N4 := by have := block_lt h4.1; omega
                          obtain ⟨X5, hY⟩ : ∃ Y, X4.alloc (.cells #[.slice none 0 0] 23) = Y := ⟨_, rfl⟩
                          obtain ⟨N3, hN⟩ : ∃ N, X4.heap.size = N := ⟨_, rfl⟩
                          have hq5 := below_step hq4 hb
                          rw [hY] at h3 hb hq5 ⊢
                          replace hia := hia.below hb
                          replace hib := hib.below hb
                          replace hir := hir.below hb
                          replace h4 := h4.below hb
                          rw [hN] at h3 hne ⊢
                          clear hb hY hN
                          have kz := kz_end hq5 h3 h4 hne hv3.out hB3.out hia hib hir
                          obtain ⟨c3, f3⟩ := h3.cell
                          obtain ⟨d3, h5, hq9⟩ := Bx.put (u := .slice sa ts.length ca) h3 h4 hne hq5
                          obtain ⟨c4, f4⟩ := h5.cell
                          have hl3 := h3.2
                          have hl4 := h5.2
                          replace kz := Lib.hid kz
                          clear h3 h4 h5 hia hib hir
                          refine wpAnyH_ready (rs := [8]) (by decide +kernel) (by simp) ?_
                          refine AllReadyH.cons rfl (fun K hK => ?_) AllReadyH.nil
                          go_simp
                          refine hK.out _ _ (kz_go hB3.out hq9) (fun hHeld => ?_)
                          clear hK K
                          try simp only [Act.put, List.getElem_toArray, List.getElem_cons_succ, List.getElem_cons_zero, List.setIfInBounds_toArray, List.set_cons_zero, List.set_cons_succ]
                          refine wpAnyH_ready (rs := [9]) (by decide +kernel) (by simp) ?_
                          refine AllReadyH.cons rfl (fun K hK => ?_) AllReadyH.nil
                          go_simp
                          refine hK.out _ _ (kz_go hB3.out (below_set hq9 hl4)) (fun hHeld => ?_)
                          clear hK K
                          try simp only [Act.put, List.getElem_toArray, List.getElem_cons_succ, List.getElem_cons_zero, List.setIfInBounds_toArray, List.set_cons_zero, List.set_cons_succ]
                          refine wpAnyH_ready (rs := [10]) (by decide +kernel) (by simp) ?_
                          refine AllReadyH.cons rfl (fun K hK => ?_) AllReadyH.nil
                          go_simp
                          refine hK.out _ _ (kz_go hB3.out (below_set hq9 hl4)) (fun hHeld => ?_)
                          clear hK K
                          try simp only [Act.put, List.getElem_toArray, List.getElem_cons_succ, List.getElem_cons_zero, List.setIfInBounds_toArray, List.set_cons_zero, List.set_cons_succ]
                          refine wpAnyH_done (by kernel_rfl) ?_ _
                          go_wp2_with fail
                          go_meet
                          exact ⟨_, _, _, _, _, _, _, rfl, rfl, rfl, hts, hus, kz⟩
                      · skip
                        go_simp
                        refine hK.out _ _ (kz_go hB3.out (below_alloc hq3 _)) (fun hHeld => ?_)
                        clear hK K
                        try simp only [Act.put, List.getElem_toArray, List.getElem_cons_succ, List.getElem_cons_zero, List.setIfInBounds_toArray, List.set_cons_zero, List.set_cons_succ]
                        have h3 := Bx.new hq3
                        have hb := below_alloc (Below.refl _ X3) (.cells #[.slice none 0 0] 23)
                        have hne : X3.heap.size ≠ N4 := by have := block_lt h4.1; omega
                        obtain ⟨X4, hY⟩ : ∃ Y, X3.alloc (.cells #[.slice none 0 0] 23) = Y := ⟨_, rfl⟩
                        obtain ⟨N3, hN⟩ : ∃ N, X3.heap.size = N := ⟨_, rfl⟩
                        have hq4 := below_step hq3 hb
                        rw [hY] at h3 hb hq4 ⊢
                        replace hia := hia.below hb
                        replace hib := hib.below hb
                        replace h4 := h4.below hb
                        rw [hN] at h3 hne ⊢
                        clear hb hY hN
                        refine wpAnyH_ready (rs := [5]) (by decide +kernel) (by simp) ?_
                        refine AllReadyH.cons rfl (fun K hK => ?_) AllReadyH.nil
                        · skip
                          (go_simp; (with_reducible refine Calls.mono (cO.out _ hq4) ?_); rintro ed X5 ⟨vr, rfl, hir, hb⟩)
                          try go_simp
                          have hq5 := below_step hq4 hb
                          refine hK.out _ _ (kz_go hB3.out hq5) (fun hHeld => ?_)
                          clear hK K
                          try simp only [Act.put, List.getElem_toArray, List.getElem_cons_succ, List.getElem_cons_zero, List.setIfInBounds_toArray, List.set_cons_zero, List.set_cons_succ]
                          have hir := ints_any0 hir
                          replace hia := hia.below hb
                          replace hib := hib.below hb
                          replace h3 := h3.below hb
                          replace h4 := h4.below hb
                          clear hb
                          have kz := kz_end hq5 h3 h4 hne hv3.out hB3.out hia hib hir
                          obtain ⟨c3, f3⟩ := h3.cell
                          obtain ⟨d3, h5, hq9⟩ := Bx.put (u := .slice sa ts.length ca) h3 h4 hne hq5
                          obtain ⟨c4, f4⟩ := h5.cell
                          have hl3 := h3.2
                          have hl4 := h5.2
                          replace kz := Lib.hid kz
                          clear h3 h4 h5 hia hib hir
                          refine wpAnyH_ready (rs := [8]) (by decide +kernel) (by simp) ?_
                          refine AllReadyH.cons rfl (fun K hK => ?_) AllReadyH.nil
                          go_simp
                          refine hK.out _ _ (kz_go hB3.out hq9) (fun hHeld => ?_)
                          clear hK K
                          try simp only [Act.put, List.getElem_toArray, List.getElem_cons_succ, List.getElem_cons_zero, List.setIfInBounds_toArray, List.set_cons_zero, List.set_cons_succ]
                          refine wpAnyH_ready (rs := [9]) (by decide +kernel) (by simp) ?_
                          refine AllReadyH.cons rfl (fun K hK => ?_) AllReadyH.nil
                          go_simp
                          refine hK.out _ _ (kz_go hB3.out (below_set hq9 hl4)) (fun hHeld => ?_)
                          clear hK K
                          try simp only [Act.put, List.getElem_toArray, List.getElem_cons_succ, List.getElem_cons_zero, List.setIfInBounds_toArray, List.set_cons_zero, List.set_cons_succ]
                          refine wpAnyH_ready (rs := [10]) (by decide +kernel) (by simp) ?_
                          refine AllReadyH.cons rfl (fun K hK => ?_) AllReadyH.nil
                          go_simp
                          refine hK.out _ _ (kz_go hB3.out (below_set hq9 hl4)) (fun hHeld => ?_)
                          clear hK K
                          try simp only [Act.put, List.getElem_toArray, List.getElem_cons_succ, List.getElem_cons_zero, List.setIfInBounds_toArray, List.set_cons_zero, List.set_cons_succ]
                          refine wpAnyH_done (by kernel_rfl) ?_ _
                          go_wp2_with fail
                          go_meet
                          exact ⟨_, _, _, _, _, _, _, rfl, rfl, rfl, hts, hus, kz⟩
                  · as_aux_lemma =>
                      skip
                      go_simp
                      refine hK.out _ _ (kz_go hB3.out (below_alloc hq2 _)) (fun hHeld => ?_)
                      clear hK K
                      try simp only [Act.put, List.getElem_toArray, List.getElem_cons_succ, List.getElem_cons_zero, List.setIfInBounds_toArray, List.set_cons_zero, List.set_cons_succ]
                      have h3 := Bx.new hq2
                      have hb := below_alloc (Below.refl _ X2) (.cells #[.slice none 0 0] 23)
                      have hne : X2.heap.size ≠ N4 := by have := block_lt h4.1; omega
                      obtain ⟨X3, hY⟩ : ∃ Y, X2.alloc (.cells #[.slice none 0 0] 23) = Y := ⟨_, rfl⟩
                      obtain ⟨N3, hN⟩ : ∃ N, X2.heap.size = N := ⟨_, rfl⟩
                      have hq3 := below_step hq2 hb
                      rw [hY] at h3 hb hq3 ⊢
                      replace hia := hia.below hb
                      replace h4 := h4.below hb
                      rw [hN] at h3 hne ⊢
                      clear hb hY hN
                      refine wpAnyH_ready (rs := [3]) (by decide +kernel) (by simp) ?_
                      refine AllReadyH.cons rfl (fun K hK => ?_) AllReadyH.nil
                      · skip
                        (go_simp; (with_reducible refine Calls.mono (cL.out _ hq3) ?_); rintro ed X4 ⟨vb, us, rfl, hus, hib, hb⟩)
                        obtain ⟨sb, cb, rfl, -⟩ := id hib
                        try go_simp
                        have hq4 := below_step hq3 hb
                        refine hK.out _ _ (kz_go hB3.out hq4) (fun hHeld => ?_)
                        clear hK K
                        try simp only [Act.put, List.getElem_toArray, List.getElem_cons_succ, List.getElem_cons_zero, List.setIfInBounds_toArray, List.set_cons_zero, List.set_cons_succ]
                        have hus := Lib.hid hus
                        have hib := ints_any0 hib
                        replace hia := hia.below hb
                        replace h3 := h3.below hb
                        replace h4 := h4.below hb
                        clear hb
                        refine wpAnyH_ready (rs := [5]) (by decide +kernel) (by simp) ?_
                        refine AllReadyH.cons rfl (fun K hK => ?_) AllReadyH.nil
                        · skip
                          (go_simp; (with_reducible refine Calls.mono (cO.out _ hq4) ?_); rintro ed X5 ⟨vr, rfl, hir, hb⟩)
                          try go_simp
                          have hq5 := below_step hq4 hb
                          refine hK.out _ _ (kz_go hB3.out hq5) (fun hHeld => ?_)
                          clear hK K
                          try simp only [Act.put, List.getElem_toArray, List.getElem_cons_succ, List.getElem_cons_zero, List.setIfInBounds_toArray, List.set_cons_zero, List.set_cons_succ]
                          have hir := ints_any0 hir
                          replace hia := hia.below hb
                          replace hib := hib.below hb
                          replace h3 := h3.below hb
                          replace h4 := h4.below hb
                          clear hb
                          have kz := kz_end hq5 h3 h4 hne hv3.out hB3.out hia hib hir
                          obtain ⟨c3, f3⟩ := h3.cell
                          obtain ⟨d3, h5, hq9⟩ := Bx.put (u := .slice sa ts.length ca) h3 h4 hne hq5
                          obtain ⟨c4, f4⟩ := h5.cell
                          have hl3 := h3.2
                          have hl4 := h5.2
                          replace kz := Lib.hid kz
                          clear h3 h4 h5 hia hib hir
                          refine wpAnyH_ready (rs := [8]) (by decide +kernel) (by simp) ?_
                          refine AllReadyH.cons rfl (fun K hK => ?_) AllReadyH.nil
                          go_simp
                          refine hK.out _ _ (kz_go hB3.out hq9) (fun hHeld => ?_)
                          clear hK K
                          try simp only [Act.put, List.getElem_toArray, List.getElem_cons_succ, List.getElem_cons_zero, List.setIfInBounds_toArray, List.set_cons_zero, List.set_cons_succ]
                          refine wpAnyH_ready (rs := [9]) (by decide +kernel) (by simp) ?_
                          refine AllReadyH.cons rfl (fun K hK => ?_) AllReadyH.nil
                          go_simp
                          refine hK.out _ _ (kz_go hB3.out (below_set hq9 hl4)) (fun hHeld => ?_)
                          clear hK K
                          try simp only [Act.put, List.getElem_toArray, List.getElem_cons_succ, List.getElem_cons_zero, List.setIfInBounds_toArray, List.set_cons_zero, List.set_cons_succ]
                          refine wpAnyH_ready (rs := [10]) (by decide +kernel) (by simp) ?_
                          refine AllReadyH.cons rfl (fun K hK => ?_) AllReadyH.nil
                          go_simp
                          refine hK.out _ _ (kz_go hB3.out (below_set hq9 hl4)) (fun hHeld => ?_)
                          clear hK K
                          try simp only [Act.put, List.getElem_toArray, List.getElem_cons_succ, List.getElem_cons_zero, List.setIfInBounds_toArray, List.set_cons_zero, List.set_cons_succ]
                          refine wpAnyH_done (by kernel_rfl) ?_ _
                          go_wp2_with fail
                          go_meet
                          exact ⟨_, _, _, _, _, _, _, rfl, rfl, rfl, hts, hus, kz⟩
          · as_aux_lemma =>
              skip
              go_simp
              refine hK.out _ _ (kz_go hB3.out (below_alloc hq0 _)) (fun hHeld => ?_)
              clear hK K
              try simp only [Act.put, List.getElem_toArray, List.getElem_cons_succ, List.getElem_cons_zero, List.setIfInBounds_toArray, List.set_cons_zero, List.set_cons_succ]
              have h3 := Bx.new hq0
              have hb := below_alloc (Below.refl _ X0) (.cells #[.slice none 0 0] 23)
              obtain ⟨X1, hY⟩ : ∃ Y, X0.alloc (.cells #[.slice none 0 0] 23) = Y := ⟨_, rfl⟩
              obtain ⟨N3, hN⟩ : ∃ N, X0.heap.size = N := ⟨_, rfl⟩
              have hq1 := below_step hq0 hb
              rw [hY] at h3 hb hq1 ⊢
              rw [hN] at h3 ⊢
              clear hb hY hN
              refine wpAnyH_ready (rs := [1, 7]) (by decide +kernel) (by simp) ?_
              refine AllReadyH.cons rfl (fun K hK => ?_) (AllReadyH.cons rfl (fun K hK => ?_) AllReadyH.nil)
              · as_aux_lemma =>
                  skip
                  (go_simp; (with_reducible refine Calls.mono (cR.out _ hq1) ?_); rintro ed X2 ⟨va, ts, rfl, hts, hia, hb⟩)
                  obtain ⟨sa, ca, rfl, -⟩ := id hia
                  try go_simp
                  have hq2 := below_step hq1 hb
                  refine hK.out _ _ (kz_go hB3.out hq2) (fun hHeld => ?_)
                  clear hK K
                  try simp only [Act.put, List.getElem_toArray, List.getElem_cons_succ, List.getElem_cons_zero, List.setIfInBounds_toArray, List.set_cons_zero, List.set_cons_succ]
                  have hts := Lib.hid hts
                  have hia := ints_any0 hia
                  replace h3 := h3.below hb
                  clear hb
                  refine wpAnyH_ready (rs := [3, 7]) (by decide +kernel) (by simp) ?_
                  refine AllReadyH.cons rfl (fun K hK => ?_) (AllReadyH.cons rfl (fun K hK => ?_) AllReadyH.nil)
                  · as_aux_lemma =>
                      skip
                      (go_simp; (with_reducible refine Calls.mono (cL.out _ hq2) ?_); rintro ed X3 ⟨vb, us, rfl, hus, hib, hb⟩)
                      obtain ⟨sb, cb, rfl, -⟩ := id hib
                      try go_simp
                      have hq3 := below_step hq2 hb
                      refine hK.out _ _ (kz_go hB3.out hq3) (fun hHeld => ?_)
                      clear hK K
                      try simp only [Act.put, List.getElem_toArray, List.getElem_cons_succ, List.getElem_cons_zero, List.setIfInBounds_toArray, List.set_cons_zero, List.set_cons_succ]
                      have hus := Lib.hid hus
                      have hib := ints_any0 hib
                      replace hia := hia.below hb
                      replace h3 := h3.below hb
                      clear hb
                      refine wpAnyH_ready (rs := [5, 7]) (by decide +kernel) (by simp) ?_
                      refine AllReadyH.cons rfl (fun K hK => ?_) (AllReadyH.cons rfl (fun K hK => ?_) AllReadyH.nil)
                      · skip
                        (go_simp; (with_reducible refine Calls.mono (cO.out _ hq3) ?_); rintro ed X4 ⟨vr, rfl, hir, hb⟩)
                        try go_simp
                        have hq4 := below_step hq3 hb
                        refine hK.out _ _ (kz_go hB3.out hq4) (fun hHeld => ?_)
                        clear hK K
                        try simp only [Act.put, List.getElem_toArray, List.getElem_cons_succ, List.getElem_cons_zero, List.setIfInBounds_toArray, List.set_cons_zero, List.set_cons_succ]
                        have hir := ints_any0 hir
                        replace hia := hia.below hb
                        replace hib := hib.below hb
                        replace h3 := h3.below hb
                        clear hb
                        refine wpAnyH_ready (rs := [7]) (by decide +kernel) (by simp) ?_
                        refine AllReadyH.cons rfl (fun K hK => ?_) AllReadyH.nil
                        · skip
                          go_simp
                          refine hK.out _ _ (kz_go hB3.out (below_alloc hq4 _)) (fun hHeld => ?_)
                          clear hK K
                          try simp only [Act.put, List.getElem_toArray, List.getElem_cons_succ, List.getElem_cons_zero, List.setIfInBounds_toArray, List.set_cons_zero, List.set_cons_succ]
                          have h4 := Bx.new hq4
                          have hb := below_alloc (Below.refl _ X4) (.cells #[.slice none 0 0] 23)
                          have hne : N3 ≠ X4.heap.size := by have := block_lt h3.1; omega
                          obtain ⟨X5, hY⟩ : ∃ Y, X4.alloc (.cells #[.slice none 0 0] 23) = Y := ⟨_, rfl⟩
                          obtain ⟨N4, hN⟩ : ∃ N, X4.heap.size = N := ⟨_, rfl⟩
                          have hq5 := below_step hq4 hb
                          rw [hY] at h4 hb hq5 ⊢
                          replace hia := hia.below hb
                          replace hib := hib.below hb
                          replace hir := hir.below hb
                          replace h3 := h3.below hb
                          rw [hN] at h4 hne ⊢
                          clear hb hY hN
                          have kz := kz_end hq5 h3 h4 hne hv3.out hB3.out hia hib hir
                          obtain ⟨c3, f3⟩ := h3.cell
                          obtain ⟨d3, h5, hq9⟩ := Bx.put (u := .slice sa ts.length ca) h3 h4 hne hq5
                          obtain ⟨c4, f4⟩ := h5.cell
                          have hl3 := h3.2
                          have hl4 := h5.2
                          replace kz := Lib.hid kz
                          clear h3 h4 h5 hia hib hir
                          refine wpAnyH_ready (rs := [8]) (by decide +kernel) (by simp) ?_
                          refine AllReadyH.cons rfl (fun K hK => ?_) AllReadyH.nil
                          go_simp
                          refine hK.out _ _ (kz_go hB3.out hq9) (fun hHeld => ?_)
                          clear hK K
                          try simp only [Act.put, List.getElem_toArray, List.getElem_cons_succ, List.getElem_cons_zero, List.setIfInBounds_toArray, List.set_cons_zero, List.set_cons_succ]
                          refine wpAnyH_ready (rs := [9]) (by decide +kernel) (by simp) ?_
                          refine AllReadyH.cons rfl (fun K hK => ?_) AllReadyH.nil
                          go_simp
                          refine hK.out _ _ (kz_go hB3.out (below_set hq9 hl4)) (fun hHeld => ?_)
                          clear hK K
                          try simp only [Act.put, List.getElem_toArray, List.getElem_cons_succ, List.getElem_cons_zero, List.setIfInBounds_toArray, List.set_cons_zero, List.set_cons_succ]
                          refine wpAnyH_ready (rs := [10]) (by decide +kernel) (by simp) ?_
                          refine AllReadyH.cons rfl (fun K hK => ?_) AllReadyH.nil
                          go_simp
                          refine hK.out _ _ (kz_go hB3.out (below_set hq9 hl4)) (fun hHeld => ?_)
                          clear hK K
                          try simp only [Act.put, List.getElem_toArray, List.getElem_cons_succ, List.getElem_cons_zero, List.setIfInBounds_toArray, List.set_cons_zero, List.set_cons_succ]
                          refine wpAnyH_done (by kernel_rfl) ?_ _
                          go_wp2_with fail
                          go_meet
                          exact ⟨_, _, _, _, _, _, _, rfl, rfl, rfl, hts, hus, kz⟩
                      · skip
                        go_simp
                        refine hK.out _ _ (kz_go hB3.out (below_alloc hq3 _)) (fun hHeld => ?_)
                        clear hK K
                        try simp only [Act.put, List.getElem_toArray, List.getElem_cons_succ, List.getElem_cons_zero, List.setIfInBounds_toArray, List.set_cons_zero, List.set_cons_succ]
                        have h4 := Bx.new hq3
                        have hb := below_alloc (Below.refl _ X3) (.cells #[.slice none 0 0] 23)
                        have hne : N3 ≠ X3.heap.size := by have := block_lt h3.1; omega
                        obtain ⟨X4, hY⟩ : ∃ Y, X3.alloc (.cells #[.slice none 0 0] 23) = Y := ⟨_, rfl⟩
                        obtain ⟨N4, hN⟩ : ∃ N, X3.heap.size = N := ⟨_, rfl⟩
                        have hq4 := below_step hq3 hb
                        rw [hY] at h4 hb hq4 ⊢
                        replace hia := hia.below hb
                        replace hib := hib.below hb
                        replace h3 := h3.below hb
                        rw [hN] at h4 hne ⊢
                        clear hb hY hN
                        refine wpAnyH_ready (rs := [5]) (by decide +kernel) (by simp) ?_
                        refine AllReadyH.cons rfl (fun K hK => ?_) AllReadyH.nil
                        · skip
                          (go_simp; (with_reducible refine Calls.mono (cO.out _ hq4) ?_); rintro ed X5 ⟨vr, rfl, hir, hb⟩)
                          try go_simp
                          have hq5 := below_step hq4 hb
                          refine hK.out _ _ (kz_go hB3.out hq5) (fun hHeld => ?_)
                          clear hK K
                          try simp only [Act.put, List.getElem_toArray, List.getElem_cons_succ, List.getElem_cons_zero, List.setIfInBounds_toArray, List.set_cons_zero, List.set_cons_succ]
                          have hir := ints_any0 hir
                          replace hia := hia.below hb
                          replace hib := hib.below hb
                          replace h3 := h3.below hb
                          replace h4 := h4.below hb
                          clear hb
                          have kz := kz_end hq5 h3 h4 hne hv3.out hB3.out hia hib hir
                          obtain ⟨c3, f3⟩ := h3.cell
                          obtain ⟨d3, h5, hq9⟩ := Bx.put (u := .slice sa ts.length ca) h3 h4 hne hq5
                          obtain ⟨c4, f4⟩ := h5.cell
                          have hl3 := h3.2
                          have hl4 := h5.2
                          replace kz := Lib.hid kz
                          clear h3 h4 h5 hia hib hir
                          refine wpAnyH_ready (rs := [8]) (by decide +kernel) (by simp) ?_
                          refine AllReadyH.cons rfl (fun K hK => ?_) AllReadyH.nil
                          go_simp
                          refine hK.out _ _ (kz_go hB3.out hq9) (fun hHeld => ?_)
                          clear hK K
                          try simp only [Act.put, List.getElem_toArray, List.getElem_cons_succ, List.getElem_cons_zero, List.setIfInBounds_toArray, List.set_cons_zero, List.set_cons_succ]
                          refine wpAnyH_ready (rs := [9]) (by decide +kernel) (by simp) ?_
                          refine AllReadyH.cons rfl (fun K hK => ?_) AllReadyH.nil
                          go_simp
                          refine hK.out _ _ (kz_go hB3.out (below_set hq9 hl4)) (fun hHeld => ?_)
                          clear hK K
                          try simp only [Act.put, List.getElem_toArray, List.getElem_cons_succ, List.getElem_cons_zero, List.setIfInBounds_toArray, List.set_cons_zero, List.set_cons_succ]
                          refine wpAnyH_ready (rs := [10]) (by decide +kernel) (by simp) ?_
                          refine AllReadyH.cons rfl (fun K hK => ?_) AllReadyH.nil
                          go_simp
                          refine hK.out _ _ (kz_go hB3.out (below_set hq9 hl4)) (fun hHeld => ?_)
                          clear hK K
                          try simp only [Act.put, List.getElem_toArray, List.getElem_cons_succ, List.getElem_cons_zero, List.setIfInBounds_toArray, List.set_cons_zero, List.set_cons_succ]
                          refine wpAnyH_done (by kernel_rfl) ?_ _
                          go_wp2_with fail
                          go_meet
                          exact ⟨_, _, _, _, _, _, _, rfl, rfl, rfl, hts, hus, kz⟩
                  · as_aux_lemma =>
                      skip
                      go_simp
                      refine hK.out _ _ (kz_go hB3.out (below_alloc hq2 _)) (fun hHeld => ?_)
                      clear hK K
                      try simp only [Act.put, List.getElem_toArray, List.getElem_cons_succ, List.getElem_cons_zero, List.setIfInBounds_toArray, List.set_cons_zero, List.set_cons_succ]
                      have h4 := Bx.new hq2
                      have hb := below_alloc (Below.refl _ X2) (.cells #[.slice none 0 0] 23)
                      have hne : N3 ≠ X2.heap.size := by have := block_lt h3.1; omega
                      obtain ⟨X3, hY⟩ : ∃ Y, X2.alloc (.cells #[.slice none 0 0] 23) = Y := ⟨_, rfl⟩
                      obtain ⟨N4, hN⟩ : ∃ N, X2.heap.size = N := ⟨_, rfl⟩
                      have hq3 := below_step hq2 hb
                      rw [hY] at h4 hb hq3 ⊢
                      replace hia := hia.below hb
                      replace h3 := h3.below hb
                      rw [hN] at h4 hne ⊢
                      clear hb hY hN
                      refine wpAnyH_ready (rs := [3]) (by decide +kernel) (by simp) ?_
                      refine AllReadyH.cons rfl (fun K hK => ?_) AllReadyH.nil
                      · skip
                        (go_simp; (with_reducible refine Calls.mono (cL.out _ hq3) ?_); rintro ed X4 ⟨vb, us, rfl, hus, hib, hb⟩)
                        obtain ⟨sb, cb, rfl, -⟩ := id hib
                        try go_simp
                        have hq4 := below_step hq3 hb
                        refine hK.out _ _ (kz_go hB3.out hq4) (fun hHeld => ?_)
                        clear hK K
                        try simp only [Act.put, List.getElem_toArray, List.getElem_cons_succ, List.getElem_cons_zero, List.setIfInBounds_toArray, List.set_cons_zero, List.set_cons_succ]
                        have hus := Lib.hid hus
                        have hib := ints_any0 hib
                        replace hia := hia.below hb
                        replace h3 := h3.below hb
                        replace h4 := h4.below hb
                        clear hb
                        refine wpAnyH_ready (rs := [5]) (by decide +kernel) (by simp) ?_
                        refine AllReadyH.cons rfl (fun K hK => ?_) AllReadyH.nil
                        · skip
                          (go_simp; (with_reducible refine Calls.mono (cO.out _ hq4) ?_); rintro ed X5 ⟨vr, rfl, hir, hb⟩)
                          try go_simp
                          have hq5 := below_step hq4 hb
                          refine hK.out _ _ (kz_go hB3.out hq5) (fun hHeld => ?_)
                          clear hK K
                          try simp only [Act.put, List.getElem_toArray, List.getElem_cons_succ, List.getElem_cons_zero, List.setIfInBounds_toArray, List.set_cons_zero, List.set_cons_succ]
                          have hir := ints_any0 hir
                          replace hia := hia.below hb
                          replace hib := hib.below hb
                          replace h3 := h3.below hb
                          replace h4 := h4.below hb
                          clear hb
                          have kz := kz_end hq5 h3 h4 hne hv3.out hB3.out hia hib hir
                          obtain ⟨c3, f3⟩ := h3.cell
                          obtain ⟨d3, h5, hq9⟩ := Bx.put (u := .slice sa ts.length ca) h3 h4 hne hq5
                          obtain ⟨c4, f4⟩ := h5.cell
                          have hl3 := h3.2
                          have hl4 := h5.2
                          replace kz := Lib.hid kz
                          clear h3 h4 h5 hia hib hir
                          refine wpAnyH_ready (rs := [8]) (by decide +kernel) (by simp) ?_
                          refine AllReadyH.cons rfl (fun K hK => ?_) AllReadyH.nil
                          go_simp
                          refine hK.out _ _ (kz_go hB3.out hq9) (fun hHeld => ?_)
                          clear hK K
                          try simp only [Act.put, List.getElem_toArray, List.getElem_cons_succ, List.getElem_cons_zero, List.setIfInBounds_toArray, List.set_cons_zero, List.set_cons_succ]
                          refine wpAnyH_ready (rs := [9]) (by decide +kernel) (by simp) ?_
                          refine AllReadyH.cons rfl (fun K hK => ?_) AllReadyH.nil
                          go_simp
                          refine hK.out _ _ (kz_go hB3.out (below_set hq9 hl4)) (fun hHeld => ?_)
                          clear hK K
                          try simp only [Act.put, List.getElem_toArray, List.getElem_cons_succ, List.getElem_cons_zero, List.setIfInBounds_toArray, List.set_cons_zero, List.set_cons_succ]
                          refine wpAnyH_ready (rs := [10]) (by decide +kernel) (by simp) ?_
                          refine AllReadyH.cons rfl (fun K hK => ?_) AllReadyH.nil
                          go_simp
                          refine hK.out _ _ (kz_go hB3.out (below_set hq9 hl4)) (fun hHeld => ?_)
                          clear hK K
                          try simp only [Act.put, List.getElem_toArray, List.getElem_cons_succ, List.getElem_cons_zero, List.setIfInBounds_toArray, List.set_cons_zero, List.set_cons_succ]
                          refine wpAnyH_done (by kernel_rfl) ?_ _
                          go_wp2_with fail
                          go_meet
                          exact ⟨_, _, _, _, _, _, _, rfl, rfl, rfl, hts, hus, kz⟩
              · as_aux_lemma =>
                  skip
                  go_simp
                  refine hK.out _ _ (kz_go hB3.out (below_alloc hq1 _)) (fun hHeld => ?_)
                  clear hK K
                  try simp only [Act.put, List.getElem_toArray, List.getElem_cons_succ, List.getElem_cons_zero, List.setIfInBounds_toArray, List.set_cons_zero, List.set_cons_succ]
                  have h4 := Bx.new hq1
                  have hb := below_alloc (Below.refl _ X1) (.cells #[.slice none 0 0] 23)
                  have hne : N3 ≠ X1.heap.size := by have := block_lt h3.1; omega
                  obtain ⟨X2, hY⟩ : ∃ Y, X1.alloc (.cells #[.slice none 0 0] 23) = Y := ⟨_, rfl⟩
                  obtain ⟨N4, hN⟩ : ∃ N, X1.heap.size = N := ⟨_, rfl⟩
                  have hq2 := below_step hq1 hb
                  rw [hY] at h4 hb hq2 ⊢
                  replace h3 := h3.below hb
                  rw [hN] at h4 hne ⊢
                  clear hb hY hN
                  refine wpAnyH_ready (rs := [1]) (by decide +kernel) (by simp) ?_
                  refine AllReadyH.cons rfl (fun K hK => ?_) AllReadyH.nil
                  · as_aux_lemma =>
                      skip
                      (go_simp; (with_reducible refine Calls.mono (cR.out _ hq2) ?_); rintro ed X3 ⟨va, ts, rfl, hts, hia, hb⟩)
                      obtain ⟨sa, ca, rfl, -⟩ := id hia
                      try go_simp
                      have hq3 := below_step hq2 hb
                      refine hK.out _ _ (kz_go hB3.out hq3) (fun hHeld => ?_)
                      clear hK K
                      try simp only [Act.put, List.getElem_toArray, List.getElem_cons_succ, List.getElem_cons_zero, List.setIfInBounds_toArray, List.set_cons_zero, List.set_cons_succ]
                      have hts := Lib.hid hts
                      have hia := ints_any0 hia
                      replace h3 := h3.below hb
                      replace h4 := h4.below hb
                      clear hb
                      refine wpAnyH_ready (rs := [3]) (by decide +kernel) (by simp) ?_
                      refine AllReadyH.cons rfl (fun K hK => ?_) AllReadyH.nil
                      · skip
                        (go_simp; (with_reducible refine Calls.mono (cL.out _ hq3) ?_); rintro ed X4 ⟨vb, us, rfl, hus, hib, hb⟩)
                        obtain ⟨sb, cb, rfl, -⟩ := id hib
                        try go_simp
                        have hq4 := below_step hq3 hb
                        refine hK.out _ _ (kz_go hB3.out hq4) (fun hHeld => ?_)
                        clear hK K
                        try simp only [Act.put, List.getElem_toArray, List.getElem_cons_succ, List.getElem_cons_zero, List.setIfInBounds_toArray, List.set_cons_zero, List.set_cons_succ]
                        have hus := Lib.hid hus
                        have hib := ints_any0 hib
                        replace hia := hia.below hb
                        replace h3 := h3.below hb
                        replace h4 := h4.below hb
                        clear hb
                        refine wpAnyH_ready (rs := [5]) (by decide +kernel) (by simp) ?_
                        refine AllReadyH.cons rfl (fun K hK => ?_) AllReadyH.nil
                        · skip
                          (go_simp; (with_reducible refine Calls.mono (cO.out _ hq4) ?_); rintro ed X5 ⟨vr, rfl, hir, hb⟩)
                          try go_simp
                          have hq5 := below_step hq4 hb
                          refine hK.out _ _ (kz_go hB3.out hq5) (fun hHeld => ?_)
                          clear hK K
                          try simp only [Act.put, List.getElem_toArray, List.getElem_cons_succ, List.getElem_cons_zero, List.setIfInBounds_toArray, List.set_cons_zero, List.set_cons_succ]
                          have hir := ints_any0 hir
                          replace hia := hia.below hb
                          replace hib := hib.below hb
                          replace h3 := h3.below hb
                          replace h4 := h4.below hb
                          clear hb
                          have kz := kz_end hq5 h3 h4 hne hv3.out hB3.out hia hib hir
                          obtain ⟨c3, f3⟩ := h3.cell
                          obtain ⟨d3, h5, hq9⟩ := Bx.put (u := .slice sa ts.length ca) h3 h4 hne hq5
                          obtain ⟨c4, f4⟩ := h5.cell
                          have hl3 := h3.2
                          have hl4 := h5.2
                          replace kz := Lib.hid kz
                          clear h3 h4 h5 hia hib hir
                          refine wpAnyH_ready (rs := [8]) (by decide +kernel) (by simp) ?_
                          refine AllReadyH.cons rfl (fun K hK => ?_) AllReadyH.nil
                          go_simp
                          refine hK.out _ _ (kz_go hB3.out hq9) (fun hHeld => ?_)
                          clear hK K
                          try simp only [Act.put, List.getElem_toArray, List.getElem_cons_succ, List.getElem_cons_zero, List.setIfInBounds_toArray, List.set_cons_zero, List.set_cons_succ]
                          refine wpAnyH_ready (rs := [9]) (by decide +kernel) (by simp) ?_
                          refine AllReadyH.cons rfl (fun K hK => ?_) AllReadyH.nil
                          go_simp
                          refine hK.out _ _ (kz_go hB3.out (below_set hq9 hl4)) (fun hHeld => ?_)
                          clear hK K
                          try simp only [Act.put, List.getElem_toArray, List.getElem_cons_succ, List.getElem_cons_zero, List.setIfInBounds_toArray, List.set_cons_zero, List.set_cons_succ]
                          refine wpAnyH_ready (rs := [10]) (by decide +kernel) (by simp) ?_
                          refine AllReadyH.cons rfl (fun K hK => ?_) AllReadyH.nil
                          go_simp
                          refine hK.out _ _ (kz_go hB3.out (below_set hq9 hl4)) (fun hHeld => ?_)
                          clear hK K
                          try simp only [Act.put, List.getElem_toArray, List.getElem_cons_succ, List.getElem_cons_zero, List.setIfInBounds_toArray, List.set_cons_zero, List.set_cons_succ]
                          refine wpAnyH_done (by kernel_rfl) ?_ _
                          go_wp2_with fail
                          go_meet
                          exact ⟨_, _, _, _, _, _, _, rfl, rfl, rfl, hts, hus, kz⟩
          · as_aux_lemma =>
              skip
              go_simp
              refine hK.out _ _ (kz_go hB3.out (below_alloc hq0 _)) (fun hHeld => ?_)
              clear hK K
              try simp only [Act.put, List.getElem_toArray, List.getElem_cons_succ, List.getElem_cons_zero, List.setIfInBounds_toArray, List.set_cons_zero, List.set_cons_succ]
              have h4 := Bx.new hq0
              have hb := below_alloc (Below.refl _ X0) (.cells #[.slice none 0 0] 23)
              obtain ⟨X1, hY⟩ : ∃ Y, X0.alloc (.cells #[.slice none 0 0] 23) = Y := ⟨_, rfl⟩
              obtain ⟨N4, hN⟩ : ∃ N, X0.heap.size = N := ⟨_, rfl⟩
              have hq1 := below_step hq0 hb
              rw [hY] at h4 hb hq1 ⊢
              rw [hN] at h4 ⊢
              clear hb hY hN
              refine wpAnyH_ready (rs := [1, 6]) (by decide +kernel) (by simp) ?_
              refine AllReadyH.cons rfl (fun K hK => ?_) (AllReadyH.cons rfl (fun K hK => ?_) AllReadyH.nil)
              · as_aux_lemma =>
                  skip
                  (go_simp; (with_reducible refine Calls.mono (cR.out _ hq1) ?_); rintro ed X2 ⟨va, ts, rfl, hts, hia, hb⟩)
                  obtain ⟨sa, ca, rfl, -⟩ := id hia
                  try go_simp
                  have hq2 := below_step hq1 hb
                  refine hK.out _ _ (kz_go hB3.out hq2) (fun hHeld => ?_)
                  clear hK K
                  try simp only [Act.put, List.getElem_toArray, List.getElem_cons_succ, List.getElem_cons_zero, List.setIfInBounds_toArray, List.set_cons_zero, List.set_cons_succ]
                  have hts := Lib.hid hts
                  have hia := ints_any0 hia
                  replace h4 := h4.below hb
                  clear hb
                  refine wpAnyH_ready (rs := [3, 6]) (by decide +kernel) (by simp) ?_
                  refine AllReadyH.cons rfl (fun K hK => ?_) (AllReadyH.cons rfl (fun K hK => ?_) AllReadyH.nil)
                  · as_aux_lemma =>
                      skip
                      (go_simp; (with_reducible refine Calls.mono (cL.out _ hq2) ?_); rintro ed X3 ⟨vb, us, rfl, hus, hib, hb⟩)
                      obtain ⟨sb, cb, rfl, -⟩ := id hib
                      try go_simp
                      have hq3 := below_step hq2 hb
                      refine hK.out _ _ (kz_go hB3.out hq3) (fun hHeld => ?_)
                      clear hK K
                      try simp only [Act.put, List.getElem_toArray, List.getElem_cons_succ, List.getElem_cons_zero, List.setIfInBounds_toArray, List.set_cons_zero, List.set_cons_succ]
                      have hus := Lib.hid hus
                      have hib := ints_any0 hib
                      replace hia := hia.below hb
                      replace h4 := h4.below hb
                      clear hb
                      refine wpAnyH_ready (rs := [5, 6]) (by decide +kernel) (by simp) ?_
                      refine AllReadyH.cons rfl (fun K hK => ?_) (AllReadyH.cons rfl (fun K hK => ?_) AllReadyH.nil)
                      · skip
                        (go_simp; (with_reducible refine Calls.mono (cO.out _ hq3) ?_); rintro ed X4 ⟨vr, rfl, hir, hb⟩)
                        try go_simp
                        have hq4 := below_step hq3 hb
                        refine hK.out _ _ (kz_go hB3.out hq4) (fun hHeld => ?_)
                        clear hK K
                        try simp only [Act.put, List.getElem_toArray, List.getElem_cons_succ, List.getElem_cons_zero, List.setIfInBounds_toArray, List.set_cons_zero, List.set_cons_succ]
                        have hir := ints_any0 hir
                        replace hia := hia.below hb
                        replace hib := hib.below hb
                        replace h4 := h4.below hb
                        clear hb
                        refine wpAnyH_ready (rs := [6]) (by decide +kernel) (by simp) ?_
                        refine AllReadyH.cons rfl (fun K hK => ?_) AllReadyH.nil
                        · skip
                          go_simp
                          refine hK.out _ _ (kz_go hB3.out (below_alloc hq4 _)) (fun hHeld => ?_)
                          clear hK K
                          try simp only [Act.put, List.getElem_toArray, List.getElem_cons_succ, List.getElem_cons_zero, List.setIfInBounds_toArray, List.set_cons_zero, List.set_cons_succ]
                          have h3 := Bx.new hq4
                          have hb := below_alloc (Below.refl _ X4) (.cells #[.slice none 0 0] 23)
                          have hne : X4.heap.size ≠ N4 := by have := block_lt h4.1; omega
                          obtain ⟨X5, hY⟩ : ∃ Y, X4.alloc (.cells #[.slice none 0 0] 23) = Y := ⟨_, rfl⟩
                          obtain ⟨N3, hN⟩ : ∃ N, X4.heap.size = N := ⟨_, rfl⟩
                          have hq5 := below_step hq4 hb
                          rw [hY] at h3 hb hq5 ⊢
                          replace hia := hia.below hb
                          replace hib := hib.below hb
                          replace hir := hir.below hb
                          replace h4 := h4.below hb
                          rw [hN] at h3 hne ⊢
                          clear hb hY hN
                          have kz := kz_end hq5 h3 h4 hne hv3.out hB3.out hia hib hir
                          obtain ⟨c3, f3⟩ := h3.cell
                          obtain ⟨d3, h5, hq9⟩ := Bx.put (u := .slice sa ts.length ca) h3 h4 hne hq5
                          obtain ⟨c4, f4⟩ := h5.cell
                          have hl3 := h3.2
                          have hl4 := h5.2
                          replace kz := Lib.hid kz
                          clear h3 h4 h5 hia hib hir
                          refine wpAnyH_ready (rs := [8]) (by decide +kernel) (by simp) ?_
                          refine AllReadyH.cons rfl (fun K hK => ?_) AllReadyH.nil
                          go_simp
                          refine hK.out _ _ (kz_go hB3.out hq9) (fun hHeld => ?_)
                          clear hK K
                          try simp only [Act.put, List.getElem_toArray, List.getElem_cons_succ, List.getElem_cons_zero, List.setIfInBounds_toArray, List.set_cons_zero, List.set_cons_succ]
                          refine wpAnyH_ready (rs := [9]) (by decide +kernel) (by simp) ?_
                          refine AllReadyH.cons rfl (fun K hK => ?_) AllReadyH.nil
                          go_simp
                          refine hK.out _ _ (kz_go hB3.out (below_set hq9 hl4)) (fun hHeld => ?_)
                          clear hK K
                          try simp only [Act.put, List.getElem_toArray, List.getElem_cons_succ, List.getElem_cons_zero, List.setIfInBounds_toArray, List.set_cons_zero, List.set_cons_succ]
                          refine wpAnyH_ready (rs := [10]) (by decide +kernel) (by simp) ?_
                          refine AllReadyH.cons rfl (fun K hK => ?_) AllReadyH.nil
                          go_simp
                          refine hK.out _ _ (kz_go hB3.out (below_set hq9 hl4)) (fun hHeld => ?_)
                          clear hK K
                          try simp only [Act.put, List.getElem_toArray, List.getElem_cons_succ, List.getElem_cons_zero, List.setIfInBounds_toArray, List.set_cons_zero, List.set_cons_succ]
                          refine wpAnyH_done (by kernel_rfl) ?_ _
                          go_wp2_with fail
                          go_meet
                          exact ⟨_, _, _, _, _, _, _, rfl, rfl, rfl, hts, hus, kz⟩
                      · skip
                        go_simp
                        refine hK.out _ _ (kz_go hB3.out (below_alloc hq3 _)) (fun hHeld => ?_)
                        clear hK K
                        try simp only [Act.put, List.getElem_toArray, List.getElem_cons_succ, List.getElem_cons_zero, List.setIfInBounds_toArray, List.set_cons_zero, List.set_cons_succ]
                        have h3 := Bx.new hq3
                        have hb := below_alloc (Below.refl _ X3) (.cells #[.slice none 0 0] 23)
                        have hne : X3.heap.size ≠ N4 := by have := block_lt h4.1; omega
                        obtain ⟨X4, hY⟩ : ∃ Y, X3.alloc (.cells #[.slice none 0 0] 23) = Y := ⟨_, rfl⟩
                        obtain ⟨N3, hN⟩ : ∃ N, X3.heap.size = N := ⟨_, rfl⟩
                        have hq4 := below_step hq3 hb
                        rw [hY] at h3 hb hq4 ⊢
                        replace hia := hia.below hb
                        replace hib := hib.below hb
                        replace h4 := h4.below hb
                        rw [hN] at h3 hne ⊢
                        clear hb hY hN
                        refine wpAnyH_ready (rs := [5]) (by decide +kernel) (by simp) ?_
                        refine AllReadyH.cons rfl (fun K hK => ?_) AllReadyH.nil
                        · skip
                          (go_simp; (with_reducible refine Calls.mono (cO.out _ hq4) ?_); rintro ed X5 ⟨vr, rfl, hir, hb⟩)
                          try go_simp
                          have hq5 := below_step hq4 hb
                          refine hK.out _ _ (kz_go hB3.out hq5) (fun hHeld => ?_)
                          clear hK K
                          try simp only [Act.put, List.getElem_toArray, List.getElem_cons_succ, List.getElem_cons_zero, List.setIfInBounds_toArray, List.set_cons_zero, List.set_cons_succ]
                          have hir := ints_any0 hir
                          replace hia := hia.below hb
                          replace hib := hib.below hb
                          replace h3 := h3.below hb
                          replace h4 := h4.below hb
                          clear hb
                          have kz := kz_end hq5 h3 h4 hne hv3.out hB3.out hia hib hir
                          obtain ⟨c3, f3⟩ := h3.cell
                          obtain ⟨d3, h5, hq9⟩ := Bx.put (u := .slice sa ts.length ca) h3 h4 hne hq5
                          obtain ⟨c4, f4⟩ := h5.cell
                          have hl3 := h3.2
                          have hl4 := h5.2
                          replace kz := Lib.hid kz
                          clear h3 h4 h5 hia hib hir
                          refine wpAnyH_ready (rs := [8]) (by decide +kernel) (by simp) ?_
                          refine AllReadyH.cons rfl (fun K hK => ?_) AllReadyH.nil
                          go_simp
                          refine hK.out _ _ (kz_go hB3.out hq9) (fun hHeld => ?_)
                          clear hK K
                          try simp only [Act.put, List.getElem_toArray, List.getElem_cons_succ, List.getElem_cons_zero, List.setIfInBounds_toArray, List.set_cons_zero, List.set_cons_succ]
                          refine wpAnyH_ready (rs := [9]) (by decide +kernel) (by simp) ?_
                          refine AllReadyH.cons rfl (fun K hK => ?_) AllReadyH.nil
                          go_simp
                          refine hK.out _ _ (kz_go hB3.out (below_set hq9 hl4)) (fun hHeld => ?_)
                          clear hK K
                          try simp only [Act.put, List.getElem_toArray, List.getElem_cons_succ, List.getElem_cons_zero, List.setIfInBounds_toArray, List.set_cons_zero, List.set_cons_succ]
                          refine wpAnyH_ready (rs := [10]) (by decide +kernel) (by simp) ?_
                          refine AllReadyH.cons rfl (fun K hK => ?_) AllReadyH.nil
                          go_simp
                          refine hK.out _ _ (kz_go hB3.out (below_set hq9 hl4)) (fun hHeld => ?_)
                          clear hK K
                          try simp only [Act.put, List.getElem_toArray, List.getElem_cons_succ, List.getElem_cons_zero, List.setIfInBounds_toArray, List.set_cons_zero, List.set_cons_succ]
                          refine wpAnyH_done (by kernel_rfl) ?_ _
                          go_wp2_with fail
                          go_meet
                          exact ⟨_, _, _, _, _, _, _, rfl, rfl, rfl, hts, hus, kz⟩
                  · as_aux_lemma =>
                      skip
                      go_simp
                      refine hK.out _ _ (kz_go hB3.out (below_alloc hq2 _)) (fun hHeld => ?_)
                      clear hK K
                      try simp only [Act.put, List.getElem_toArray, List.getElem_cons_succ, List.getElem_cons_zero, List.setIfInBounds_toArray, List.set_cons_zero, List.set_cons_succ]
                      have h3 := Bx.new hq2
                      have hb := below_alloc (Below.refl _ X2) (.cells #[.slice none 0 0] 23)
                      have hne : X2.heap.size ≠ N4 := by have := block_lt h4.1; omega
                      obtain ⟨X3, hY⟩ : ∃ Y, X2.alloc (.cells #[.slice none 0 0] 23) = Y := ⟨_, rfl⟩
                      obtain ⟨N3, hN⟩ : ∃ N, X2.heap.size = N := ⟨_, rfl⟩
                      have hq3 := below_step hq2 hb
                      rw [hY] at h3 hb hq3 ⊢
                      replace hia := hia.below hb
                      replace h4 := h4.below hb
                      rw [hN] at h3 hne ⊢
                      clear hb hY hN
                      refine wpAnyH_ready (rs := [3]) (by decide +kernel) (by simp) ?_
                      refine AllReadyH.cons rfl (fun K hK => ?_) AllReadyH.nil
                      · skip
                        (go_simp; (with_reducible refine Calls.mono (cL.out _ hq3) ?_); rintro ed X4 ⟨vb, us, rfl, hus, hib, hb⟩)
                        obtain ⟨sb, cb, rfl, -⟩ := id hib
                        try go_simp
                        have hq4 := below_step hq3 hb
                        refine hK.out _ _ (kz_go hB3.out hq4) (fun hHeld => ?_)
                        clear hK K
                        try simp only [Act.put, List.getElem_toArray, List.getElem_cons_succ, List.getElem_cons_zero, List.setIfInBounds_toArray, List.set_cons_zero, List.set_cons_succ]
                        have hus := Lib.hid hus
                        have hib := ints_any0 hib
                        replace hia := hia.below hb
                        replace h3 := h3.below hb
                        replace h4 := h4.below hb
                        clear hb
                        refine wpAnyH_ready (rs := [5]) (by decide +kernel) (by simp) ?_
                        refine AllReadyH.cons rfl (fun K hK => ?_) AllReadyH.nil
                        · skip
                          (go_simp; (with_reducible refine Calls.mono (cO.out _ hq4) ?_); rintro ed X5 ⟨vr, rfl, hir, hb⟩)
                          try go_simp
                          have hq5 := below_step hq4 hb
                          refine hK.out _ _ (kz_go hB3.out hq5) (fun hHeld => ?_)
                          clear hK K
                          try simp only [Act.put, List.getElem_toArray, List.getElem_cons_succ, List.getElem_cons_zero, List.setIfInBounds_toArray, List.set_cons_zero, List.set_cons_succ]
                          have hir := ints_any0 hir
                          replace hia := hia.below hb
                          replace hib := hib.below hb
                          replace h3 := h3.below hb
                          replace h4 := h4.below hb
                          clear hb
                          have kz := kz_end hq5 h3 h4 hne hv3.out hB3.out hia hib hir
                          obtain ⟨c3, f3⟩ := h3.cell
                          obtain ⟨d3, h5, hq9⟩ := Bx.put (u := .slice sa ts.length ca) h3 h4 hne hq5
                          obtain ⟨c4, f4⟩ := h5.cell
                          have hl3 := h3.2
                          have hl4 := h5.2
                          replace kz := Lib.hid kz
                          clear h3 h4 h5 hia hib hir
                          refine wpAnyH_ready (rs := [8]) (by decide +kernel) (by simp) ?_
                          refine AllReadyH.cons rfl (fun K hK => ?_) AllReadyH.nil
                          go_simp
                          refine hK.out _ _ (kz_go hB3.out hq9) (fun hHeld => ?_)
                          clear hK K
                          try simp only [Act.put, List.getElem_toArray, List.getElem_cons_succ, List.getElem_cons_zero, List.setIfInBounds_toArray, List.set_cons_zero, List.set_cons_succ]
                          refine wpAnyH_ready (rs := [9]) (by decide +kernel) (by simp) ?_
                          refine AllReadyH.cons rfl (fun K hK => ?_) AllReadyH.nil
                          go_simp
                          refine hK.out _ _ (kz_go hB3.out (below_set hq9 hl4)) (fun hHeld => ?_)
                          clear hK K
                          try simp only [Act.put, List.getElem_toArray, List.getElem_cons_succ, List.getElem_cons_zero, List.setIfInBounds_toArray, List.set_cons_zero, List.set_cons_succ]
                          refine wpAnyH_ready (rs := [10]) (by decide +kernel) (by simp) ?_
                          refine AllReadyH.cons rfl (fun K hK => ?_) AllReadyH.nil
                          go_simp
                          refine hK.out _ _ (kz_go hB3.out (below_set hq9 hl4)) (fun hHeld => ?_)
                          clear hK K
                          try simp only [Act.put, List.getElem_toArray, List.getElem_cons_succ, List.getElem_cons_zero, List.setIfInBounds_toArray, List.set_cons_zero, List.set_cons_succ]
                          refine wpAnyH_done (by kernel_rfl) ?_ _
                          go_wp2_with fail
                          go_meet
                          exact ⟨_, _, _, _, _, _, _, rfl, rfl, rfl, hts, hus, kz⟩
              · as_aux_lemma =>
                  skip
                  go_simp
                  refine hK.out _ _ (kz_go hB3.out (below_alloc hq1 _)) (fun hHeld => ?_)
                  clear hK K
                  try simp only [Act.put, List.getElem_toArray, List.getElem_cons_succ, List.getElem_cons_zero, List.setIfInBounds_toArray, List.set_cons_zero, List.set_cons_succ]
                  have h3 := Bx.new hq1
                  have hb := below_alloc (Below.refl _ X1) (.cells #[.slice none 0 0] 23)
                  have hne : X1.heap.size ≠ N4 := by have := block_lt h4.1; omega
                  obtain ⟨X2, hY⟩ : ∃ Y, X1.alloc (.cells #[.slice none 0 0] 23) = Y := ⟨_, rfl⟩
                  obtain ⟨N3, hN⟩ : ∃ N, X1.heap.size = N := ⟨_, rfl⟩
                  have hq2 := below_step hq1 hb
                  rw [hY] at h3 hb hq2 ⊢
                  replace h4 := h4.below hb
                  rw [hN] at h3 hne ⊢
                  clear hb hY hN
                  refine wpAnyH_ready (rs := [1]) (by decide +kernel) (by simp) ?_
                  refine AllReadyH.cons rfl (fun K hK => ?_) AllReadyH.nil
                  · as_aux_lemma =>
                      skip
                      (go_simp; (with_reducible refine Calls.mono (cR.out _ hq2) ?_); rintro ed X3 ⟨va, ts, rfl, hts, hia, hb⟩)
                      obtain ⟨sa, ca, rfl, -⟩ := id hia
                      try go_simp
                      have hq3 := below_step hq2 hb
                      refine hK.out _ _ (kz_go hB3.out hq3) (fun hHeld => ?_)
                      clear hK K
                      try simp only [Act.put, List.getElem_toArray, List.getElem_cons_succ, List.getElem_cons_zero, List.setIfInBounds_toArray, List.set_cons_zero, List.set_cons_succ]
                      have hts := Lib.hid hts
                      have hia := ints_any0 hia
                      replace h3 := h3.below hb
                      replace h4 := h4.below hb
                      clear hb
                      refine wpAnyH_ready (rs := [3]) (by decide +kernel) (by simp) ?_
                      refine AllReadyH.cons rfl (fun K hK => ?_) AllReadyH.nil
                      · skip
                        (go_simp; (with_reducible refine Calls.mono (cL.out _ hq3) ?_); rintro ed X4 ⟨vb, us, rfl, hus, hib, hb⟩)
                        obtain ⟨sb, cb, rfl, -⟩ := id hib
                        try go_simp
                        have hq4 := below_step hq3 hb
                        refine hK.out _ _ (kz_go hB3.out hq4) (fun hHeld => ?_)
                        clear hK K
                        try simp only [Act.put, List.getElem_toArray, List.getElem_cons_succ, List.getElem_cons_zero, List.setIfInBounds_toArray, List.set_cons_zero, List.set_cons_succ]
                        have hus := Lib.hid hus
                        have hib := ints_any0 hib
                        replace hia := hia.below hb
                        replace h3 := h3.below hb
                        replace h4 := h4.below hb
                        clear hb
                        refine wpAnyH_ready (rs := [5]) (by decide +kernel) (by simp) ?_
                        refine AllReadyH.cons rfl (fun K hK => ?_) AllReadyH.nil
                        · skip
                          (go_simp; (with_reducible refine Calls.mono (cO.out _ hq4) ?_); rintro ed X5 ⟨vr, rfl, hir, hb⟩)
                          try go_simp
                          have hq5 := below_step hq4 hb
                          refine hK.out _ _ (kz_go hB3.out hq5) (fun hHeld => ?_)
                          clear hK K
                          try simp only [Act.put, List.getElem_toArray, List.getElem_cons_succ, List.getElem_cons_zero, List.setIfInBounds_toArray, List.set_cons_zero, List.set_cons_succ]
                          have hir := ints_any0 hir
                          replace hia := hia.below hb
                          replace hib := hib.below hb
                          replace h3 := h3.below hb
                          replace h4 := h4.below hb
                          clear hb
                          have kz := kz_end hq5 h3 h4 hne hv3.out hB3.out hia hib hir
                          obtain ⟨c3, f3⟩ := h3.cell
                          obtain ⟨d3, h5, hq9⟩ := Bx.put (u := .slice sa ts.length ca) h3 h4 hne hq5
                          obtain ⟨c4, f4⟩ := h5.cell
                          have hl3 := h3.2
                          have hl4 := h5.2
                          replace kz := Lib.hid kz
                          clear h3 h4 h5 hia hib hir
                          refine wpAnyH_ready (rs := [8]) (by decide +kernel) (by simp) ?_
                          refine AllReadyH.cons rfl (fun K hK => ?_) AllReadyH.nil
                          go_simp
                          refine hK.out _ _ (kz_go hB3.out hq9) (fun hHeld => ?_)
                          clear hK K
                          try simp only [Act.put, List.getElem_toArray, List.getElem_cons_succ, List.getElem_cons_zero, List.setIfInBounds_toArray, List.set_cons_zero, List.set_cons_succ]
                          refine wpAnyH_ready (rs := [9]) (by decide +kernel) (by simp) ?_
                          refine AllReadyH.cons rfl (fun K hK => ?_) AllReadyH.nil
                          go_simp
                          refine hK.out _ _ (kz_go hB3.out (below_set hq9 hl4)) (fun hHeld => ?_)
                          clear hK K
                          try simp only [Act.put, List.getElem_toArray, List.getElem_cons_succ, List.getElem_cons_zero, List.setIfInBounds_toArray, List.set_cons_zero, List.set_cons_succ]
                          refine wpAnyH_ready (rs := [10]) (by decide +kernel) (by simp) ?_
                          refine AllReadyH.cons rfl (fun K hK => ?_) AllReadyH.nil
                          go_simp
                          refine hK.out _ _ (kz_go hB3.out (below_set hq9 hl4)) (fun hHeld => ?_)
                          clear hK K
                          try simp only [Act.put, List.getElem_toArray, List.getElem_cons_succ, List.getElem_cons_zero, List.setIfInBounds_toArray, List.set_cons_zero, List.set_cons_succ]
                          refine wpAnyH_done (by kernel_rfl) ?_ _
                          go_wp2_with fail
                          go_meet
                          exact ⟨_, _, _, _, _, _, _, rfl, rfl, rfl, hts, hus, kz⟩
      case rest =>
        clear g0 g1 g2 g3 g4 g5 g6 g7 g8 cR cL cO hB3
        obtain ⟨p3, p4, va, vb, vr, ts, us, rfl, rfl, rfl, hts, hus, hk⟩ := hcut
        have hmf : ∀ (fn : Fn) (first cap : Array Value) (w : World), (Instr.makeFunc fn first cap).run Try.prog w = .ok (.func fn first cap) w := fun _ _ _ _ => rfl
        obtain ⟨rs, hrs⟩ : ∃ rs, rootsL V0.gl V0.gs = rs := ⟨_, rfl⟩
        rw [hrs] at hk
        obtain ⟨sa, ca, rfl, hmN, -⟩ := id hk.out.a
        obtain ⟨sb, cb, rfl, hmU, -⟩ := id hk.out.b
        obtain ⟨sr, cr, rfl, hmR, -⟩ := id hk.out.r
        obtain ⟨N, hN⟩ : ∃ N, ts.length = N := ⟨_, rfl⟩
        obtain ⟨U, hU⟩ : ∃ U, us.length = U := ⟨_, rfl⟩
        obtain ⟨R, hR⟩ : ∃ R, rs.length = R := ⟨_, rfl⟩
        rw [hN] at hk hmN
        rw [hU] at hk hmU
        rw [hR] at hk hmR
        try rw [hN]
        try rw [hU]
        try rw [hR]
        have m40 : m ≤ 40 := by rw [← hm.out]; exact hf.out.os
        obtain ⟨KP, hKP⟩ : ∃ KP : World → Prop, ∀ W, KP W ↔ Kz w3 W V0 (.slice sg l cg) (.slice ss g cs) (.slice so m co) (.slice sa N ca) (.slice sb U cb) (.slice sr R cr) ts us rs p p3 p4 := ⟨fun W => Kz w3 W V0 (.slice sg l cg) (.slice ss g cs) (.slice so m co) (.slice sa N ca) (.slice sb U cb) (.slice sr R cr) ts us rs p p3 p4, fun W => Iff.rfl⟩
        replace hKP := Lib.hid hKP
        replace hk : Hid (KP wc) := Lib.hid ((hKP.out wc).2 hk.out)
        have hKb : Hid (∀ W W', KP W → Below W.heap.size W W' → KP W') := Lib.hid fun W W' h hb => (hKP.out W').2 (((hKP.out W).1 h).below hb)
        have hKl : Hid (∀ W, KP W → Below w.heap.size w W) := Lib.hid fun W h => below_step hb3.out ((hKP.out W).1 h).bel
        clear hb3
        have hro : Hid (∀ i, i < R → rs.getD i 0 ≠ 0 ∧ (decide (rs.getD i 0 ∈ ts) != decide (rs.getD i 0 ∈ us)) = true) := Lib.hid fun i hi => by
          have hmem : rs.getD i 0 ∈ rs := getD_mem 0 (by omega)
          rw [← hrs] at hmem ⊢
          exact ⟨roots_nz hmem, named_ok hts.out hus.out (roots_nz hmem) (.inl hmem)⟩
        have hat : Hid (∀ x, x ∈ ts → ∃ k, k < m ∧ fnd V0.os x = (k : Int) ∧ (V0.os.getD k o0).1 = x ∧ (V0.os.getD k o0).2.1 = slo V0.os x) := Lib.hid fun x hx => by
          obtain ⟨k, h1, h2, h3, h4⟩ := at_some hts.out hx
          exact ⟨k, by rw [← hm.out]; exact h1, h2, h3, h4⟩
        have hsl : Hid (∀ x, x ∈ ts → ∀ y, y ∈ slo V0.os x → y = 0 ∨ (decide (y ∈ ts) != decide (y ∈ us)) = true) := Lib.hid fun x hx y hy => by
          by_cases e : y = 0
          · exact .inl e
          · exact .inr (named_ok hts.out hus.out e (.inr ⟨x, (hts.out.mem x).1 hx, hy⟩))
        have cok : Hid (∀ W x, KP W → (x = 0 ∨ (decide (x ∈ ts) != decide (x ∈ us)) = true) → Calls Try.prog 37 #[.int .i64 x, .pointer (some ⟨p3, 0, none⟩), .pointer (some ⟨p4, 0, none⟩)] W (AnsB (.bool true) W)) := Lib.hid fun W x hW hx => by
          have hW := (hKP.out W).1 hW
          exact ok_any hW.a hW.b hW.c3 hW.c4 hx
        have cfi : Hid (∀ W x, KP W → Calls Try.prog 22 #[(.agg #[.int .i64 V0.ph, .int .i64 V0.cy, .int .i64 V0.ck, .slice sg l cg, .slice ss g cs, .slice so m co, .int .i64 V0.gr, .int .i64 V0.nt, .int .i64 V0.rt]), .int .i64 x] W fun e w' => e = .returned (.int .i64 (fnd V0.os x)) ∧ Below W.heap.size W w') := Lib.hid fun W x hW => find_any ((hKP.out W).1 hW).v x
        have cpa : Hid (∀ W x, KP W → (x ∈ ts ∨ x ∈ us) → Calls Try.prog 39 #[(.agg #[.int .i64 V0.ph, .int .i64 V0.cy, .int .i64 V0.ck, .slice sg l cg, .slice ss g cs, .slice so m co, .int .i64 V0.gr, .int .i64 V0.nt, .int .i64 V0.rt]), .int .i64 x] W (PathV W V0 x)) := Lib.hid fun W x hW hx => path_any ((hKP.out W).1 hW).v hf.out (hx.elim (wf_rch h3.out.wf hts.out) (wf_lost h3.out.wf hus.out))
        have hbo : Hid (∀ W, KP W → ∀ k, k < m → ∃ b off sp2 p2, so = some ⟨b, off, none⟩ ∧ W.cell? ⟨b, off + k * 3, none⟩ = some (.int .i64 (V0.os.getD k o0).1) ∧ W.cell? ⟨b, off + k * 3 + 1, none⟩ = some (.slice sp2 (V0.os.getD k o0).2.1.length p2) ∧ Ints W Any (.slice sp2 (V0.os.getD k o0).2.1.length p2) (V0.os.getD k o0).2.1 ∧ (V0.os.getD k o0).2.1.length ≤ 300) := Lib.hid fun W hW k hk => by
          have hW := (hKP.out W).1 hW
          obtain ⟨sp', cap', e, _, hos⟩ := hW.v.os
          obtain ⟨b, off, sv, e1, _, e3, e4, e5, e6⟩ := hos k (by rw [hm.out]; exact hk)
          obtain ⟨sp2, p2, rfl, _⟩ := id e6
          cases e
          exact ⟨b, off, sp2, p2, e1, e3, e4, e6, hf.out.sl _ (getD_mem o0 (by rw [hm.out]; exact hk))⟩
        have Nx : (N : Int) ≤ 9223372036854775807 := by omega
        have Ux : (U : Int) ≤ 9223372036854775807 := by omega
        replace hmN := Lib.hid hmN
        replace hmU := Lib.hid hmU
        replace hN := Lib.hid hN
        replace hU := Lib.hid hU
        replace hR := Lib.hid hR
        replace hrs := Lib.hid hrs
        replace hO := Lib.hid hO
        clear hO
        go_wp2_with fail
        go_loopw [2, 7] (fun u2 u7 wr => ∃ i : Nat, u7 = .int .i64 i ∧ i ≤ R ∧ Hid (KP wr)) (fun _ u7 _ => (R - (RowKit.intOf u7).toNat))
        case atStart => exact ⟨0, rfl, by omega, hk⟩
        case round =>
          as_aux_lemma =>
            clear hk
            obtain ⟨i, rfl, j1, hk⟩ := hrel
            have ii0 : (0 : Int) ≤ (i : Int) := by omega
            by_cases hi : i < R
            · have i2 : (i : Int) < (R : Int) := by omega
              obtain ⟨h0, h1⟩ := hro.out i hi
              obtain ⟨sp', cap', e, _, hcl⟩ := ((hKP.out wr).1 hk.out).r
              obtain ⟨b, off, e1, _, _, e2⟩ := hcl i (by rw [hR.out]; exact hi)
              cases e
              subst e1
              have c1 := cok.out wr (rs.getD i 0) hk.out (.inr h1)
              generalize rs.getD i 0 = x at h0 h1 e2 c1
              have h0b : (x == 0) = false := beq_eq_false_iff_ne.2 h0
              clear h1 hcl
              go_wp2_with fail
              with_reducible refine Calls.mono c1 ?_
              rintro ed w4 ⟨rfl, hb⟩
              have hk2 := Lib.hid (hKb.out _ _ hk.out hb)
              clear c1 hb hk
              go_wp2_with fail
              go_roundw
              case rel => exact ⟨i + 1, by go_num, by omega, hk2⟩
              case measure => simp [RowKit.intOf]; omega
            · obtain rfl : R = i := by omega
              have i2 : ¬ ((R : Int) < (R : Int)) := by omega
              clear hi hro
              go_wp2_with fail
              go_loopw [2, 8, 9, 10, 11, 12, 13] (fun u2 u8 u9 u10 u11 u12 u13 wx => ∃ i : Nat, u8 = .int .i64 i ∧ i ≤ N ∧ Hid (KP wx)) (fun _ u8 _ _ _ _ _ _ => (N - (RowKit.intOf u8).toNat))
              case atStart => exact ⟨0, rfl, by omega, hk⟩
              case round =>
                as_aux_lemma =>
                  clear hk
                  obtain ⟨i, rfl, j2, hk⟩ := hrel
                  have ii0 : (0 : Int) ≤ (i : Int) := by omega
                  have c3 := ((hKP.out wr).1 hk.out).c3
                  by_cases hi : i < N
                  · have i2 : (i : Int) < (N : Int) := by omega
                    have hxm : Hid (ts.getD i 0 ∈ ts) := Lib.hid (getD_mem 0 (by rw [hN.out]; exact hi))
                    obtain ⟨x, hx⟩ : ∃ x, ts.getD i 0 = x := ⟨_, rfl⟩
                    rw [hx] at hxm
                    have hca : Hid (∀ W, KP W → ∃ b off, sa = some ⟨b, off, none⟩ ∧ W.cell? ⟨b, off + i, none⟩ = some (.int .i64 x)) := Lib.hid fun W hW => by
                      have hW := (hKP.out W).1 hW
                      obtain ⟨sp', cap', e, _, hcl⟩ := hW.a
                      obtain ⟨b, off, e1, _, _, e2⟩ := hcl i (by rw [hN.out]; exact hi)
                      cases e
                      rw [hx] at e2
                      exact ⟨b, off, e1, e2⟩
                    obtain ⟨k, km, hfk, hk1, hk2⟩ := hat.out x hxm.out
                    have k0 : (0 : Int) ≤ (k : Int) := by omega
                    have km2 : (k : Int) < (m : Int) := by omega
                    have kd1 : decide ((k : Int) < 0) = false := decide_eq_false (by omega)
                    have kd2 : decide ((m : Int) ≤ (k : Int)) = false := decide_eq_false (by omega)
                    have kp1 : ¬ ((k : Int) < 0) := by omega
                    have kp2 : ¬ ((m : Int) ≤ (k : Int)) := by omega
                    replace hx := Lib.hid hx
                    go_upto_region 13 with fail
                    go_cut [9] from 51 to 180 (fun u9 wx => u9 = .int .i64 (k : Int) ∧ Hid (KP wx))
                    case first =>
                      as_aux_lemma =>
                        obtain ⟨b, off, rfl, e2⟩ := hca.out wr hk.out
                        obtain ⟨g0, g1, g2, g3, g4, g5, g6, g7, g8⟩ := ((hKP.out wr).1 hk.out).box
                        have hkd := Lib.hid (hKb.out _ _ hk.out (Below.refl _ _).drew)
                        have cf := cfi.out wr.drew x hkd.out
                        rw [hfk] at cf
                        go_region_with (first | (go_at_call 22; ((with_reducible refine Calls.mono cf ?_); rintro e w5 ⟨rfl, hb5⟩; have hk6 := Lib.hid (hKb.out _ _ hkd.out hb5); clear hb5)))
                        all_goals
                          go_wp2_with fail
                          go_meet
                          exact ⟨rfl, hk6⟩
                    case rest =>
                      obtain ⟨rfl, hkc⟩ := hcut
                      clear hk c3
                      obtain ⟨b, off, rfl, e2⟩ := hca.out wc hkc.out
                      obtain ⟨b2, off2, sp2, p2, rfl, o1, o2, hzi, h300⟩ := hbo.out wc hkc.out k km
                      obtain ⟨g0, g1, g2, g3, g4, g5, g6, g7, g8⟩ := ((hKP.out wc).1 hkc.out).box
                      have c3 := ((hKP.out wc).1 hkc.out).c3
                      rw [hk1] at o1
                      have hxx : (x == x) = true := beq_self_eq_true x
                      have hxn : (x != x) = false := by unfold bne; rw [hxx]; rfl
                      go_upto_region 14 with fail
                      go_big_quiet (fail)
                      clear o1 o2 hzi e2 g0 g1 g2 g3 g4 g5 g6 g7 g8 c3 hxx hxn
                      obtain ⟨n, hn⟩ : ∃ n, (V0.os.getD k o0).2.1.length = n := ⟨_, rfl⟩
                      rw [hn] at h300
                      have hgs : Hid (∀ j, j < n → (V0.os.getD k o0).2.1.getD j 0 = 0 ∨ (decide ((V0.os.getD k o0).2.1.getD j 0 ∈ ts) != decide ((V0.os.getD k o0).2.1.getD j 0 ∈ us)) = true) := Lib.hid fun j hj => hsl.out x hxm.out _ (by rw [← hk2]; exact getD_mem 0 (by rw [hn]; exact hj))
                      have hsx : Hid ((V0.os.getD k o0).2.1 = slo V0.os x) := Lib.hid hk2
                      replace hk1 := Lib.hid hk1
                      replace hn := Lib.hid hn
                      clear hk2
                      go_wp2_with fail
                      go_loopw [2, 10] (fun u2 u10 wx => ∃ j : Nat, u10 = .int .i64 j ∧ j ≤ n ∧ Hid (KP wx)) (fun _ u10 _ => (n - (RowKit.intOf u10).toNat))
                      case atStart => exact ⟨0, rfl, by omega, Lib.hid (hKb.out _ _ hkc.out (below_drewN (Below.refl _ _) _))⟩
                      case round =>
                        as_aux_lemma =>
                          clear hkc
                          obtain ⟨j, rfl, jn, hk⟩ := hrel
                          have jj0 : (0 : Int) ≤ (j : Int) := by omega
                          obtain ⟨b3, off3, sp2, p2, e5, o1, o2, hzi, -⟩ := hbo.out wr hk.out k km
                          cases e5
                          rw [hn.out] at o2 hzi
                          have g5 := ((hKP.out wr).1 hk.out).box.2.2.2.2.2.1
                          by_cases hj : j < n
                          · have j3 : (j : Int) < (n : Int) := by omega
                            obtain ⟨sp', cap', e, _, hcl⟩ := hzi
                            obtain ⟨b4, off4, e1, _, _, e4⟩ := hcl j (by rw [hn.out]; exact hj)
                            cases e
                            subst e1
                            have c1 := cok.out wr ((V0.os.getD k o0).2.1.getD j 0) hk.out (hgs.out j hj)
                            generalize (V0.os.getD k o0).2.1.getD j 0 = y at e4 c1
                            clear hcl o1
                            go_wp2_with fail
                            with_reducible refine Calls.mono c1 ?_
                            rintro ed w4 ⟨rfl, hb⟩
                            have hk3 := Lib.hid (hKb.out _ _ hk.out hb)
                            clear c1 hb hk o2 g5 e4
                            go_wp2_with fail
                            go_roundw
                            case rel => exact ⟨j + 1, by go_num, by omega, hk3⟩
                            case measure => simp [RowKit.intOf]; omega
                          · obtain rfl : n = j := by omega
                            have j3 : ¬ ((n : Int) < (n : Int)) := by omega
                            clear hj hgs
                            have c3 := ((hKP.out wr).1 hk.out).c3
                            go_upto_region 21 with fail
                            clear o1 o2 hzi g5
                            go_cut [11] from 51 to 180 (fun u11 wx => ∃ (T : List Int) (sp : Option Addr) (cp : Nat), u11 = .slice sp T.length cp ∧ Hid (0 < T.length ∧ T.length ≤ N ∧ T.getD (T.length - 1) 0 = x ∧ T.getD 0 0 ∈ rs ∧ (∀ j, j < T.length → T.getD j 0 ∈ ts) ∧ ∀ j, 0 < j → j < T.length → T.getD j 0 ∈ slo V0.os (T.getD (j - 1) 0)) ∧ Hid (KP wx) ∧ Hid (Ints wx Any (.slice sp T.length cp) T))
                            case first =>
                              as_aux_lemma =>
                                obtain ⟨b5, off5, e5, e2⟩ := hca.out wr hk.out
                                cases e5
                                obtain ⟨g0, g1, g2, g3, g4, g5, g6, g7, g8⟩ := ((hKP.out wr).1 hk.out).box
                                have hkd := Lib.hid (hKb.out _ _ hk.out (Below.refl _ _).drew)
                                have cq := cpa.out wr.drew x hkd.out (.inl hxm.out)
                                unfold PathV at cq
                                go_region_with (first | (go_at_call 39; ((with_reducible refine Calls.mono cq ?_); rintro e w5 ⟨v, T, L, lost, mm, pre, rfl, hF, hRR, hi2, hb5⟩; have hk6 := Lib.hid (hKb.out _ _ hkd.out hb5); have hpi := Lib.hid (path_in hF hRR hts.out hxm.out); obtain ⟨sp5, cp5, rfl, -⟩ := id hi2; have hi3 := Lib.hid (ints_any0 hi2); clear hF hRR hi2 hb5)))
                                all_goals
                                  go_wp2_with fail
                                  go_meet
                                  obtain ⟨q1, q2, q3, q4, q5, q6⟩ := hpi.out
                                  exact ⟨_, _, _, rfl, Lib.hid ⟨q1, by rw [← hN.out]; exact q2, q3, by rw [← hrs.out]; exact q4, q5, q6⟩, hk6, hi3⟩
                            case rest =>
                              obtain ⟨T, sp, cp, rfl, hT, hkc, hiT⟩ := hcut
                              clear hk c3
                              obtain ⟨t1, t2, t3, t4, t5, t6⟩ := hT.out
                              obtain ⟨M, hM⟩ : ∃ M, T.length = M := ⟨_, rfl⟩
                              rw [hM] at t1 t2 t3 t5 t6 hiT
                              rw [hM]
                              obtain ⟨bT, offT, eT, _, _, tz⟩ := (hiT.out.cellAt 0 (by rw [hM]; exact t1))
                              cases eT
                              rw [Nat.add_zero] at tz
                              replace t3 := Lib.hid t3
                              replace t4 := Lib.hid t4
                              replace t5 := Lib.hid t5
                              replace t6 := Lib.hid t6
                              replace hM := Lib.hid hM
                              clear hT
                              obtain ⟨q, hq⟩ : ∃ q, M = q + 1 := ⟨M - 1, by omega⟩
                              have q0 : (0 : Int) ≤ (q : Int) := by omega
                              have qM : (q : Int) < (M : Int) := by omega
                              have z4 : IntKind.i64.wrap ((M : Int) - 1) = (q : Int) := by rw [IntKind.wrap_i64]; have := hmN.out; omega
                              have z6 : (M : Int) - 1 = (q : Int) := by omega
                              have z7 : IntKind.i64.wrap (q : Int) = (q : Int) := by rw [IntKind.wrap_i64]; have := hmN.out; omega
                              have M0 : (0 : Int) < (M : Int) := by omega
                              have Mx : (M : Int) ≤ 9223372036854775807 := by have := hmN.out; omega
                              have me0 : ((M : Int) == 0) = false := by simp; omega
                              have me1 : ¬ ((M : Int) = 0) := by omega
                              have mn0 : decide ((N : Int) < (M : Int)) = false := decide_eq_false (by omega)
                              have mn1 : ¬ ((N : Int) < (M : Int)) := by omega
                              replace hq := Lib.hid hq
                              go_upto_region 22 with fail
                              go_cut [144] from 51 to 180 (fun u144 wx => u144 = .bool false ∧ Hid (KP wx) ∧ Hid (Ints wx Any (.slice (some ⟨bT, offT, none⟩) M cp) T))
                              case first =>
                                as_aux_lemma =>
                                  obtain ⟨b5, off5, e5, e2⟩ := hca.out wc hkc.out
                                  cases e5
                                  have c3 := ((hKP.out wc).1 hkc.out).c3
                                  obtain ⟨bq, offq, eq, _, _, tq⟩ := (hiT.out.cellAt q (by rw [hM.out]; have := hq.out; omega))
                                  cases eq
                                  rw [show T.getD q 0 = x from by have := t3.out; rw [hq.out] at this; exact this] at tq
                                  obtain ⟨y, hy⟩ : ∃ y, T.getD 0 0 = y := ⟨_, rfl⟩
                                  have chn : Hid (∀ j, Calls Try.prog 38 #[.slice sr R cr, .int .i64 y] (wc.drewN j) (Still (.bool true) (wc.drewN j))) := Lib.hid fun j => by
                                    have := has_any y ((((hKP.out _).1 hkc.out).r).below (below_drewN (Below.refl wc.heap.size wc) j))
                                    rw [decide_eq_true (show y ∈ rs by rw [← hy]; exact t4.out)] at this
                                    exact this
                                  rw [hy] at tz
                                  clear hy
                                  have hxx : (x == x) = true := beq_self_eq_true x
                                  have hxn : (x != x) = false := by unfold bne; rw [hxx]; rfl
                                  go_big_quiet (first | (go_at_call 38; exact quiet_still (chn.out _)))
                                  go_wp2_with fail
                                  go_meet
                                  exact ⟨rfl, Lib.hid (hKb.out _ _ hkc.out (below_drewN (Below.refl _ _) _)), Lib.hid (hiT.out.below (below_drewN (Below.refl _ _) _))⟩
                              case rest =>
                                obtain ⟨rfl, hkc2, hiT2⟩ := hcut
                                clear hkc hiT tz
                                go_wp2_with fail
                                go_loopw [2, 12, 13] (fun u2 u12 u13 wx => ∃ j : Nat, u12 = .int .i64 j ∧ 1 ≤ j ∧ j ≤ M ∧ Hid (KP wx) ∧ Hid (Ints wx Any (.slice (some ⟨bT, offT, none⟩) M cp) T)) (fun _ u12 _ _ => (M - (RowKit.intOf u12).toNat))
                                case atStart => exact ⟨1, rfl, by omega, by omega, hkc2, hiT2⟩
                                case round =>
                                  as_aux_lemma =>
                                    clear hkc2 hiT2
                                    obtain ⟨j, rfl, jn1, jn, hk, hiT⟩ := hrel
                                    have jj0 : (0 : Int) ≤ (j : Int) := by omega
                                    by_cases hj : j < M
                                    · have j3 : (j : Int) < (M : Int) := by omega
                                      obtain ⟨e, he⟩ : ∃ e, j = e + 1 := ⟨j - 1, by omega⟩
                                      have ee0 : (0 : Int) ≤ (e : Int) := by omega
                                      have eM : (e : Int) < (M : Int) := by omega
                                      have y4 : IntKind.i64.wrap ((j : Int) - 1) = (e : Int) := by rw [IntKind.wrap_i64]; have := hmN.out; omega
                                      have y6 : (j : Int) - 1 = (e : Int) := by omega
                                      have y7 : IntKind.i64.wrap (e : Int) = (e : Int) := by rw [IntKind.wrap_i64]; have := hmN.out; omega
                                      have hym := t5.out e (by omega)
                                      have hch := t6.out j (by omega) hj
                                      rw [show j - 1 = e by omega] at hch
                                      obtain ⟨y, hy⟩ : ∃ y, T.getD e 0 = y := ⟨_, rfl⟩
                                      rw [hy] at hym hch
                                      replace hym := Lib.hid hym
                                      replace hch := Lib.hid hch
                                      replace hy := Lib.hid hy
                                      replace he := Lib.hid he
                                      obtain ⟨k2, km', hfk', hk1', hk2'⟩ := hat.out y hym.out
                                      have k0' : (0 : Int) ≤ (k2 : Int) := by omega
                                      have km2' : (k2 : Int) < (m : Int) := by omega
                                      have kd1' : decide ((k2 : Int) < 0) = false := decide_eq_false (by omega)
                                      have kd2' : decide ((m : Int) ≤ (k2 : Int)) = false := decide_eq_false (by omega)
                                      have kp1' : ¬ ((k2 : Int) < 0) := by omega
                                      have kp2' : ¬ ((m : Int) ≤ (k2 : Int)) := by omega
                                      go_upto_region 27 with fail
                                      go_cut [13] from 145 to 180 (fun u13 wx => u13 = .int .i64 (k2 : Int) ∧ Hid (KP wx) ∧ Hid (Ints wx Any (.slice (some ⟨bT, offT, none⟩) M cp) T))
                                      case first =>
                                        as_aux_lemma =>
                                          obtain ⟨be, offe, ex, _, _, te⟩ := (hiT.out.cellAt e (by rw [hM.out]; have := he.out; omega))
                                          cases ex
                                          rw [hy.out] at te
                                          obtain ⟨g0, g1, g2, g3, g4, g5, g6, g7, g8⟩ := ((hKP.out wr).1 hk.out).box
                                          have hkd := Lib.hid (hKb.out _ _ hk.out (Below.refl _ _).drew)
                                          have hid2 := Lib.hid (hiT.out.below (Below.refl wr.heap.size wr).drew)
                                          have cf := cfi.out wr.drew y hkd.out
                                          rw [hfk'] at cf
                                          go_region_with (first | (go_at_call 22; ((with_reducible refine Calls.mono cf ?_); rintro e w5 ⟨rfl, hb5⟩; have hk6 := Lib.hid (hKb.out _ _ hkd.out hb5); have hid3 := Lib.hid (hid2.out.below hb5); clear hb5)))
                                          all_goals
                                            go_wp2_with fail
                                            go_meet
                                            exact ⟨rfl, hk6, hid3⟩
                                      case rest =>
                                        obtain ⟨rfl, hkc, hiTc⟩ := hcut
                                        clear hk hiT
                                        go_upto_region 28 with fail
                                        go_cut [180] from 145 to 180 (fun u180 wx => u180 = .bool false ∧ Hid (KP wx) ∧ Hid (Ints wx Any (.slice (some ⟨bT, offT, none⟩) M cp) T))
                                        case first =>
                                          as_aux_lemma =>
                                            obtain ⟨be, offe, ex, _, _, te⟩ := (hiTc.out.cellAt j (by rw [hM.out]; exact hj))
                                            cases ex
                                            obtain ⟨b3, off3, sp3, p3', e5, o1, o2, hzi, -⟩ := hbo.out wc hkc.out k2 km'
                                            cases e5
                                            have g5 := ((hKP.out wc).1 hkc.out).box.2.2.2.2.2.1
                                            obtain ⟨n2, hn2⟩ : ∃ n2, (V0.os.getD k2 o0).2.1.length = n2 := ⟨_, rfl⟩
                                            rw [hn2] at o2 hzi
                                            obtain ⟨z, hz⟩ : ∃ z, T.getD j 0 = z := ⟨_, rfl⟩
                                            rw [hz] at te
                                            have chn : Hid (∀ j, Calls Try.prog 38 #[.slice sp3 n2 p3', .int .i64 z] (wc.drewN j) (Still (.bool true) (wc.drewN j))) := Lib.hid fun j => by
                                              have := has_any z (hzi.below (below_drewN (Below.refl wc.heap.size wc) j))
                                              rw [decide_eq_true (show z ∈ (V0.os.getD k2 o0).2.1 by rw [hk2', ← hz]; exact hch.out)] at this
                                              exact this
                                            clear o1 hzi hn2 hk1' hk2' hfk' hz
                                            go_big_quiet (first | (go_at_call 38; exact quiet_still (chn.out _)))
                                            go_wp2_with fail
                                            go_meet
                                            exact ⟨rfl, Lib.hid (hKb.out _ _ hkc.out (below_drewN (Below.refl _ _) _)), Lib.hid (hiTc.out.below (below_drewN (Below.refl _ _) _))⟩
                                        case rest =>
                                          obtain ⟨rfl, hk, hiT⟩ := hcut
                                          clear hkc hiTc
                                          go_wp2_with fail
                                          go_roundw
                                          case rel => exact ⟨j + 1, by go_num, by omega, by omega, hk, hiT⟩
                                          case measure => simp [RowKit.intOf]; omega
                                    · obtain rfl : M = j := by omega
                                      have j3 : ¬ ((M : Int) < (M : Int)) := by omega
                                      go_wp2_with fail
                                      go_roundw
                                      case rel => exact ⟨i + 1, by go_num, by omega, hk⟩
                                      case measure => simp [RowKit.intOf]; omega
                  · obtain rfl : N = i := by omega
                    have i2 : ¬ ((N : Int) < (N : Int)) := by omega
                    clear hi
                    go_wp2_with fail
                    clear c3
                    go_loopw [2, 14] (fun u2 u14 wx => ∃ i : Nat, u14 = .int .i64 i ∧ i ≤ U ∧ Hid (KP wx)) (fun _ u14 _ => (U - (RowKit.intOf u14).toNat))
                    case atStart => exact ⟨0, rfl, by omega, hk⟩
                    case round =>
                      as_aux_lemma =>
                        clear hk
                        obtain ⟨i, rfl, j3, hk⟩ := hrel
                        have ii0 : (0 : Int) ≤ (i : Int) := by omega
                        have c4 := ((hKP.out wr).1 hk.out).c4
                        by_cases hi : i < U
                        · have i3 : (i : Int) < (U : Int) := by omega
                          have hxm : Hid (us.getD i 0 ∈ us) := Lib.hid (getD_mem 0 (by rw [hU.out]; exact hi))
                          obtain ⟨x, hx⟩ : ∃ x, us.getD i 0 = x := ⟨_, rfl⟩
                          rw [hx] at hxm
                          have hcb : Hid (∀ W, KP W → ∃ b off, sb = some ⟨b, off, none⟩ ∧ W.cell? ⟨b, off + i, none⟩ = some (.int .i64 x)) := Lib.hid fun W hW => by
                            have hW := (hKP.out W).1 hW
                            obtain ⟨b, off, e1, _, _, e2⟩ := hW.b.cellAt i (by rw [hU.out]; exact hi)
                            rw [hx] at e2
                            exact ⟨b, off, e1, e2⟩
                          have hna : Hid (x ∉ ads V0.os) := Lib.hid ((hus.out.mem x).1 hxm.out).1
                          replace hx := Lib.hid hx
                          obtain ⟨b, off, rfl, e2⟩ := hcb.out wr hk.out
                          go_upto_region 33 with fail
                          go_cut [203] from 181 to 203 (fun u203 wx => u203 = .bool false ∧ Hid (KP wx))
                          case first =>
                            as_aux_lemma =>
                              obtain ⟨g0, g1, g2, g3, g4, g5, g6, g7, g8⟩ := ((hKP.out wr).1 hk.out).box
                              have hkd := Lib.hid (hKb.out _ _ hk.out (Below.refl _ _).drew)
                              have cf := cfi.out wr.drew x hkd.out
                              rw [at_none hna.out] at cf
                              have cq := fun W hW => cpa.out W x hW (.inr hxm.out)
                              unfold PathV at cq
                              replace cq := Lib.hid cq
                              go_region_with (first | (go_at_call 22; ((with_reducible refine Calls.mono cf ?_); rintro e w5 ⟨rfl, hb5⟩; have hk6 := Lib.hid (hKb.out _ _ hkd.out hb5); obtain ⟨g0', g1', g2', g3', g4', g5', g6', g7', g8'⟩ := ((hKP.out w5).1 hk6.out).box; have c4' := ((hKP.out w5).1 hk6.out).c4; obtain ⟨b6, off6, e6, e7⟩ := hcb.out w5 hk6.out; cases e6; clear hb5)) | (go_at_call 39; ((with_reducible refine Calls.mono (cq.out _ hk6.out) ?_); rintro e w6 ⟨v, T, L, lost, mm, pre, rfl, hF, hRR, hi2, hb6⟩; have hk7 := Lib.hid (hKb.out _ _ hk6.out hb6); obtain rfl := path_out hF hRR hna.out; obtain ⟨sp5, cp5, rfl, -⟩ := id hi2; rw [show ([] : List Int).length = 0 from rfl]; clear hF hRR hi2 hb6)))
                              all_goals
                                go_wp2_with fail
                                go_meet
                                exact ⟨rfl, hk7⟩
                          case rest =>
                            obtain ⟨rfl, hkc⟩ := hcut
                            clear hk
                            go_wp2_with fail
                            go_roundw
                            case rel => exact ⟨i + 1, by go_num, by omega, hkc⟩
                            case measure => simp [RowKit.intOf]; omega
                        · obtain rfl : U = i := by omega
                          have i3 : ¬ ((U : Int) < (U : Int)) := by omega
                          have ct := ct wr
                          go_wp2_with fail
                          with_reducible refine Calls.mono ct ?_
                          rintro ed w8 ⟨rfl, hb⟩
                          have hfin := Lib.hid (hKl.out _ (hKb.out _ _ hk.out hb))
                          clear ct hb
                          go_wp2_with fail
                          go_ret
                          exact ⟨rfl, hfin.out⟩

set_option maxRecDepth 100000 in
theorem lifted (os : Os) (started : os.Started) (H : Type) (enc : TypeId × Value → H) :
    ReturnsInHanded {} Try.checked os 6 .any (Rows.viewClosedSpec.pre6 enc Try.prog Try.f6 Rows.viewClosedRow.domain false) (Rows.viewClosedSpec.post enc Try.prog Try.f6 false true false false) := by
  refine returnsInHanded_of_change (C := Try.checked) own started (by kernel_rfl) Try.func6
    (ChangeSpec.witness6 (enc := enc) (C := Try.checked) false ⟨#[], #[.agg #[.int .i64 0, .int .i64 0, .int .i64 0, .slice none 0 0, .slice none 0 0, .slice none 0 0, .int .i64 0, .int .i64 0, .int .i64 0]], []⟩ 8 (by kernel_rfl) (by kernel_rfl) (by kernel_rfl) (by kernel_rfl)) ?_
  intro W base args ds gs before hval0 hW hcnd _
  have hval : ∀ (j : Nat) t v, Try.f6.params[j]? = some t → args[j]? = some v → Value.okWide Try.prog W .any base t v := hval0
  have hW' := hW
  obtain ⟨p, q, hA0, hV, rfl, hfz, hnd⟩ := hW
  have hA : DataW.TrodAll enc Try.prog W 0 (fun _ => true) true Try.f6.params.toList args.toList ds p := hA0
  rw [Try.params6] at hA hval
  obtain ⟨v0, vs0, d0, ds0, p0, q0, hargs, rfl, rfl, h0, r0⟩ := trodAll_cons hA
  obtain ⟨rfl, rfl, rfl⟩ := trodAll_nil r0
  obtain rfl : args = #[v0] := by cases args; simp_all
  obtain ⟨rfl, rfl⟩ := trodVars_none hV
  obtain ⟨V0, vg0, vs0, vo0, rfl, i0⟩ := view_arg (hval 0 32 v0 rfl rfl) h0
  clear hA0 hval0
  simp only [List.append_nil] at hW'
  have lt0 : ∀ x ∈ p0, x.block < W.heap.size := fun x hx => by have := hW'.lt x (by simp [hx]); simpa using this
  refine (walk V0 vg0 vs0 vo0 W i0).mono fun e W' ⟨he, hg⟩ => ?_
  subst he
  exact ⟨_, rfl, post_of_kept (pa := _) (pv := []) hW' (fun _ _ _ => (trodAll_cons_mk (shut_bool Try.underlying4 _) trodAll_mk0)) (trodAll_cons_mk (Below.trod laidOut (by kernel_rfl) (of_decide_eq_true (by kernel_rfl)) h0 hg lt0) trodAll_mk0) (fun _ _ => rfl) (by simp) hg⟩

theorem over : Rows.viewClosedRow.holds Try.pinned (OpenSpec.ofChange Rows.viewClosedSpec) :=
  OpenClaim.holds_of_wide 6 Try.f6 rfl rfl rfl rfl rfl rfl rfl ⟨rfl, rfl, rfl, rfl, rfl⟩ rfl rfl rfl rfl rfl (by kernel_rfl) Try.func6 (by kernel_rfl)
    (of_decide_eq_true (by kernel_rfl)) (by unfold Func.isWrapper; first | (rw [if_pos (by decide +kernel)]; kernel_rfl) | (rw [if_neg (by decide +kernel)]; exact ⟨rfl, rfl⟩))
    (fun os started H enc _ => lifted os started H enc)

theorem proved : Rows.ViewClosedSaid :=
  over
#print axioms proved
end Go.Proofs.Ytneibhcigbfigaa.viewClosed
