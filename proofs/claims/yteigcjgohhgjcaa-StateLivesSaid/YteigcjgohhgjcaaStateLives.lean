/- For any slice of whole numbers the statement StateLives answers true and leaves its argument as it was: three goroutines go ways of at most sixty moves; what May rules out is told as such, who is dead stays so, the dead are counted, the others are alive. No condition. -/
import Derived.Test.YteigcjgohhgjcaaStatesLive
import Derived.WalkKit
import Derived.ProofKit
import Derived.OpenShut
import Derived.Deep.RegionHeld3
import Derived.Deep.RegionWith
import Derived.Deep.Cut
import Derived.Deep.CutBlock
import Derived.Deep.CutRange
import Derived.Deep.DeepCutAuto
import Derived.RegionTactic
namespace Go.Proofs.Yteigcjgohhgjcaa.stateLives
open Go.ChangeShapes Go.WideShapes Go.ChangeAt Go.WideElems Go.RowKit Go.Lib Fx Ho St
set_option linter.unusedVariables false

theorem own : ownKnob Try.prog.godebug = none := by kernel_rfl

set_option maxRecDepth 100000 in
set_option maxHeartbeats 4000000 in
theorem walk (v0 : Value) (z0 : List Int) (w : World) (h0 : Ints w (fun k => k < w.heap.size) v0 z0) :
    Calls Try.prog 14 #[v0] w fun e w' => e = .returned (.bool true) ∧ Below w.heap.size w w' := by
  have ct := fun w => told_any w
  have cn := ss_new w
  obtain ⟨p, hp⟩ : ∃ p, w.heap.size = p := ⟨_, rfl⟩
  rw [hp] at cn
  replace hp := Lib.hid hp
  obtain ⟨sp, cap, rfl, hm, hc⟩ := h0
  obtain ⟨n, hn⟩ : ∃ n, z0.length = n := ⟨_, rfl⟩
  rw [hn] at hm hc ⊢
  clear hn
  replace hc := Lib.hid hc
  by_cases h60 : n ≤ 60
  · have i60 : ¬ (60 : Int) < (n : Int) := by omega
    have d60 : decide ((60 : Int) < (n : Int)) = false := decide_eq_false i60
    go_enter Try.func14, Try.ntmps14
    go_wp2_with fail
    with_reducible refine Calls.mono (cn) ?_
    rintro e w1 ⟨rfl, hs1⟩
    replace hs1 := Lib.hid hs1
    clear cn
    go_wp2_with fail
    go_loopw [4] (fun i wr => ∃ k : Nat, i = .int .i64 k ∧ k ≤ 3 ∧ ∃ v, Hid (Ss w wr p v (List.replicate k 1))) (fun i _ => (3 - (intOf i).toNat))
    case atStart => exact ⟨0, rfl, by omega, _, hs1⟩
    case round =>
      obtain ⟨k, rfl, k1, v, hS⟩ := hrel
      clear hs1
      by_cases hk : k < 3
      · have i2 : (k : Int) < 3 := by omega
        have cs := ss_spawn hS.out (by rw [List.length_replicate]; omega)
        rw [List.length_replicate] at cs
        go_wp2_with fail
        with_reducible refine Calls.mono (cs) ?_
        rintro e w2 ⟨rfl, v2, hs2⟩
        rw [← List.replicate_succ'] at hs2
        replace hs2 := Lib.hid hs2
        clear cs hS
        go_wp2_with fail
        go_roundw
        case rel => exact ⟨k + 1, by go_num, by omega, _, hs2⟩
        case measure => simp [intOf]; omega
      · obtain rfl : k = 3 := by omega
        clear hk k1
        obtain ⟨j0, hj0, hz0, hz1, hz2⟩ := info_parts infoB
        go_wp2_with (refine wpList_make_full _ rfl _ _ 70 rfl 0 4 j0 (.bool false) 1 Try.underlying70 hj0 hz0 hz1 .i64 .i64 _ _ 3 rfl rfl rfl rfl (by rw [hz2]; omega) (by unfold maxLen; omega) (Nat.zero_le _) ?_; intro w2 hown2 hgrow2; have hd := sd_made hS.out hown2 rfl hgrow2; replace hd := Lib.hid hd; clear hown2 hgrow2)
        generalize wr.heap.size = d at *
        have hD0 : Hid (∀ g, g < 3 → false = decide ((List.replicate 3 (1 : Int)).getD g 0 = 5)) := fun g hg => by
          rcases (show g = 0 ∨ g = 1 ∨ g = 2 by omega) with rfl | rfl | rfl <;> rfl
        clear hS hz0 hz1 hz2 hj0
        go_loopw [8] (fun i wr => ∃ k : Nat, i = .int .i64 k ∧ k ≤ n ∧ ∃ v L M, Hid (Sd w wr p v L d M) ∧ Hid (L.length = 3) ∧ Hid (∀ g, g < 3 → M g = decide (L.getD g 0 = 5))) (fun i _ => (n - (intOf i).toNat))
        case atStart => exact ⟨0, rfl, by omega, _, _, _, hd, rfl, hD0⟩
        case round =>
          obtain ⟨k, rfl, k1, v3, L, M, hS, hL, hM⟩ := hrel
          clear hd hD0
          by_cases hk : k < n
          · have i2 : (k : Int) < (n : Int) := by omega
            have i3 : (0 : Int) ≤ (k : Int) := by omega
            have e1 : ∃ b off, sp = some ⟨b, off, none⟩ ∧ wr.cell? ⟨b, off + k, none⟩ = some (.int .i64 (z0.getD k 0)) := by
              obtain ⟨b, off, e, h1, h2, h3⟩ := hc.out k hk
              exact ⟨b, off, e, by rw [hS.out.ss.bel.cell (show (⟨b, off + k, none⟩ : Addr).block < _ from h2)]; exact h3⟩
            obtain ⟨b, off, rfl, e1⟩ := e1
            generalize z0.getD k 0 = x at *
            obtain ⟨Y, hY⟩ : ∃ Y : Int, IntKind.u64.wrap x = Y := ⟨_, rfl⟩
            have y0 : 0 ≤ Y := by rw [← hY, IntKind.wrap_u64]; omega
            obtain ⟨g, hg⟩ : ∃ g : Nat, Y % 3 = (g : Int) := ⟨(Y % 3).toNat, by omega⟩
            have g1 : g < 3 := by omega
            have co := of_yes g (by rw [hL.out]; exact g1) wr hS.out.ss.st
            have hmem := hS.out.ss.st.mem (L.getD g 0) (by
              rw [List.getD_eq_getElem?_getD, List.getElem?_eq_getElem (by rw [hL.out]; exact g1)]; exact List.getElem_mem _)
            obtain ⟨f, hf⟩ : ∃ f, L.getD g 0 = f := ⟨_, rfl⟩
            rw [hf] at co hmem
            replace hf := Lib.hid hf
            have hlg : Hid (g < L.length) := by rw [hL.out]; exact g1
            go_wp2_with fail
            with_reducible refine Calls.mono (co) ?_
            rintro e w3 ⟨rfl, rfl⟩
            clear co
            clear hY hg
            replace e1 := Lib.hid e1
            go_upto_block 4 with fail
            go_cut [8] (fun s8 wx => s8 = .int .i64 k ∧ ∃ v' L' M', Hid (Sd w wx p v' L' d M') ∧ Hid (L'.length = 3) ∧ Hid (∀ g, g < 3 → M' g = decide (L'.getD g 0 = 5)))
            case first =>
              rcases (show f = 1 ∨ f = 2 ∨ (f = 3 ∨ f = 4) ∨ f = 5 by omega) with rfl | rfl | hf34 | rfl
              · have cs := sd_not g 3 hS.out hlg.out (by rw [hf.out]; decide)
                go_wp2_with fail
                with_reducible refine Calls.mono (cs) ?_
                rintro e w4 ⟨rfl, hs4⟩
                clear cs
                have cs := sd_move g 2 hs4 hlg.out (by rw [hf.out]; decide)
                go_wp2_with fail
                with_reducible refine Calls.mono (cs) ?_
                rintro e w5 ⟨rfl, v5, hs5⟩
                have hM5 := Lib.hid (dead_keep (t := 2) hL.out g1 (by rw [hf.out]; decide) (by decide) hM.out)
                have hL5 : Hid ((L.set g 2).length = 3) := by rw [List.length_set]; exact hL.out
                replace hs5 := Lib.hid hs5
                clear cs hs4 hS hM
                go_wp2_with fail
                go_meet
                exact ⟨by first | rfl | trivial, _, _, _, hs5, hL5, hM5⟩
              · have e2 : ∀ o, (wr.alloc o).cell? ⟨b, off + k, none⟩ = some (.int .i64 x) := fun o => by
                  rw [(below_alloc (Below.refl wr.heap.size wr) o).cell (World.block_lt_of_cell? wr _ e1.out)]; exact e1.out
                obtain ⟨Y2, hY2⟩ : ∃ Y2 : Int, IntKind.u64.wrap (wrap64 (x.tdiv 3)) = Y2 := ⟨_, rfl⟩
                have y2 : 0 ≤ Y2 := by rw [← hY2, IntKind.wrap_u64]; omega
                have gg0 : (0 : Int) ≤ (g : Int) := by omega
                have gg1 : (g : Int) < 3 := by omega
                have hb4 : Below wr.heap.size wr (wr.alloc (.cells #[.int .i64 1, .int .i64 3, .int .i64 4, .int .i64 5] 3)) := below_alloc (Below.refl _ _) _
                have hs3 := hS.out.below hb4
                have cs := sd_not g 2 hs3 hlg.out (by rw [hf.out]; decide)
                clear hb4 e1
                rcases (show Y2 % 4 = 0 ∨ Y2 % 4 = 1 ∨ Y2 % 4 = 2 ∨ Y2 % 4 = 3 by omega) with hq | hq | hq | hq
                · skip
                  go_wp2_with fail
                  with_reducible refine Calls.mono (cs) ?_
                  rintro e w4 ⟨rfl, hs4⟩
                  clear cs hs3 e2 hY2
                  have cs := sd_move g 1 hs4 hlg.out (by rw [hf.out]; decide)
                  go_wp2_with fail
                  with_reducible refine Calls.mono (cs) ?_
                  rintro e w5 ⟨rfl, v5, hs5⟩
                  have hM5 := Lib.hid (dead_upd (t := 1) hL.out g1 hM.out)
                  have hL5 : Hid ((L.set g 1).length = 3) := by rw [List.length_set]; exact hL.out
                  have hcd := hs5.cell g1
                  have hfd := hs5.frozen g
                  have hfin : Hid (∀ W, W.heap = (w5.setCell ⟨d, g, none⟩ (.bool (decide ((1 : Int) = 5)))).heap → W.os = w5.os → W.tape = w5.tape → W.output = w5.output → Sd w W p v5 (L.set g 1) d (fun i => if i = g then decide ((1 : Int) = 5) else M i)) := fun W a1 a2 a3 a4 => hs5.put g1 _ a1 a2 a3 a4
                  clear cs hs4 hS hM hs5
                  go_wp2_with fail
                  go_meet
                  exact ⟨by first | rfl | trivial, _, _, _, hfin.out _ rfl rfl rfl rfl, hL5, hM5⟩
                · skip
                  go_wp2_with fail
                  with_reducible refine Calls.mono (cs) ?_
                  rintro e w4 ⟨rfl, hs4⟩
                  clear cs hs3 e2 hY2
                  have cs := sd_move g 3 hs4 hlg.out (by rw [hf.out]; decide)
                  go_wp2_with fail
                  with_reducible refine Calls.mono (cs) ?_
                  rintro e w5 ⟨rfl, v5, hs5⟩
                  have hM5 := Lib.hid (dead_upd (t := 3) hL.out g1 hM.out)
                  have hL5 : Hid ((L.set g 3).length = 3) := by rw [List.length_set]; exact hL.out
                  have hcd := hs5.cell g1
                  have hfd := hs5.frozen g
                  have hfin : Hid (∀ W, W.heap = (w5.setCell ⟨d, g, none⟩ (.bool (decide ((3 : Int) = 5)))).heap → W.os = w5.os → W.tape = w5.tape → W.output = w5.output → Sd w W p v5 (L.set g 3) d (fun i => if i = g then decide ((3 : Int) = 5) else M i)) := fun W a1 a2 a3 a4 => hs5.put g1 _ a1 a2 a3 a4
                  clear cs hs4 hS hM hs5
                  go_wp2_with fail
                  go_meet
                  exact ⟨by first | rfl | trivial, _, _, _, hfin.out _ rfl rfl rfl rfl, hL5, hM5⟩
                · skip
                  go_wp2_with fail
                  with_reducible refine Calls.mono (cs) ?_
                  rintro e w4 ⟨rfl, hs4⟩
                  clear cs hs3 e2 hY2
                  have cs := sd_move g 4 hs4 hlg.out (by rw [hf.out]; decide)
                  go_wp2_with fail
                  with_reducible refine Calls.mono (cs) ?_
                  rintro e w5 ⟨rfl, v5, hs5⟩
                  have hM5 := Lib.hid (dead_upd (t := 4) hL.out g1 hM.out)
                  have hL5 : Hid ((L.set g 4).length = 3) := by rw [List.length_set]; exact hL.out
                  have hcd := hs5.cell g1
                  have hfd := hs5.frozen g
                  have hfin : Hid (∀ W, W.heap = (w5.setCell ⟨d, g, none⟩ (.bool (decide ((4 : Int) = 5)))).heap → W.os = w5.os → W.tape = w5.tape → W.output = w5.output → Sd w W p v5 (L.set g 4) d (fun i => if i = g then decide ((4 : Int) = 5) else M i)) := fun W a1 a2 a3 a4 => hs5.put g1 _ a1 a2 a3 a4
                  clear cs hs4 hS hM hs5
                  go_wp2_with fail
                  go_meet
                  exact ⟨by first | rfl | trivial, _, _, _, hfin.out _ rfl rfl rfl rfl, hL5, hM5⟩
                · skip
                  go_wp2_with fail
                  with_reducible refine Calls.mono (cs) ?_
                  rintro e w4 ⟨rfl, hs4⟩
                  clear cs hs3 e2 hY2
                  have cs := sd_move g 5 hs4 hlg.out (by rw [hf.out]; decide)
                  go_wp2_with fail
                  with_reducible refine Calls.mono (cs) ?_
                  rintro e w5 ⟨rfl, v5, hs5⟩
                  have hM5 := Lib.hid (dead_upd (t := 5) hL.out g1 hM.out)
                  have hL5 : Hid ((L.set g 5).length = 3) := by rw [List.length_set]; exact hL.out
                  have hcd := hs5.cell g1
                  have hfd := hs5.frozen g
                  have hfin : Hid (∀ W, W.heap = (w5.setCell ⟨d, g, none⟩ (.bool (decide ((5 : Int) = 5)))).heap → W.os = w5.os → W.tape = w5.tape → W.output = w5.output → Sd w W p v5 (L.set g 5) d (fun i => if i = g then decide ((5 : Int) = 5) else M i)) := fun W a1 a2 a3 a4 => hs5.put g1 _ a1 a2 a3 a4
                  clear cs hs4 hS hM hs5
                  go_wp2_with fail
                  go_meet
                  exact ⟨by first | rfl | trivial, _, _, _, hfin.out _ rfl rfl rfl rfl, hL5, hM5⟩
              · have h1 : mayB f 5 = false := by rcases hf34 with rfl | rfl <;> decide
                have h2 : mayB f 1 = true := by rcases hf34 with rfl | rfl <;> decide
                have cs := sd_not g 5 hS.out hlg.out (by rw [hf.out]; exact h1)
                have hf5 : L.getD g 0 ≠ 5 := by rw [hf.out]; omega
                replace hf5 := Lib.hid hf5
                clear h1 hmem
                rcases hf34 with rfl | rfl
                all_goals
                  go_wp2_with fail
                  with_reducible refine Calls.mono (cs) ?_
                  rintro e w4 ⟨rfl, hs4⟩
                  clear cs
                  have cs := sd_move g 1 hs4 hlg.out (by rw [hf.out]; exact h2)
                  go_wp2_with fail
                  with_reducible refine Calls.mono (cs) ?_
                  rintro e w5 ⟨rfl, v5, hs5⟩
                  have hM5 := Lib.hid (dead_keep (t := 1) hL.out g1 hf5.out (by decide) hM.out)
                  have hL5 : Hid ((L.set g 1).length = 3) := by rw [List.length_set]; exact hL.out
                  replace hs5 := Lib.hid hs5
                  clear cs hs4 hS hM h2
                  go_wp2_with fail
                  go_meet
                  exact ⟨by first | rfl | trivial, _, _, _, hs5, hL5, hM5⟩
              · have hMg : M g = true := by rw [hM.out g g1, hf.out]; decide
                have hcd := hS.out.cell g1
                rw [hMg] at hcd
                have cs := sd_not g 1 hS.out hlg.out (by rw [hf.out]; decide)
                have gg0 : (0 : Int) ≤ (g : Int) := by omega
                have gg1 : (g : Int) < 3 := by omega
                replace hMg := Lib.hid hMg
                go_wp2_with fail
                with_reducible refine Calls.mono (cs) ?_
                rintro e w4 ⟨rfl, hs4⟩
                clear cs
                have cs := sd_not g 5 hs4 hlg.out (by rw [hf.out]; decide)
                go_wp2_with fail
                with_reducible refine Calls.mono (cs) ?_
                rintro e w5 ⟨rfl, hs5⟩
                replace hs5 := Lib.hid hs5
                clear cs hs4 hS hcd
                go_wp2_with fail
                go_meet
                exact ⟨by first | rfl | trivial, _, _, _, hs5, hL, hM⟩
            case rest =>
              obtain ⟨rfl, v6, L6, M6, hS6, hL6, hM6⟩ := hcut
              clear hS hL hM hf hlg hmem e1
              have hcell : Hid (∀ i, i < 3 → wc.cell? ⟨d, i, none⟩ = some (.bool (M6 i))) := fun i hi => hS6.out.cell hi
              obtain ⟨hd1, hd2, hd3⟩ := dead_three hL6.out hM6.out
              have c5 := count_yes 5 (by decide) wc hS6.out.ss.st
              rw [hd1] at c5
              have cl := sd_alive hS6.out
              rw [hd3] at cl
              have cn3 : Hid (∀ W, Sd w W p v6 L6 d M6 → Calls Try.prog 43 #[.pointer (some ⟨p, 0, none⟩)] W (Still (.int .i64 3) W)) := fun W h => by
                have := len_any W h.ss.st; rwa [hL6.out] at this
              have hz : Hid (setTo M6 3 = setTo M6 3) := rfl
              replace hd1 := Lib.hid hd1
              replace hd3 := Lib.hid hd3
              go_wp2_with fail
              go_loopw [11, 12] (fun u k wr2 => ∃ j : Nat, k = .int .i64 j ∧ j ≤ 3 ∧ u = .int .i64 (setTo M6 j) ∧ setTo M6 j ≤ j ∧ wr2 = wc) (fun _ k _ => (3 - (intOf k).toNat))
              case atStart => exact ⟨0, rfl, by omega, rfl, by simp [setTo], rfl⟩
              case round =>
                obtain ⟨j, rfl, j1, rfl, j2, rfl⟩ := hrel
                by_cases hj : j < 3
                · have i4 : (j : Int) < 3 := by omega
                  have i5 : (0 : Int) ≤ (j : Int) := by omega
                  have e1 := hcell.out j hj
                  clear c5 cl cn3 hd2
                  cases hMj : M6 j with
                  | true =>
                    have hnx : setTo M6 (j + 1) = setTo M6 j + 1 := by show setTo M6 j + _ = _; rw [if_pos hMj]
                    rw [hMj] at e1
                    replace hnx := Lib.hid hnx
                    replace hMj := Lib.hid hMj
                    go_wp2_with fail
                    go_roundw
                    case rel => exact ⟨j + 1, by go_num, by omega, by rw [hnx.out]; go_num, by rw [hnx.out]; omega, by first | rfl | trivial⟩
                    case measure => simp [intOf]; omega
                  | false =>
                    have hnx : setTo M6 (j + 1) = setTo M6 j := by show setTo M6 j + _ = _; rw [if_neg (by rw [hMj]; decide)]; rfl
                    rw [hMj] at e1
                    replace hnx := Lib.hid hnx
                    replace hMj := Lib.hid hMj
                    go_wp2_with fail
                    go_roundw
                    case rel => exact ⟨j + 1, by go_num, by omega, by rw [hnx.out], by rw [hnx.out]; omega, by first | rfl | trivial⟩
                    case measure => simp [intOf]; omega
                · obtain rfl : j = 3 := by omega
                  clear hj
                  obtain ⟨T, hT⟩ : ∃ T, setTo M6 3 = T := ⟨_, rfl⟩
                  rw [hT] at c5 cl hd2 ⊢
                  have hT3 : ((3 - T : Nat) : Int) = 3 - (T : Int) := by omega
                  replace hT := Lib.hid hT
                  go_wp2_with fail
                  with_reducible refine Calls.mono (c5) ?_
                  rintro e w7 ⟨rfl, rfl⟩
                  clear c5
                  go_wp2_with fail
                  with_reducible refine Calls.mono (cl) ?_
                  rintro e w8 ⟨sp8, cap8, rfl, hs8⟩
                  have cq := cn3.out _ hs8
                  clear cl cn3
                  replace hs8 := Lib.hid hs8
                  go_wp2_with fail
                  with_reducible refine Calls.mono (cq) ?_
                  rintro e w9 ⟨rfl, rfl⟩
                  clear cq
                  go_wp2_with fail
                  go_roundw
                  case rel => exact ⟨k + 1, by go_num, by omega, _, _, _, hs8, hL6, hM6⟩
                  case measure => simp [intOf]; omega
          · obtain rfl : k = n := by omega
            go_wp2_with fail
            with_reducible refine Calls.mono (ct _) ?_
            rintro e w2 ⟨rfl, hb2⟩
            have hfin := Lib.hid (hS.out.below hb2).ss.bel
            clear hS hb2
            go_wp2_with fail
            go_ret
            exact ⟨rfl, hfin.out⟩
  · have i60 : (60 : Int) < (n : Int) := by omega
    have d60 : decide ((60 : Int) < (n : Int)) = true := decide_eq_true i60
    go_enter Try.func14, Try.ntmps14
    go_wp2_with fail
    with_reducible refine Calls.mono (cn) ?_
    rintro e w1 ⟨rfl, hs1⟩
    clear cn
    go_wp2_with fail
    with_reducible refine Calls.mono (ct _) ?_
    rintro e w2 ⟨rfl, hb2⟩
    have hfin := Lib.hid (hs1.below hb2).bel
    clear hs1 hb2
    go_wp2_with fail
    go_ret
    exact ⟨rfl, hfin.out⟩

set_option maxRecDepth 100000 in
theorem lifted (os : Os) (started : os.Started) (H : Type) (enc : TypeId × Value → H) :
    ReturnsInHanded {} Try.checked os 14 .any (Rows.stateLivesSpec.pre6 enc Try.prog Try.f14 Rows.stateLivesRow.domain false) (Rows.stateLivesSpec.post enc Try.prog Try.f14 false true false false) := by
  refine returnsInHanded_of_change (C := Try.checked) own started (by kernel_rfl) Try.func14
    (ChangeSpec.witness6 (enc := enc) (C := Try.checked) false ⟨#[], #[.slice none 0 0], []⟩ 8 (by kernel_rfl) (by kernel_rfl) (by kernel_rfl) (by kernel_rfl)) ?_
  intro W base args ds gs before hval0 hW hcnd _
  have hval : ∀ (j : Nat) t v, Try.f14.params[j]? = some t → args[j]? = some v → Value.okWide Try.prog W .any base t v := hval0
  have hW' := hW
  obtain ⟨p, q, hA0, hV, rfl, hfz, hnd⟩ := hW
  have hA : DataW.TrodAll enc Try.prog W 0 (fun _ => true) true Try.f14.params.toList args.toList ds p := hA0
  rw [Try.params14] at hA hval
  obtain ⟨v0, vs0, d0, ds0, p0, q0, hargs, rfl, rfl, h0, r0⟩ := trodAll_cons hA
  obtain ⟨rfl, rfl, rfl⟩ := trodAll_nil r0
  obtain rfl : args = #[v0] := by cases args; simp_all
  obtain ⟨rfl, rfl⟩ := trodVars_none hV
  obtain ⟨z0, i0⟩ := arg_ints (hval 0 26 v0 rfl rfl) h0
  clear hA0 hval0
  simp only [List.append_nil] at hW'
  have lt0 : ∀ x ∈ p0, x.block < W.heap.size := fun x hx => by have := hW'.lt x (by simp [hx]); simpa using this
  refine (walk v0 z0 W i0).mono fun e W' ⟨he, hg⟩ => ?_
  subst he
  exact ⟨_, rfl, post_of_kept (pa := _) (pv := []) hW' (fun _ _ _ => (trodAll_cons_mk (shut_bool Try.underlying4 _) trodAll_mk0)) (trodAll_cons_mk (Below.trod laidOut (by kernel_rfl) (of_decide_eq_true (by kernel_rfl)) h0 hg lt0) trodAll_mk0) (fun _ _ => rfl) (by simp) hg⟩

theorem over : Rows.stateLivesRow.holds Try.pinned (OpenSpec.ofChange Rows.stateLivesSpec) :=
  OpenClaim.holds_of_wide 14 Try.f14 rfl rfl rfl rfl rfl rfl rfl ⟨rfl, rfl, rfl, rfl, rfl⟩ rfl rfl rfl rfl rfl (by kernel_rfl) Try.func14 (by kernel_rfl)
    (of_decide_eq_true (by kernel_rfl)) (by unfold Func.isWrapper; first | (rw [if_pos (by decide +kernel)]; kernel_rfl) | (rw [if_neg (by decide +kernel)]; exact ⟨rfl, rfl⟩))
    (fun os started H enc _ => lifted os started H enc)

theorem proved : Rows.StateLivesSaid :=
  over
#print axioms proved
end Go.Proofs.Yteigcjgohhgjcaa.stateLives
