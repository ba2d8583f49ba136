/- PagePlays: pages go as the document's own do. -/
import Derived.Test.YtbheabjemaaeoabHome
import Derived.Test.YtbheabjemaaeoabPgBoth
import Derived.Test.YtbheabjemaaeoabOp5
import Derived.WalkKit
import Derived.ProofKit
import Derived.OpenShut
import Derived.Deep.RegionHeld3
import Derived.Deep.RegionWith
import Derived.Deep.Cut
import Derived.Deep.CutBlock
import Derived.Deep.CutRange
import Derived.Deep.LoopGhost
import Derived.Deep.DeepCutAuto
import Derived.RegionTactic
import Derived.StillTailTactics
namespace Go.Proofs.Ytbheabjemaaeoab.pagePlays
open Go.ChangeShapes Go.WideShapes Go.ChangeAt Go.WideElems Go.RowKit Go.Lib Fx Ho Pg Gr Rw
set_option linter.unusedVariables false

theorem own : ownKnob Try.prog.godebug = none := by kernel_rfl

theorem trem5 (x : Int) : -5 < x.tmod 5 ∧ x.tmod 5 < 5 := by
  rw [Int.tmod_eq_emod]; split <;> omega
theorem wf_le {x : Int} (h : (Lit.int .i64 x).wf = true) : x ≤ 9223372036854775807 := by
  simp [Lit.wf, IntKind.min, IntKind.max, IntKind.signed, IntKind.bits] at h; omega
theorem start_both {W0 W W' : World} {P X Y n : Nat} (h : Hid (∃ H, Ps W0 W P n 4 (newF n) H)) (h1 : W.heap.size ≤ X) (h2 : W.heap.size ≤ Y) (hr : Rp W' X Y n (newF n)) (hb : Below W.heap.size W W') : Zz W0 W' P X Y n 4 [] (.slice none 0 0) := by
  obtain ⟨H, hp⟩ := h.out
  have := hp.out.size
  exact ⟨_, H, hp.below hb, hr, fun hh => by have := hp.lt hh; omega, fun hh => by have := hp.lt hh; omega, by omega, by omega, grow_nil _ _, fun k hk => by cases hk⟩
set_option maxRecDepth 100000 in
set_option maxHeartbeats 4000000 in
theorem walk (a0 : Int) (v1 : Value) (zb1 : List _) (w : World) (w0 : (Lit.int .i64 a0).wf = true) (h1 : Op5 w v1 zb1) :
    Calls Try.prog 5 #[.int .i64 a0, v1] w fun e w' => e = .returned (.bool true) ∧ Below w.heap.size w w' := by
  obtain ⟨sp, cap, rfl, hm, hc⟩ := h1
  obtain ⟨l, hl⟩ : ∃ l, zb1.length = l := ⟨_, rfl⟩
  rw [hl] at hm hc ⊢
  have hcells : Hid (∀ wr, Below w.heap.size w wr → ∀ i, i < l → ∃ b off K F Q, sp = some ⟨b, off, none⟩ ∧ wr.cell? ⟨b, off + i * 3, none⟩ = some (.int .i64 K) ∧ wr.cell? ⟨b, off + i * 3 + 1, none⟩ = some (.int .i64 F) ∧ wr.cell? ⟨b, off + i * 3 + 2, none⟩ = some (.int .i64 Q) ∧ F ≤ 9223372036854775807) := Lib.hid fun wr hb i hi => by
    obtain ⟨b, off, e, _, d0, d1, d2, wf⟩ := hc i hi
    have t : ∀ {j : Nat} {v : Value}, w.cell? ⟨b, off + (i * 3 + j), none⟩ = some v → wr.cell? ⟨b, off + i * 3 + j, none⟩ = some v := fun {j v} h => by have := cell_then hb h; rwa [← Nat.add_assoc] at this
    exact ⟨b, off, _, _, _, e, cell_then hb d0, t d1, t d2, wf_le wf⟩
  clear hc hl
  go_enter Try.func5, Try.ntmps5
  go_upto_region 2 with fail
  go_cut [5, 23] from 18 to 23 (fun s5 s23 wx => s5 = .int .i64 a0 ∧ (s23 = .bool true ∨ (s23 = .bool false ∧ a0 ≤ 200)) ∧ Hid (wx = w))
  case first =>
    by_cases g1 : 200 < a0
    · have g2 : decide (200 < a0) = true := decide_eq_true g1
      go_wp2_with fail
      go_meet
      exact ⟨rfl, .inl rfl, Lib.hid rfl⟩
    · have g2 : decide (200 < a0) = false := decide_eq_false g1
      by_cases g3 : a0 < -200
      · have g4 : decide (a0 < -200) = true := decide_eq_true g3
        go_wp2_with fail
        go_meet
        exact ⟨rfl, .inl rfl, Lib.hid rfl⟩
      · have g4 : decide (a0 < -200) = false := decide_eq_false g3
        go_wp2_with fail
        go_meet
        exact ⟨rfl, .inr ⟨rfl, by omega⟩, Lib.hid rfl⟩
  case rest =>
    obtain ⟨rfl, hcase, ew⟩ := hcut
    have ew := ew.out
    subst ew
    rcases hcase with rfl | ⟨rfl, a200⟩
    · have cn := new_any 200 wc
      have cx := Lib.hid (fun W => rnew_any 200 W)
      obtain ⟨n, hn⟩ : ∃ n, many 200 = n := ⟨_, rfl⟩
      have n200 : n ≤ 200 := by rw [← hn]; unfold many; omega
      rw [hn] at cn cx
      clear hn
      go_wp2_with fail
      with_reducible refine Calls.mono cn ?_
      rintro e w1 ⟨P, rfl, hps⟩
      have cx := cx.out w1
      clear cn
      go_wp2_with fail
      with_reducible refine Calls.mono cx ?_
      rintro e w2 ⟨X, Y, rfl, x1, x2, hx, hb⟩
      have hW := Lib.hid (start_both hps x1 x2 hx hb)
      clear cx hps x1 x2 hx hb
      go_wp2_with fail
      go_loopw [8, 9, 10, 11, 12, 13, 14, 15, 16] (fun u8 u9 u10 u11 u12 u13 u14 u15 u16 wr => ∃ i : Nat, u9 = .int .i64 i ∧ i ≤ l ∧ i ≤ 60 ∧ Hid (∃ A, A.length ≤ i ∧ (∀ r ∈ A, r.1 ≤ 300000) ∧ Zz wc wr P X Y n (4 + 4 * i) A u8)) (fun _ y _ _ _ _ _ _ _ _ => (60 - (RowKit.intOf y).toNat))
      case atStart => exact ⟨0, rfl, by omega, by omega, Lib.hid ⟨[], Nat.le_refl _, fun r h => (by cases h), hW.out⟩⟩
      case round =>
        clear hW
        obtain ⟨i, rfl, il, i60, hR⟩ := hrel
        obtain ⟨A, hA, hA3, hR⟩ := hR.out
        replace hA3 := Lib.hid hA3
        by_cases hk : i < l ∧ i < 60
        · obtain ⟨hk1, hk2⟩ := hk
          have i2 : (i : Int) < (l : Int) := by omega
          have i3 : (i : Int) < 60 := by omega
          have i0 : (0 : Int) ≤ (i : Int) := by omega
          obtain ⟨b, off, Ki, F, Q, rfl, d0, d1, d2, hF⟩ := hcells.out wr hR.bel i hk1
          obtain ⟨z, hz⟩ : ∃ z, wr.heap.size = z := ⟨_, rfl⟩
          have hR2 : Hid (Bz wc (wr.alloc (.cells #[.int .i64 Ki, .int .i64 F, .int .i64 Q] 42)) P X Y n (4 + 4 * i) A u8 z (.cells #[.int .i64 Ki, .int .i64 F, .int .i64 Q] 42 (0, 0))) := Lib.hid (bz_of hR hz)
          clear hR
          obtain ⟨yk, hy⟩ : ∃ yk, Ki.tmod 5 = yk := ⟨_, rfl⟩
          have hy2 := trem5 Ki
          have y1 : -5 < yk := by omega
          have y2 : yk < 5 := by omega
          clear hy2
          obtain ⟨t, ht⟩ : ∃ t, (yk + 5) % 5 = t := ⟨_, rfl⟩
          have d9 := cell_of hR2.out.zc (j := 0) rfl
          go_upto_block 2 with fail
          generalize wr.alloc (.cells #[.int .i64 Ki, .int .i64 F, .int .i64 Q] 42) = w3 at *
          rw [ht]
          have t0 : 0 ≤ t := by omega
          have t5 : t < 5 := by omega
          clear ht hy y1 y2
          go_cut [8, 12, 13, 14, 15, 16] from 49 to 127 (fun v8 s12 s13 s14 s15 s16 wx => ∃ A, A.length ≤ i + 1 ∧ Hid ((∀ r ∈ A, r.1 ≤ 300000) ∧ Zz wc wx P X Y n (4 + 4 * (i + 1)) A v8))
          case first =>
            have c1 := cell_of hR2.out.zc (j := 1) rfl
            have c2 := cell_of hR2.out.zc (j := 2) rfl
            have hbd : Below w3.heap.size w3 w3.drew := (Below.refl _ _).drew
            have hm : 4 + 4 * i ≤ 900 := by omega
            clear hcells d0 d1 d2 d9
            rcases (show t < 3 ∨ t = 3 ∨ t = 4 by omega) with ht | rfl | rfl
            · have ca := z_alloc hR2.out hm Q
              clear hR2
              go_wp2_with fail
              with_reducible refine Calls.mono ca ?_
              rintro e w4 ⟨a, f, ⟨rfl, hz1, h4⟩, hfq⟩
              have x2 := cell_of hz1 (j := 2) rfl
              have cb := h4.out w4 (Below.refl _ _)
              clear ca h4 hz1 c1 c2 hbd
              go_wp2_with fail
              with_reducible refine Calls.mono cb ?_
              rintro e w5 ⟨rfl, hz2, h5⟩
              clear cb x2
              have e1 : (a == a) = true := by simp
              have e2 : (f == f) = true := by simp
              have x3 := cell_of hz2 (j := 2) rfl
              have hrow := h5.out.zz.row
              by_cases hf : f = 0
              · obtain ⟨p, q, rfl, rfl, p3, q3⟩ := hfq hf
                subst hf
                have hbd : A.length + 1 ≤ 1000000 := by omega
                have hfin : Hid (∀ v9 w9, GRow 2 w9 v9 (A.length + 1) (rc A ++ [.int .i64 (p : Int), .int .i64 (q : Int)]) → Wrote (fun k => u8.ownBlock = some k) (w5.alloc (.cells #[.int .i64 (p : Int), .int .i64 (q : Int)] 34)) (fun k => v9.ownBlock = some k) w9 → Zz wc w9 P X Y n (4 + 4 * (i + 1)) (A ++ [(p, q)]) v9) := Lib.hid fun v9 w9 g1 g2 => by
                  obtain ⟨F, H, hp⟩ := h5.out.zz
                  exact ⟨F, H, ((hp.below (below_alloc (Below.refl _ _) _)).lay g2 (by rw [rc_app, List.length_append]; exact g1)).mono (by omega)⟩
                clear h5 hfq
                go_wp2_with (at_builtin; refine wpList_append_g rfl (.tmp 100) (.tmp 105) rfl rfl eltA (hrow.below (below_alloc (Below.refl _ _) _)) rfl rfl (src_run (heap_alloc_new _ _)) hbd ?_; intro v9 w9 g1 g2; have hpa := Lib.hid (hfin.out v9 w9 g1 g2); clear g1 g2 hfin hrow hbd)
                go_meet
                exact ⟨A ++ [(p, q)], by simp; omega, Lib.hid ⟨fun r hr => (List.mem_append.1 hr).elim (hA3.out r) (fun h => by rw [List.mem_singleton.1 h]; exact p3), hpa.out⟩⟩
              · have e3 : (f == 0) = false := by simp; exact hf
                clear hfq hrow
                go_wp2_with fail
                go_meet
                exact ⟨A, by omega, Lib.hid ⟨hA3.out, h5.out.zz.mono (by omega)⟩⟩
            · have cz : Hid (∀ V, Below w3.heap.size w3 V → Calls Try.prog 9 #[.pointer (some ⟨P, 0, none⟩), .int .i64 F, .int .i64 Q] V fun e w' => ∃ r : Int, Two 15 #[.pointer (some ⟨X, 0, none⟩), .int .i64 F, .int .i64 Q] (.int .i64 r) wc P X Y n (4 + 4 * i + 4) A u8 z (.cells #[.int .i64 Ki, .int .i64 F, .int .i64 Q] 42 (0, 0)) e w') := Lib.hid fun V hV => z_free (hR2.out.below hV) hm F Q hF
              clear hR2
              go_wp2_with fail
              go_region_held3 (fun W' => W'.cell? ⟨z, 1, none⟩ = some (.int .i64 F) ∧ W'.cell? ⟨z, 2, none⟩ = some (.int .i64 Q)) (first | exact ⟨c1, c2⟩ | exact c1 | exact c2 | go_keep | assumption | exact ⟨cell_of hz1 (j := 1) rfl, cell_of hz1 (j := 2) rfl⟩ | exact ⟨cell_of hz2 (j := 1) rfl, cell_of hz2 (j := 2) rfl⟩) (first | (go_at_call 15; ((with_reducible refine (h4.out _ (by repeat (first | assumption | exact Below.refl _ _ | refine below_drewN ?_ _ | refine below_alloc ?_ _ | refine below_then ?_ (by assumption)))).mono ?_); rintro e w5 ⟨rfl, hz2, h5⟩)) | (go_at_call 9; ((with_reducible refine (cz.out _ (by repeat (first | assumption | exact Below.refl _ _ | refine below_drewN ?_ _ | refine below_alloc ?_ _ | refine below_then ?_ (by assumption)))).mono ?_); rintro e w4 ⟨r, rfl, hz1, h4⟩)))
              all_goals
                go_wp2_with fail
                go_meet
                exact ⟨A, by omega, Lib.hid ⟨hA3.out, h5.out.zz.mono (by omega)⟩⟩
            · by_cases hA0 : A.length = 0
              · have cz : Hid (∀ V, Below w3.heap.size w3 V → Calls Try.prog 9 #[.pointer (some ⟨P, 0, none⟩), .int .i64 F, .int .i64 Q] V fun e w' => ∃ r : Int, Two 15 #[.pointer (some ⟨X, 0, none⟩), .int .i64 F, .int .i64 Q] (.int .i64 r) wc P X Y n (4 + 4 * i + 4) A u8 z (.cells #[.int .i64 Ki, .int .i64 F, .int .i64 Q] 42 (0, 0)) e w') := Lib.hid fun V hV => z_free (hR2.out.below hV) hm F Q hF
                obtain ⟨s8, c8, rfl⟩ := hR2.out.zz.row.slice
                obtain ⟨m8, hm8⟩ : ∃ m8, A.length = m8 := ⟨_, rfl⟩
                rw [hm8] at cz hA ⊢
                replace hm8 := Lib.hid hm8
                obtain rfl : m8 = 0 := by have := hm8.out; omega
                clear hR2
                go_wp2_with fail
                go_region_held3 (fun W' => W'.cell? ⟨z, 1, none⟩ = some (.int .i64 F) ∧ W'.cell? ⟨z, 2, none⟩ = some (.int .i64 Q)) (first | exact ⟨c1, c2⟩ | exact c1 | exact c2 | go_keep | assumption | exact ⟨cell_of hz1 (j := 1) rfl, cell_of hz1 (j := 2) rfl⟩ | exact ⟨cell_of hz2 (j := 1) rfl, cell_of hz2 (j := 2) rfl⟩) (first | (go_at_call 15; ((with_reducible refine (h4.out _ (by repeat (first | assumption | exact Below.refl _ _ | refine below_drewN ?_ _ | refine below_alloc ?_ _ | refine below_then ?_ (by assumption)))).mono ?_); rintro e w5 ⟨rfl, hz2, h5⟩)) | (go_at_call 9; ((with_reducible refine (cz.out _ (by repeat (first | assumption | exact Below.refl _ _ | refine below_drewN ?_ _ | refine below_alloc ?_ _ | refine below_then ?_ (by assumption)))).mono ?_); rintro e w4 ⟨r, rfl, hz1, h4⟩)))
                all_goals
                  go_wp2_with fail
                  go_meet
                  exact ⟨A, by have := hm8.out; omega, Lib.hid ⟨hA3.out, h5.out.zz.mono (by omega)⟩⟩
              · obtain ⟨m8, hm8⟩ : ∃ m8, A.length = m8 := ⟨_, rfl⟩
                obtain ⟨ZF, hZ⟩ : ∃ ZF : Int, IntKind.u64.wrap F = ZF := ⟨_, rfl⟩
                have Z0 : 0 ≤ ZF := by rw [← hZ, IntKind.wrap_u64]; omega
                have m0 : ¬ ((m8 : Int) = 0) := by omega
                have m1 : ((m8 : Int) == 0) = false := by simp; omega
                have m2 : ¬ (m8 = 0) := by omega
                have m3 : (m8 : Int) ≤ 60 := by omega
                obtain ⟨κ, hκ⟩ : ∃ κ : Nat, ZF % (m8 : Int) = (κ : Int) := ⟨(ZF % (m8 : Int)).toNat, by have := Int.emod_nonneg ZF m0; omega⟩
                have κn : κ < m8 := by have := Int.emod_lt_of_pos ZF (show (0 : Int) < (m8 : Int) by omega); omega
                have κ0 : (0 : Int) ≤ (κ : Int) := by omega
                have κ1 : (κ : Int) < (m8 : Int) := by omega
                obtain ⟨b8, o8, c8, rfl, d1, d2⟩ := row_at hR2.out.zz.row (i := κ) (by omega)
                have hfsb := hA3.out (A.getD κ (0, 0)) (by rw [List.getD_eq_getElem?_getD, List.getElem?_eq_getElem (show κ < A.length by omega)]; exact List.getElem_mem _)
                generalize A.getD κ (0, 0) = fs at d1 d2 hfsb
                obtain ⟨f, s⟩ := fs
                simp only at d1 d2 hfsb
                obtain ⟨z2, hz⟩ : ∃ z2, w3.heap.size = z2 := ⟨_, rfl⟩
                have hR3 : Hid (Bz wc (w3.alloc (.cells #[.int .i64 (f : Int), .int .i64 (s : Int)] 34)) P X Y n (4 + 4 * i) A (.slice (some ⟨b8, o8, none⟩) A.length c8) z2 (.cells #[.int .i64 (f : Int), .int .i64 (s : Int)] 34 (0, 0))) := Lib.hid (bz_of hR2.out.zz hz)
                rw [hm8] at hR3 hA ⊢
                replace hm8 := Lib.hid hm8
                clear hR2
                go_wp2_with fail
                generalize w3.alloc (.cells #[.int .i64 (f : Int), .int .i64 (s : Int)] 34) = w6 at *
                have c1 := cell_of hR3.out.zc (j := 0) rfl
                have c2 := cell_of hR3.out.zc (j := 1) rfl
                have hbd : Below w6.heap.size w6 w6.drew := (Below.refl _ _).drew
                have cz : Hid (∀ V, Below w6.heap.size w6 V → Calls Try.prog 9 #[.pointer (some ⟨P, 0, none⟩), .int .i64 f, .int .i64 s] V fun e w' => ∃ r : Int, Two 15 #[.pointer (some ⟨X, 0, none⟩), .int .i64 f, .int .i64 s] (.int .i64 r) wc P X Y n (4 + 4 * i + 4) A (.slice (some ⟨b8, o8, none⟩) m8 c8) z2 (.cells #[.int .i64 (f : Int), .int .i64 (s : Int)] 34 (0, 0)) e w') := Lib.hid fun V hV => z_free (hR3.out.below hV) hm f s (by omega)
                clear hR3 d1 d2
                go_region_held3 (fun W' => W'.cell? ⟨z2, 0, none⟩ = some (.int .i64 (f : Int)) ∧ W'.cell? ⟨z2, 1, none⟩ = some (.int .i64 (s : Int))) (first | exact ⟨c1, c2⟩ | exact c1 | exact c2 | go_keep | assumption | exact ⟨cell_of hz1 (j := 0) rfl, cell_of hz1 (j := 1) rfl⟩ | exact ⟨cell_of hz2 (j := 0) rfl, cell_of hz2 (j := 1) rfl⟩) (first | (go_at_call 15; ((with_reducible refine (h4.out _ (by repeat (first | assumption | exact Below.refl _ _ | refine below_drewN ?_ _ | refine below_alloc ?_ _ | refine below_then ?_ (by assumption)))).mono ?_); rintro e w5 ⟨rfl, hz2, h5⟩)) | (go_at_call 9; ((with_reducible refine (cz.out _ (by repeat (first | assumption | exact Below.refl _ _ | refine below_drewN ?_ _ | refine below_alloc ?_ _ | refine below_then ?_ (by assumption)))).mono ?_); rintro e w4 ⟨r, rfl, hz1, h4⟩)))
                all_goals
                  go_wp2_with fail
                  go_meet
                  exact ⟨A, by have := hm8.out; omega, Lib.hid ⟨hA3.out, h5.out.zz.mono (by omega)⟩⟩
          case rest =>
            clear hR2 hcells d0 d1 d2 d9 hA hA3
            obtain ⟨A2, hA2, hZ⟩ := hcut
            have cz := z_runs hZ.out.2
            have hA3 := Lib.hid hZ.out.1
            clear hZ
            go_wp2_with fail
            with_reducible refine Calls.mono cz ?_
            rintro e w4 ⟨v1, rfl, h4⟩
            have cz := h4.out w4 (Below.refl _ _)
            clear h4
            go_wp2_with fail
            with_reducible refine Calls.mono cz ?_
            rintro e w5 ⟨v2, rfl, h5⟩
            have cz := h5.out w5 (Below.refl _ _)
            clear h5
            go_wp2_with fail
            with_reducible refine Calls.mono cz ?_
            rintro e w6 ⟨rfl, r, h6⟩
            have cz := h6.out w6 (Below.refl _ _)
            clear h6
            go_wp2_with fail
            with_reducible refine Calls.mono cz ?_
            rintro e w7 ⟨rfl, h7⟩
            have cz := h7.out w7 (Below.refl _ _)
            clear h7
            go_wp2_with fail
            with_reducible refine Calls.mono cz ?_
            rintro e w8 ⟨rfl, h8⟩
            clear cz
            have e1 : (r == r) = true := by simp
            go_wp2_with fail
            go_roundw
            case rel => exact ⟨i + 1, by go_num, by omega, by omega, Lib.hid ⟨A2, hA2, hA3.out, h8.out⟩⟩
            case measure => simp [RowKit.intOf]; omega
        · have ct := told_any wr
          have hbw := Lib.hid hR.bel
          clear hcells hR hA hA3
          by_cases hkl : i < l
          all_goals
            first
              | (have i2 : (i : Int) < (l : Int) := by omega
                 have i3 : ¬ (i : Int) < 60 := by omega)
              | (have i2 : ¬ (i : Int) < (l : Int) := by omega)
            go_wp2_with fail
            with_reducible refine Calls.mono ct ?_
            rintro e w4 ⟨rfl, hb4⟩
            go_wp2_with fail
            go_ret
            exact ⟨rfl, hbw.out.trans (hb4.mono hbw.out.size)⟩
    · have cn := new_any a0 wc
      have cx := Lib.hid (fun W => rnew_any a0 W)
      obtain ⟨n, hn⟩ : ∃ n, many a0 = n := ⟨_, rfl⟩
      have n200 : n ≤ 200 := by rw [← hn]; unfold many; omega
      rw [hn] at cn cx
      clear hn
      go_wp2_with fail
      with_reducible refine Calls.mono cn ?_
      rintro e w1 ⟨P, rfl, hps⟩
      have cx := cx.out w1
      clear cn
      go_wp2_with fail
      with_reducible refine Calls.mono cx ?_
      rintro e w2 ⟨X, Y, rfl, x1, x2, hx, hb⟩
      have hW := Lib.hid (start_both hps x1 x2 hx hb)
      clear cx hps x1 x2 hx hb
      go_wp2_with fail
      go_loopw [8, 9, 10, 11, 12, 13, 14, 15, 16] (fun u8 u9 u10 u11 u12 u13 u14 u15 u16 wr => ∃ i : Nat, u9 = .int .i64 i ∧ i ≤ l ∧ i ≤ 60 ∧ Hid (∃ A, A.length ≤ i ∧ (∀ r ∈ A, r.1 ≤ 300000) ∧ Zz wc wr P X Y n (4 + 4 * i) A u8)) (fun _ y _ _ _ _ _ _ _ _ => (60 - (RowKit.intOf y).toNat))
      case atStart => exact ⟨0, rfl, by omega, by omega, Lib.hid ⟨[], Nat.le_refl _, fun r h => (by cases h), hW.out⟩⟩
      case round =>
        clear hW
        obtain ⟨i, rfl, il, i60, hR⟩ := hrel
        obtain ⟨A, hA, hA3, hR⟩ := hR.out
        replace hA3 := Lib.hid hA3
        by_cases hk : i < l ∧ i < 60
        · obtain ⟨hk1, hk2⟩ := hk
          have i2 : (i : Int) < (l : Int) := by omega
          have i3 : (i : Int) < 60 := by omega
          have i0 : (0 : Int) ≤ (i : Int) := by omega
          obtain ⟨b, off, Ki, F, Q, rfl, d0, d1, d2, hF⟩ := hcells.out wr hR.bel i hk1
          obtain ⟨z, hz⟩ : ∃ z, wr.heap.size = z := ⟨_, rfl⟩
          have hR2 : Hid (Bz wc (wr.alloc (.cells #[.int .i64 Ki, .int .i64 F, .int .i64 Q] 42)) P X Y n (4 + 4 * i) A u8 z (.cells #[.int .i64 Ki, .int .i64 F, .int .i64 Q] 42 (0, 0))) := Lib.hid (bz_of hR hz)
          clear hR
          obtain ⟨yk, hy⟩ : ∃ yk, Ki.tmod 5 = yk := ⟨_, rfl⟩
          have hy2 := trem5 Ki
          have y1 : -5 < yk := by omega
          have y2 : yk < 5 := by omega
          clear hy2
          obtain ⟨t, ht⟩ : ∃ t, (yk + 5) % 5 = t := ⟨_, rfl⟩
          have d9 := cell_of hR2.out.zc (j := 0) rfl
          go_upto_block 2 with fail
          generalize wr.alloc (.cells #[.int .i64 Ki, .int .i64 F, .int .i64 Q] 42) = w3 at *
          rw [ht]
          have t0 : 0 ≤ t := by omega
          have t5 : t < 5 := by omega
          clear ht hy y1 y2
          go_cut [8, 12, 13, 14, 15, 16] from 49 to 127 (fun v8 s12 s13 s14 s15 s16 wx => ∃ A, A.length ≤ i + 1 ∧ Hid ((∀ r ∈ A, r.1 ≤ 300000) ∧ Zz wc wx P X Y n (4 + 4 * (i + 1)) A v8))
          case first =>
            have c1 := cell_of hR2.out.zc (j := 1) rfl
            have c2 := cell_of hR2.out.zc (j := 2) rfl
            have hbd : Below w3.heap.size w3 w3.drew := (Below.refl _ _).drew
            have hm : 4 + 4 * i ≤ 900 := by omega
            clear hcells d0 d1 d2 d9
            rcases (show t < 3 ∨ t = 3 ∨ t = 4 by omega) with ht | rfl | rfl
            · have ca := z_alloc hR2.out hm Q
              clear hR2
              go_wp2_with fail
              with_reducible refine Calls.mono ca ?_
              rintro e w4 ⟨a, f, ⟨rfl, hz1, h4⟩, hfq⟩
              have x2 := cell_of hz1 (j := 2) rfl
              have cb := h4.out w4 (Below.refl _ _)
              clear ca h4 hz1 c1 c2 hbd
              go_wp2_with fail
              with_reducible refine Calls.mono cb ?_
              rintro e w5 ⟨rfl, hz2, h5⟩
              clear cb x2
              have e1 : (a == a) = true := by simp
              have e2 : (f == f) = true := by simp
              have x3 := cell_of hz2 (j := 2) rfl
              have hrow := h5.out.zz.row
              by_cases hf : f = 0
              · obtain ⟨p, q, rfl, rfl, p3, q3⟩ := hfq hf
                subst hf
                have hbd : A.length + 1 ≤ 1000000 := by omega
                have hfin : Hid (∀ v9 w9, GRow 2 w9 v9 (A.length + 1) (rc A ++ [.int .i64 (p : Int), .int .i64 (q : Int)]) → Wrote (fun k => u8.ownBlock = some k) (w5.alloc (.cells #[.int .i64 (p : Int), .int .i64 (q : Int)] 34)) (fun k => v9.ownBlock = some k) w9 → Zz wc w9 P X Y n (4 + 4 * (i + 1)) (A ++ [(p, q)]) v9) := Lib.hid fun v9 w9 g1 g2 => by
                  obtain ⟨F, H, hp⟩ := h5.out.zz
                  exact ⟨F, H, ((hp.below (below_alloc (Below.refl _ _) _)).lay g2 (by rw [rc_app, List.length_append]; exact g1)).mono (by omega)⟩
                clear h5 hfq
                go_wp2_with (at_builtin; refine wpList_append_g rfl (.tmp 100) (.tmp 105) rfl rfl eltA (hrow.below (below_alloc (Below.refl _ _) _)) rfl rfl (src_run (heap_alloc_new _ _)) hbd ?_; intro v9 w9 g1 g2; have hpa := Lib.hid (hfin.out v9 w9 g1 g2); clear g1 g2 hfin hrow hbd)
                go_meet
                exact ⟨A ++ [(p, q)], by simp; omega, Lib.hid ⟨fun r hr => (List.mem_append.1 hr).elim (hA3.out r) (fun h => by rw [List.mem_singleton.1 h]; exact p3), hpa.out⟩⟩
              · have e3 : (f == 0) = false := by simp; exact hf
                clear hfq hrow
                go_wp2_with fail
                go_meet
                exact ⟨A, by omega, Lib.hid ⟨hA3.out, h5.out.zz.mono (by omega)⟩⟩
            · have cz : Hid (∀ V, Below w3.heap.size w3 V → Calls Try.prog 9 #[.pointer (some ⟨P, 0, none⟩), .int .i64 F, .int .i64 Q] V fun e w' => ∃ r : Int, Two 15 #[.pointer (some ⟨X, 0, none⟩), .int .i64 F, .int .i64 Q] (.int .i64 r) wc P X Y n (4 + 4 * i + 4) A u8 z (.cells #[.int .i64 Ki, .int .i64 F, .int .i64 Q] 42 (0, 0)) e w') := Lib.hid fun V hV => z_free (hR2.out.below hV) hm F Q hF
              clear hR2
              go_wp2_with fail
              go_region_held3 (fun W' => W'.cell? ⟨z, 1, none⟩ = some (.int .i64 F) ∧ W'.cell? ⟨z, 2, none⟩ = some (.int .i64 Q)) (first | exact ⟨c1, c2⟩ | exact c1 | exact c2 | go_keep | assumption | exact ⟨cell_of hz1 (j := 1) rfl, cell_of hz1 (j := 2) rfl⟩ | exact ⟨cell_of hz2 (j := 1) rfl, cell_of hz2 (j := 2) rfl⟩) (first | (go_at_call 15; ((with_reducible refine (h4.out _ (by repeat (first | assumption | exact Below.refl _ _ | refine below_drewN ?_ _ | refine below_alloc ?_ _ | refine below_then ?_ (by assumption)))).mono ?_); rintro e w5 ⟨rfl, hz2, h5⟩)) | (go_at_call 9; ((with_reducible refine (cz.out _ (by repeat (first | assumption | exact Below.refl _ _ | refine below_drewN ?_ _ | refine below_alloc ?_ _ | refine below_then ?_ (by assumption)))).mono ?_); rintro e w4 ⟨r, rfl, hz1, h4⟩)))
              all_goals
                go_wp2_with fail
                go_meet
                exact ⟨A, by omega, Lib.hid ⟨hA3.out, h5.out.zz.mono (by omega)⟩⟩
            · by_cases hA0 : A.length = 0
              · have cz : Hid (∀ V, Below w3.heap.size w3 V → Calls Try.prog 9 #[.pointer (some ⟨P, 0, none⟩), .int .i64 F, .int .i64 Q] V fun e w' => ∃ r : Int, Two 15 #[.pointer (some ⟨X, 0, none⟩), .int .i64 F, .int .i64 Q] (.int .i64 r) wc P X Y n (4 + 4 * i + 4) A u8 z (.cells #[.int .i64 Ki, .int .i64 F, .int .i64 Q] 42 (0, 0)) e w') := Lib.hid fun V hV => z_free (hR2.out.below hV) hm F Q hF
                obtain ⟨s8, c8, rfl⟩ := hR2.out.zz.row.slice
                obtain ⟨m8, hm8⟩ : ∃ m8, A.length = m8 := ⟨_, rfl⟩
                rw [hm8] at cz hA ⊢
                replace hm8 := Lib.hid hm8
                obtain rfl : m8 = 0 := by have := hm8.out; omega
                clear hR2
                go_wp2_with fail
                go_region_held3 (fun W' => W'.cell? ⟨z, 1, none⟩ = some (.int .i64 F) ∧ W'.cell? ⟨z, 2, none⟩ = some (.int .i64 Q)) (first | exact ⟨c1, c2⟩ | exact c1 | exact c2 | go_keep | assumption | exact ⟨cell_of hz1 (j := 1) rfl, cell_of hz1 (j := 2) rfl⟩ | exact ⟨cell_of hz2 (j := 1) rfl, cell_of hz2 (j := 2) rfl⟩) (first | (go_at_call 15; ((with_reducible refine (h4.out _ (by repeat (first | assumption | exact Below.refl _ _ | refine below_drewN ?_ _ | refine below_alloc ?_ _ | refine below_then ?_ (by assumption)))).mono ?_); rintro e w5 ⟨rfl, hz2, h5⟩)) | (go_at_call 9; ((with_reducible refine (cz.out _ (by repeat (first | assumption | exact Below.refl _ _ | refine below_drewN ?_ _ | refine below_alloc ?_ _ | refine below_then ?_ (by assumption)))).mono ?_); rintro e w4 ⟨r, rfl, hz1, h4⟩)))
                all_goals
                  go_wp2_with fail
                  go_meet
                  exact ⟨A, by have := hm8.out; omega, Lib.hid ⟨hA3.out, h5.out.zz.mono (by omega)⟩⟩
              · obtain ⟨m8, hm8⟩ : ∃ m8, A.length = m8 := ⟨_, rfl⟩
                obtain ⟨ZF, hZ⟩ : ∃ ZF : Int, IntKind.u64.wrap F = ZF := ⟨_, rfl⟩
                have Z0 : 0 ≤ ZF := by rw [← hZ, IntKind.wrap_u64]; omega
                have m0 : ¬ ((m8 : Int) = 0) := by omega
                have m1 : ((m8 : Int) == 0) = false := by simp; omega
                have m2 : ¬ (m8 = 0) := by omega
                have m3 : (m8 : Int) ≤ 60 := by omega
                obtain ⟨κ, hκ⟩ : ∃ κ : Nat, ZF % (m8 : Int) = (κ : Int) := ⟨(ZF % (m8 : Int)).toNat, by have := Int.emod_nonneg ZF m0; omega⟩
                have κn : κ < m8 := by have := Int.emod_lt_of_pos ZF (show (0 : Int) < (m8 : Int) by omega); omega
                have κ0 : (0 : Int) ≤ (κ : Int) := by omega
                have κ1 : (κ : Int) < (m8 : Int) := by omega
                obtain ⟨b8, o8, c8, rfl, d1, d2⟩ := row_at hR2.out.zz.row (i := κ) (by omega)
                have hfsb := hA3.out (A.getD κ (0, 0)) (by rw [List.getD_eq_getElem?_getD, List.getElem?_eq_getElem (show κ < A.length by omega)]; exact List.getElem_mem _)
                generalize A.getD κ (0, 0) = fs at d1 d2 hfsb
                obtain ⟨f, s⟩ := fs
                simp only at d1 d2 hfsb
                obtain ⟨z2, hz⟩ : ∃ z2, w3.heap.size = z2 := ⟨_, rfl⟩
                have hR3 : Hid (Bz wc (w3.alloc (.cells #[.int .i64 (f : Int), .int .i64 (s : Int)] 34)) P X Y n (4 + 4 * i) A (.slice (some ⟨b8, o8, none⟩) A.length c8) z2 (.cells #[.int .i64 (f : Int), .int .i64 (s : Int)] 34 (0, 0))) := Lib.hid (bz_of hR2.out.zz hz)
                rw [hm8] at hR3 hA ⊢
                replace hm8 := Lib.hid hm8
                clear hR2
                go_wp2_with fail
                generalize w3.alloc (.cells #[.int .i64 (f : Int), .int .i64 (s : Int)] 34) = w6 at *
                have c1 := cell_of hR3.out.zc (j := 0) rfl
                have c2 := cell_of hR3.out.zc (j := 1) rfl
                have hbd : Below w6.heap.size w6 w6.drew := (Below.refl _ _).drew
                have cz : Hid (∀ V, Below w6.heap.size w6 V → Calls Try.prog 9 #[.pointer (some ⟨P, 0, none⟩), .int .i64 f, .int .i64 s] V fun e w' => ∃ r : Int, Two 15 #[.pointer (some ⟨X, 0, none⟩), .int .i64 f, .int .i64 s] (.int .i64 r) wc P X Y n (4 + 4 * i + 4) A (.slice (some ⟨b8, o8, none⟩) m8 c8) z2 (.cells #[.int .i64 (f : Int), .int .i64 (s : Int)] 34 (0, 0)) e w') := Lib.hid fun V hV => z_free (hR3.out.below hV) hm f s (by omega)
                clear hR3 d1 d2
                go_region_held3 (fun W' => W'.cell? ⟨z2, 0, none⟩ = some (.int .i64 (f : Int)) ∧ W'.cell? ⟨z2, 1, none⟩ = some (.int .i64 (s : Int))) (first | exact ⟨c1, c2⟩ | exact c1 | exact c2 | go_keep | assumption | exact ⟨cell_of hz1 (j := 0) rfl, cell_of hz1 (j := 1) rfl⟩ | exact ⟨cell_of hz2 (j := 0) rfl, cell_of hz2 (j := 1) rfl⟩) (first | (go_at_call 15; ((with_reducible refine (h4.out _ (by repeat (first | assumption | exact Below.refl _ _ | refine below_drewN ?_ _ | refine below_alloc ?_ _ | refine below_then ?_ (by assumption)))).mono ?_); rintro e w5 ⟨rfl, hz2, h5⟩)) | (go_at_call 9; ((with_reducible refine (cz.out _ (by repeat (first | assumption | exact Below.refl _ _ | refine below_drewN ?_ _ | refine below_alloc ?_ _ | refine below_then ?_ (by assumption)))).mono ?_); rintro e w4 ⟨r, rfl, hz1, h4⟩)))
                all_goals
                  go_wp2_with fail
                  go_meet
                  exact ⟨A, by have := hm8.out; omega, Lib.hid ⟨hA3.out, h5.out.zz.mono (by omega)⟩⟩
          case rest =>
            clear hR2 hcells d0 d1 d2 d9 hA hA3
            obtain ⟨A2, hA2, hZ⟩ := hcut
            have cz := z_runs hZ.out.2
            have hA3 := Lib.hid hZ.out.1
            clear hZ
            go_wp2_with fail
            with_reducible refine Calls.mono cz ?_
            rintro e w4 ⟨v1, rfl, h4⟩
            have cz := h4.out w4 (Below.refl _ _)
            clear h4
            go_wp2_with fail
            with_reducible refine Calls.mono cz ?_
            rintro e w5 ⟨v2, rfl, h5⟩
            have cz := h5.out w5 (Below.refl _ _)
            clear h5
            go_wp2_with fail
            with_reducible refine Calls.mono cz ?_
            rintro e w6 ⟨rfl, r, h6⟩
            have cz := h6.out w6 (Below.refl _ _)
            clear h6
            go_wp2_with fail
            with_reducible refine Calls.mono cz ?_
            rintro e w7 ⟨rfl, h7⟩
            have cz := h7.out w7 (Below.refl _ _)
            clear h7
            go_wp2_with fail
            with_reducible refine Calls.mono cz ?_
            rintro e w8 ⟨rfl, h8⟩
            clear cz
            have e1 : (r == r) = true := by simp
            go_wp2_with fail
            go_roundw
            case rel => exact ⟨i + 1, by go_num, by omega, by omega, Lib.hid ⟨A2, hA2, hA3.out, h8.out⟩⟩
            case measure => simp [RowKit.intOf]; omega
        · have ct := told_any wr
          have hbw := Lib.hid hR.bel
          clear hcells hR hA hA3
          by_cases hkl : i < l
          all_goals
            first
              | (have i2 : (i : Int) < (l : Int) := by omega
                 have i3 : ¬ (i : Int) < 60 := by omega)
              | (have i2 : ¬ (i : Int) < (l : Int) := by omega)
            go_wp2_with fail
            with_reducible refine Calls.mono ct ?_
            rintro e w4 ⟨rfl, hb4⟩
            go_wp2_with fail
            go_ret
            exact ⟨rfl, hbw.out.trans (hb4.mono hbw.out.size)⟩

set_option maxRecDepth 100000 in
theorem lifted (os : Os) (started : os.Started) (H : Type) (enc : TypeId × Value → H) :
    ReturnsInHanded {} Try.checked os 5 .any (Rows.pagePlaysSpec.pre6 enc Try.prog Try.f5 Rows.pagePlaysRow.domain false) (Rows.pagePlaysSpec.post enc Try.prog Try.f5 false true false false) := by
  refine returnsInHanded_of_change (C := Try.checked) own started (by kernel_rfl) Try.func5
    (ChangeSpec.witness6 (enc := enc) (C := Try.checked) false ⟨#[], #[.int .i64 0, .slice none 0 0], []⟩ 8 (by kernel_rfl) (by kernel_rfl) (by kernel_rfl) (by kernel_rfl)) ?_
  intro W base args ds gs before hval0 hW hcnd _
  have hval : ∀ (j : Nat) t v, Try.f5.params[j]? = some t → args[j]? = some v → Value.okWide Try.prog W .any base t v := hval0
  have hW' := hW
  obtain ⟨p, q, hA0, hV, rfl, hfz, hnd⟩ := hW
  have hA : DataW.TrodAll enc Try.prog W 0 (fun _ => true) true Try.f5.params.toList args.toList ds p := hA0
  rw [Try.params5] at hA hval
  obtain ⟨v0, vs0, d0, ds0, p0, q0, hargs, rfl, rfl, h0, r0⟩ := trodAll_cons hA
  obtain ⟨v1, vs1, d1, ds1, p1, q1, rfl, rfl, rfl, h1, r1⟩ := trodAll_cons r0
  obtain ⟨rfl, rfl, rfl⟩ := trodAll_nil r1
  obtain rfl : args = #[v0, v1] := by cases args; simp_all
  obtain ⟨rfl, rfl⟩ := trodVars_none hV
  obtain ⟨zb1, i1⟩ := op5_arg (hval 1 38 v1 rfl rfl) h1
  obtain ⟨a0, rfl, rfl, rfl, w0⟩ := open_int Try.underlying3 (hval 0 3 v0 rfl rfl) h0
  clear hA0 hval0
  simp only [List.append_nil] at hW'
  have lt1 : ∀ x ∈ p1, x.block < W.heap.size := fun x hx => by have := hW'.lt x (by simp [hx]); simpa using this
  refine (walk a0 v1 zb1 W w0 i1).mono fun e W' ⟨he, hg⟩ => ?_
  subst he
  exact ⟨_, rfl, post_of_kept (pa := _) (pv := []) hW' (fun _ _ _ => (trodAll_cons_mk (shut_bool Try.underlying4 _) trodAll_mk0)) (trodAll_cons_mk (shut_int Try.underlying3 w0) (trodAll_cons_mk (Below.trod laidOut (by kernel_rfl) (of_decide_eq_true (by kernel_rfl)) h1 hg lt1) trodAll_mk0)) (fun _ _ => rfl) (by simp) hg⟩

theorem over : Rows.pagePlaysRow.holds Try.pinned (OpenSpec.ofChange Rows.pagePlaysSpec) :=
  OpenClaim.holds_of_wide 5 Try.f5 rfl rfl rfl rfl rfl rfl rfl ⟨rfl, rfl, rfl, rfl, rfl⟩ rfl rfl rfl rfl rfl (by kernel_rfl) Try.func5 (by kernel_rfl)
    (of_decide_eq_true (by kernel_rfl)) (by unfold Func.isWrapper; first | (rw [if_pos (by decide +kernel)]; kernel_rfl) | (rw [if_neg (by decide +kernel)]; exact ⟨rfl, rfl⟩))
    (fun os started H enc _ => lifted os started H enc)

theorem proved : Rows.PagePlaysSaid :=
  over
#print axioms proved
end Go.Proofs.Ytbheabjemaaeoab.pagePlays
