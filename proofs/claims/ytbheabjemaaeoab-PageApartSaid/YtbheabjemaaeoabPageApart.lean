/- PageApart: what Alloc hands out never overlaps; when all has come back there is one run again. -/
import Derived.Test.YtbheabjemaaeoabHome
import Derived.Test.YtbheabjemaaeoabPageApM
import Derived.WalkKit
import Derived.ProofKit
import Derived.OpenShut
import Derived.Deep.RegionHeld3
import Derived.Deep.RegionWith
import Derived.Deep.Cut
import Derived.Deep.CutBlock
import Derived.Deep.CutRange
import Derived.Deep.LoopGhost
import Derived.Deep.DeepCutAuto
import Derived.RegionTactic
import Derived.StillTailTactics
namespace Go.Proofs.Ytbheabjemaaeoab.pageApart
open Go.ChangeShapes Go.WideShapes Go.ChangeAt Go.WideElems Go.RowKit Go.Lib Fx Ho Pg Gr
set_option linter.unusedVariables false

theorem own : ownKnob Try.prog.godebug = none := by kernel_rfl

set_option maxRecDepth 100000 in
set_option maxHeartbeats 4000000 in
theorem walk (v0 : Value) (z0 : List Int) (a1 : Int) (w : World) (h0 : Ints w (fun k => k < w.heap.size) v0 z0) (w1 : (Lit.int .i64 a1).wf = true) :
    Calls Try.prog 4 #[v0, .int .i64 a1] w fun e w' => e = .returned (.bool true) ∧ Below w.heap.size w w' := by
  have ct := fun w => told_any w
  obtain ⟨sp, cap, rfl, hm, hc⟩ := h0
  obtain ⟨l, hl⟩ : ∃ l, z0.length = l := ⟨_, rfl⟩
  rw [hl] at hm hc ⊢
  clear hl
  have hcx : Hid (∀ wr, Below w.heap.size w wr → ∀ j, j < l → ∃ bb off, sp = some ⟨bb, off, none⟩ ∧ wr.cell? ⟨bb, off + j, none⟩ = some (.int .i64 (z0.getD j 0))) := Lib.hid fun wr hb j hj => by
    obtain ⟨bb, off, e, _, _, d0⟩ := hc j hj
    exact ⟨bb, off, e, cell_then hb d0⟩
  clear hc
  by_cases hg : 40 < l
  · clear hcx
    have i1 : (40 : Int) < (l : Int) := by omega
    have ct := ct w
    go_enter Try.func4, Try.ntmps4
    go_wp2_with fail
    with_reducible refine Calls.mono ct ?_
    rintro e w' ⟨rfl, hb⟩
    go_wp2_with fail
    go_ret
    exact ⟨rfl, hb⟩
  · have i1 : ¬ (40 : Int) < (l : Int) := by omega
    have l40 : l ≤ 40 := by omega
    clear hg
    have cn := new_any 400 w
    rw [show many 400 = 400 from rfl] at cn
    obtain ⟨ti, hi, hz0, hz1, hz2⟩ := info_parts infoBool
    go_enter Try.func4, Try.ntmps4
    go_wp2_with fail
    with_reducible refine Calls.mono cn ?_
    rintro e w1 ⟨P, rfl, hps⟩
    clear cn
    have key : Hid (∀ w2, w2.ownsRow w1.heap.size 4 1 (.slice (some ⟨w1.heap.size, 0, none⟩) 400 400) 400 (madeCells (Value.bool false).cells (400 * 1)).toList → w1.grownBy w2 none → Hid (∃ F G H, Pa w w2 P w1.heap.size 4 F G [] (.slice none 0 0) H ∧ Rd F G [] 0)) := Lib.hid fun w2 ho hg => by
      obtain ⟨H1, hps⟩ := hps.out
      exact Lib.hid (pa_start hps ho hg)
    clear hps
    obtain ⟨B, hB⟩ : ∃ B, w1.heap.size = B := ⟨_, rfl⟩
    go_wp2_with (refine wpList_make_full _ rfl _ _ 28 rfl w1.heap.size 4 ti (.bool false) 1 Try.underlying28 hi hz0 hz1 .i64 .i64 _ _ 400 rfl rfl rfl rfl (by rw [hz2]; omega) (by unfold maxLen; omega) (Nat.le_refl _) ?_; intro w2 hown1 hgrow1; have k1 := key.out w2 hown1 hgrow1; clear hown1 hgrow1 key)
    rw [hB] at k1
    clear hB
    go_loopw [7, 8, 9, 10, 11, 12, 13, 14] (fun u7 u8 u9 u10 u11 u12 u13 u14 wr => ∃ (i : Nat), u8 = .int .i64 i ∧ i ≤ l ∧ Hid (∃ F G A H, Pa w wr P B (4 + 8 * i) F G A u7 H ∧ Rd F G A i)) (fun _ i _ _ _ _ _ _ _ => (l - (RowKit.intOf i).toNat))
    case atStart =>
      obtain ⟨F, G, H, h1, h2⟩ := k1.out
      exact ⟨0, rfl, by omega, Lib.hid ⟨F, G, [], H, h1, h2⟩⟩
    case round =>
      clear k1
      obtain ⟨i, rfl, j1, hpa⟩ := hrel
      obtain ⟨F, G, A, H, hpa, hrd⟩ := hpa.out
      by_cases hi : i < l
      · have i2 : (i : Int) < (l : Int) := by omega
        have ii0 : (0 : Int) ≤ (i : Int) := by omega
        obtain ⟨bb, off, rfl, d0⟩ := hcx.out wr hpa.ps.out i hi
        obtain ⟨Y, hY⟩ : ∃ Y : Int, IntKind.u64.wrap (z0.getD i 0) = Y := ⟨_, rfl⟩
        have Y0 : 0 ≤ Y := by rw [← hY, IntKind.wrap_u64]; omega
        obtain ⟨k, hk⟩ : ∃ k : Nat, 1 + Y % 9 = (k : Int) := ⟨(1 + Y % 9).toNat, by omega⟩
        have k1 : 1 ≤ k := by omega
        have k9 : k ≤ 9 := by omega
        have ca := hpa.alloc (by omega) k1 hrd.2.2.2 (by omega)
        have hAl := hrd.2.1
        have hF := Lib.hid hpa.ps.len
        have hGl := Lib.hid hpa.gl
        replace hrd := Lib.hid hrd
        clear hpa
        generalize z0.getD i 0 = x at *
        go_wp2_with fail
        with_reducible refine Calls.mono ca ?_
        rintro e w3 ⟨a, rfl, a1, ak, at1, hf, hpa⟩
        clear ca
        have y1 : ¬ (a : Int) < 1 := by omega
        have y2 : ¬ (400 : Int) < (a : Int) + (k : Int) := by omega
        have aa0 : (0 : Int) ≤ (a : Int) := by omega
        have kk0 : (0 : Int) ≤ (k : Int) := by omega
        go_wp2_with fail
        replace hf := Lib.hid hf.out
        have hpa : Hid (∃ H, Pa w w3 P B (4 + 8 * i + 4) (setR F a false k) (setR G a true 0) A u7 H) := hpa
        clear hcx
        go_loopw [12] (fun u12 wx => ∃ j : Nat, u12 = .int .i64 j ∧ j ≤ k ∧ Hid (∃ H, Pa w wx P B (4 + 8 * i + 4) (setR F a false k) (setR G a true j) A u7 H)) (fun y _ => (k - (RowKit.intOf y).toNat))
        case atStart => exact ⟨0, rfl, by omega, hpa⟩
        case round =>
          clear hpa
          obtain ⟨j, rfl, jk, hpa⟩ := hrel
          obtain ⟨H, hpa⟩ := hpa.out
          by_cases hj : j < k
          · have i3 : (j : Int) < (k : Int) := by omega
            have jj0 : (0 : Int) ≤ (j : Int) := by omega
            have i4 : (0 : Int) ≤ (a : Int) + (j : Int) := by omega
            have i5 : (a : Int) + (j : Int) < 400 := by omega
            have i6 : ((a : Int) + (j : Int)).toNat = a + j := by omega
            obtain ⟨c0, c1⟩ := hpa.at_ (p := a + j) (by omega)
            have hgf : (setR G a true j).getD (a + j) false = false := by
              have hgl := hpa.gl
              rw [setR_len] at hgl
              rw [setR_get G a true (a + j) j (by omega), if_neg (by omega), hrd.out.2.2.1 (a + j) (by omega) (by omega), hf.out (a + j) (by omega) (by omega)]; rfl
            rw [hgf] at c0
            have hnx : Hid (∃ H, Pa w (wr.setCell ⟨B, a + j, none⟩ (.bool true)) P B (4 + 8 * i + 4) (setR F a false k) (setR G a true (j + 1)) A u7 H) := Lib.hid ⟨H, hpa.set true⟩
            clear hpa hgf
            go_wp2_with fail
            go_roundw
            case rel => exact ⟨j + 1, by go_num, by omega, hnx⟩
            case measure => simp [RowKit.intOf]; omega
          · obtain rfl : j = k := by omega
            have i3 : ¬ ((j : Int) < (j : Int)) := by omega
            have hrow := hpa.row
            have hA40 : A.length + 1 ≤ 1000000 := by omega
            have hfin : Hid (∀ v9 w9, GRow 2 w9 v9 (A.length + 1) (rc A ++ [.int .i64 (a : Int), .int .i64 (j : Int)]) → Wrote (fun k => u7.ownBlock = some k) (wr.alloc (.cells #[.int .i64 (a : Int), .int .i64 (j : Int)] 34)) (fun k => v9.ownBlock = some k) w9 → ∃ H, Pa w w9 P B (4 + 8 * i + 4) (setR F a false j) (setR G a true j) (A ++ [(a, j)]) v9 H) := Lib.hid fun v9 w9 g1 g2 => ⟨H, (hpa.below (below_alloc (Below.refl _ _) _)).lay g2 (by rw [rc_app, List.length_append]; exact g1)⟩
            have hrd2 : Hid (Rd (setR F a false j) (setR G a true j) (A ++ [(a, j)]) (i + 1)) := Lib.hid (rd_more hrd.out hF.out hGl.out a1 k1 k9 ak at1 hf.out)
            clear hpa hrd hF hGl
            have hrm : (i : Int) % 5 = ((i % 5 : Nat) : Int) := by omega
            by_cases h5 : i % 5 = 4
            · have e5 : (((i % 5 : Nat) : Int) == 4) = true := by rw [h5]; rfl
              replace h5 := Lib.hid h5
              obtain ⟨rm, hrm2⟩ : ∃ rm : Nat, i % 5 = rm := ⟨_, rfl⟩
              rw [hrm2] at hrm e5
              clear hrm2
              obtain ⟨⟨f, s⟩, A2, hA2⟩ : ∃ r A2, A ++ [(a, j)] = r :: A2 := by
                cases A with
                | nil => exact ⟨_, _, rfl⟩
                | cons x t => exact ⟨_, _, rfl⟩
              obtain ⟨n2, hn2⟩ : ∃ n2, A2.length = n2 := ⟨_, rfl⟩
              rw [hA2] at hfin hrd2
              have hfin2 : Hid (∀ v9 w9, GRow 2 w9 v9 (A.length + 1) (rc A ++ [.int .i64 (a : Int), .int .i64 (j : Int)]) → Wrote (fun k => u7.ownBlock = some k) (wr.alloc (.cells #[.int .i64 (a : Int), .int .i64 (j : Int)] 34)) (fun k => v9.ownBlock = some k) w9 → ∃ b off cap, v9 = .slice (some ⟨b, off, none⟩) (n2 + 1) cap ∧ n2 + 1 ≤ cap ∧ w9.cell? ⟨b, off, none⟩ = some (.int .i64 f) ∧ w9.cell? ⟨b, off + 1, none⟩ = some (.int .i64 s) ∧ Hid (∃ H, Pa w w9 P B (4 + 8 * i + 4) (setR F a false j) (setR G a true j) ((f, s) :: A2) v9 H)) := Lib.hid fun v9 w9 g1 g2 => by
                obtain ⟨H, hp⟩ := hfin.out v9 w9 g1 g2
                obtain ⟨b, off, cap, e, h1, h2, h3⟩ := hp.head
                rw [hn2] at e h1
                exact ⟨b, off, cap, e, h1, h2, h3, Lib.hid ⟨H, hp⟩⟩
              clear hfin
              replace hn2 := Lib.hid hn2
              replace hA2 := Lib.hid hA2
              have q1 : (0 : Int) < ((n2 + 1 : Nat) : Int) := by omega
              go_wp2_with (at_builtin; refine wpList_append_g rfl (.tmp 72) (.tmp 76) rfl rfl eltA (hrow.below (below_alloc (Below.refl _ _) _)) rfl rfl (src_run (heap_alloc_new _ _)) hA40 ?_; intro v9 w9 g1 g2; obtain ⟨b9, o9, c9, rfl, hc9, d1, d2, hpa⟩ := hfin2.out v9 w9 g1 g2; clear g1 g2 hfin2 hrow hA40)
              · have hpD : Hid (∃ H, Pa w (w9.alloc (.cells #[.int .i64 (f : Int), .int .i64 (s : Int)] 34)) P B (4 + 8 * i + 4) (setR F a false j) (setR G a true j) A2 (.slice (some ⟨b9, o9, none⟩) n2 0) H ∧ AsideR (w9.alloc (.cells #[.int .i64 (f : Int), .int .i64 (s : Int)] 34)) w9.heap.size B (f, s) (.slice (some ⟨b9, o9, none⟩) n2 0) H) := by
                  obtain ⟨H, hp⟩ := hpa.out
                  rw [← hn2.out] at hp ⊢
                  have hp2 := hp.drop1 (a1 := some ⟨b9, o9, none⟩) (.inr ⟨by assumption, rfl⟩)
                  rw [show c9 - 1 = 0 by omega] at hp2
                  exact Lib.hid ⟨H, hp2.below (below_alloc (Below.refl _ _) _), aside_new (r := (f, s)) hp2 (heap_alloc_new _ _)⟩
                clear hpa
                obtain ⟨R, hR⟩ : ∃ R, w9.heap.size = R := ⟨_, rfl⟩
                obtain ⟨U, hU⟩ : ∃ U, w9.alloc (.cells #[.int .i64 (f : Int), .int .i64 (s : Int)] 34) = U := ⟨_, rfl⟩
                rw [hU, hR] at hpD ⊢
                clear hU hR d1 d2
                obtain ⟨F1, hF1⟩ : ∃ F1, setR F a false j = F1 := ⟨_, rfl⟩
                obtain ⟨G1, hG1⟩ : ∃ G1, setR G a true j = G1 := ⟨_, rfl⟩
                rw [hF1, hG1] at hpD
                rw [hF1, hG1] at hrd2
                clear hF1 hG1
                obtain ⟨H, hp, hsd⟩ := hpD.out
                have cf := hp.back hsd (by omega) hrd2.out.1
                have hF1 := hp.ps.len
                have hG1 := hp.gl
                have hfs := hrd2.out.1.inn _ (List.mem_cons_self ..)
                simp only at hfs
                obtain ⟨fs1, fs2, fs3, -⟩ := hfs
                have hrd3 : Hid (Rd (setR F1 f true s) (setR G1 f false s) A2 (i + 1)) := Lib.hid (rd_less hrd2.out hF1 hG1)
                clear hpD hp hsd hrd2
                with_reducible refine Calls.mono cf ?_
                rintro e w5 ⟨rfl, hpa, e0, e1⟩
                clear cf
                have hpa : Hid (∃ H, Pa w w5 P B (4 + 8 * i + 4 + 4) (setR F1 f true s) (setR G1 f false 0) A2 (.slice (some ⟨b9, o9, none⟩) n2 0) H ∧ AsideR w5 R B (f, s) (.slice (some ⟨b9, o9, none⟩) n2 0) H) := hpa
                have ff0 : (0 : Int) ≤ (f : Int) := by omega
                go_wp2_with fail
                clear e0 e1
                go_loopw [14] (fun u14 wx => ∃ q : Nat, u14 = .int .i64 q ∧ q ≤ s ∧ Hid (∃ H, Pa w wx P B (4 + 8 * i + 4 + 4) (setR F1 f true s) (setR G1 f false q) A2 (.slice (some ⟨b9, o9, none⟩) n2 0) H ∧ AsideR wx R B (f, s) (.slice (some ⟨b9, o9, none⟩) n2 0) H)) (fun y _ => (s - (RowKit.intOf y).toNat))
                case atStart => exact ⟨0, rfl, by omega, hpa⟩
                case round =>
                  clear hpa
                  obtain ⟨q, rfl, qs, hpa⟩ := hrel
                  obtain ⟨H, hp, hsd⟩ := hpa.out
                  obtain ⟨e0, e1⟩ := hsd.cells
                  have qq0 : (0 : Int) ≤ (q : Int) := by omega
                  by_cases hq : q < s
                  · have i3 : (q : Int) < (s : Int) := by omega
                    have i4 : (0 : Int) ≤ (f : Int) + (q : Int) := by omega
                    have i5 : (f : Int) + (q : Int) < 400 := by omega
                    have i6 : ((f : Int) + (q : Int)).toNat = f + q := by omega
                    obtain ⟨c0, c1⟩ := hp.at_ (p := f + q) (by omega)
                    generalize (setR G1 f false q).getD (f + q) false = old at c0
                    have hnx : Hid (∃ H, Pa w (wr.setCell ⟨B, f + q, none⟩ (.bool false)) P B (4 + 8 * i + 4 + 4) (setR F1 f true s) (setR G1 f false (q + 1)) A2 (.slice (some ⟨b9, o9, none⟩) n2 0) H ∧ AsideR (wr.setCell ⟨B, f + q, none⟩ (.bool false)) R B (f, s) (.slice (some ⟨b9, o9, none⟩) n2 0) H) := Lib.hid ⟨H, hp.set false, hsd.set _⟩
                    clear hpa hp hsd
                    go_wp2_with fail
                    go_roundw
                    case rel => exact ⟨q + 1, by go_num, by omega, hnx⟩
                    case measure => simp [RowKit.intOf]; omega
                  · obtain rfl : q = s := by omega
                    have i3 : ¬ ((q : Int) < (q : Int)) := by omega
                    have hpn : Hid (∃ H, Pa w wr P B (4 + 8 * (i + 1)) (setR F1 f true q) (setR G1 f false q) A2 (.slice (some ⟨b9, o9, none⟩) n2 0) H) := Lib.hid ⟨H, hp.mono (by omega)⟩
                    clear hpa hp hsd
                    go_wp2_with fail
                    go_roundw
                    case rel =>
                      obtain ⟨H, hp⟩ := hpn.out
                      exact ⟨i + 1, by go_num, by omega, Lib.hid ⟨_, _, _, H, hp, hrd3.out⟩⟩
                    case measure => simp [RowKit.intOf]; omega
              · have hpD : Hid (∃ H, Pa w (w9.alloc (.cells #[.int .i64 (f : Int), .int .i64 (s : Int)] 34)) P B (4 + 8 * i + 4) (setR F a false j) (setR G a true j) A2 (.slice (some ⟨b9, o9 + 2, none⟩) n2 (c9 - 1)) H ∧ AsideR (w9.alloc (.cells #[.int .i64 (f : Int), .int .i64 (s : Int)] 34)) w9.heap.size B (f, s) (.slice (some ⟨b9, o9 + 2, none⟩) n2 (c9 - 1)) H) := by
                  obtain ⟨H, hp⟩ := hpa.out
                  rw [← hn2.out] at hp ⊢
                  have hp2 := hp.drop1 (.inl rfl)
                  exact Lib.hid ⟨H, hp2.below (below_alloc (Below.refl _ _) _), aside_new (r := (f, s)) hp2 (heap_alloc_new _ _)⟩
                clear hpa
                obtain ⟨R, hR⟩ : ∃ R, w9.heap.size = R := ⟨_, rfl⟩
                obtain ⟨U, hU⟩ : ∃ U, w9.alloc (.cells #[.int .i64 (f : Int), .int .i64 (s : Int)] 34) = U := ⟨_, rfl⟩
                rw [hU, hR] at hpD ⊢
                clear hU hR d1 d2
                obtain ⟨F1, hF1⟩ : ∃ F1, setR F a false j = F1 := ⟨_, rfl⟩
                obtain ⟨G1, hG1⟩ : ∃ G1, setR G a true j = G1 := ⟨_, rfl⟩
                rw [hF1, hG1] at hpD
                rw [hF1, hG1] at hrd2
                clear hF1 hG1
                obtain ⟨H, hp, hsd⟩ := hpD.out
                have cf := hp.back hsd (by omega) hrd2.out.1
                have hF1 := hp.ps.len
                have hG1 := hp.gl
                have hfs := hrd2.out.1.inn _ (List.mem_cons_self ..)
                simp only at hfs
                obtain ⟨fs1, fs2, fs3, -⟩ := hfs
                have hrd3 : Hid (Rd (setR F1 f true s) (setR G1 f false s) A2 (i + 1)) := Lib.hid (rd_less hrd2.out hF1 hG1)
                clear hpD hp hsd hrd2
                with_reducible refine Calls.mono cf ?_
                rintro e w5 ⟨rfl, hpa, e0, e1⟩
                clear cf
                have hpa : Hid (∃ H, Pa w w5 P B (4 + 8 * i + 4 + 4) (setR F1 f true s) (setR G1 f false 0) A2 (.slice (some ⟨b9, o9 + 2, none⟩) n2 (c9 - 1)) H ∧ AsideR w5 R B (f, s) (.slice (some ⟨b9, o9 + 2, none⟩) n2 (c9 - 1)) H) := hpa
                have ff0 : (0 : Int) ≤ (f : Int) := by omega
                go_wp2_with fail
                clear e0 e1
                go_loopw [14] (fun u14 wx => ∃ q : Nat, u14 = .int .i64 q ∧ q ≤ s ∧ Hid (∃ H, Pa w wx P B (4 + 8 * i + 4 + 4) (setR F1 f true s) (setR G1 f false q) A2 (.slice (some ⟨b9, o9 + 2, none⟩) n2 (c9 - 1)) H ∧ AsideR wx R B (f, s) (.slice (some ⟨b9, o9 + 2, none⟩) n2 (c9 - 1)) H)) (fun y _ => (s - (RowKit.intOf y).toNat))
                case atStart => exact ⟨0, rfl, by omega, hpa⟩
                case round =>
                  clear hpa
                  obtain ⟨q, rfl, qs, hpa⟩ := hrel
                  obtain ⟨H, hp, hsd⟩ := hpa.out
                  obtain ⟨e0, e1⟩ := hsd.cells
                  have qq0 : (0 : Int) ≤ (q : Int) := by omega
                  by_cases hq : q < s
                  · have i3 : (q : Int) < (s : Int) := by omega
                    have i4 : (0 : Int) ≤ (f : Int) + (q : Int) := by omega
                    have i5 : (f : Int) + (q : Int) < 400 := by omega
                    have i6 : ((f : Int) + (q : Int)).toNat = f + q := by omega
                    obtain ⟨c0, c1⟩ := hp.at_ (p := f + q) (by omega)
                    generalize (setR G1 f false q).getD (f + q) false = old at c0
                    have hnx : Hid (∃ H, Pa w (wr.setCell ⟨B, f + q, none⟩ (.bool false)) P B (4 + 8 * i + 4 + 4) (setR F1 f true s) (setR G1 f false (q + 1)) A2 (.slice (some ⟨b9, o9 + 2, none⟩) n2 (c9 - 1)) H ∧ AsideR (wr.setCell ⟨B, f + q, none⟩ (.bool false)) R B (f, s) (.slice (some ⟨b9, o9 + 2, none⟩) n2 (c9 - 1)) H) := Lib.hid ⟨H, hp.set false, hsd.set _⟩
                    clear hpa hp hsd
                    go_wp2_with fail
                    go_roundw
                    case rel => exact ⟨q + 1, by go_num, by omega, hnx⟩
                    case measure => simp [RowKit.intOf]; omega
                  · obtain rfl : q = s := by omega
                    have i3 : ¬ ((q : Int) < (q : Int)) := by omega
                    have hpn : Hid (∃ H, Pa w wr P B (4 + 8 * (i + 1)) (setR F1 f true q) (setR G1 f false q) A2 (.slice (some ⟨b9, o9 + 2, none⟩) n2 (c9 - 1)) H) := Lib.hid ⟨H, hp.mono (by omega)⟩
                    clear hpa hp hsd
                    go_wp2_with fail
                    go_roundw
                    case rel =>
                      obtain ⟨H, hp⟩ := hpn.out
                      exact ⟨i + 1, by go_num, by omega, Lib.hid ⟨_, _, _, H, hp, hrd3.out⟩⟩
                    case measure => simp [RowKit.intOf]; omega
            · have e5 : (((i % 5 : Nat) : Int) == 4) = false := by simp; omega
              obtain ⟨rm, hrm2⟩ : ∃ rm : Nat, i % 5 = rm := ⟨_, rfl⟩
              rw [hrm2] at hrm e5
              clear hrm2
              go_wp2_with (at_builtin; refine wpList_append_g rfl (.tmp 72) (.tmp 76) rfl rfl eltA (hrow.below (below_alloc (Below.refl _ _) _)) rfl rfl (src_run (heap_alloc_new _ _)) hA40 ?_; intro v9 w9 g1 g2; have hpa := Lib.hid (hfin.out v9 w9 g1 g2); clear g1 g2 hfin hrow hA40)
              go_roundw
              case rel =>
                obtain ⟨H, hp⟩ := hpa.out
                exact ⟨i + 1, by go_num, by omega, Lib.hid ⟨_, _, _, H, hp.mono (by omega), hrd2.out⟩⟩
              case measure => simp [RowKit.intOf]; omega
      · obtain rfl : i = l := by omega
        have i2 : ¬ ((i : Int) < (i : Int)) := by omega
        have hst : ∃ n : Nat, (∃ s c, u7 = .slice s n c) ∧ n ≤ 40 ∧ Hid (∃ F G A H, A.length = n ∧ Pa w wr P B (324 + 4 * (40 - n)) F G A u7 H ∧ Cov F A) := by
          obtain ⟨s, c, e⟩ := hpa.row.slice
          have := hrd.2.1
          exact ⟨A.length, ⟨s, c, e⟩, by omega, Lib.hid ⟨F, G, A, H, rfl, hpa.mono (by omega), hrd.1⟩⟩
        clear hpa hrd hcx
        obtain ⟨Y, hY⟩ : ∃ Y : Int, IntKind.u64.wrap a1 = Y := ⟨_, rfl⟩
        have Y0 : 0 ≤ Y := by rw [← hY, IntKind.wrap_u64]; omega
        obtain ⟨n0, ⟨s0, c0, rfl⟩, hn0, hst⟩ := hst
        go_wp2_with fail
        go_loopw [7, 15, 16] (fun u7 u15 u16 wx => ∃ n : Nat, (∃ s c, u7 = .slice s n c) ∧ n ≤ 40 ∧ Hid (∃ F G A H, A.length = n ∧ Pa w wx P B (324 + 4 * (40 - n)) F G A u7 H ∧ Cov F A)) (fun y _ _ _ => slen y)
        case atStart => exact ⟨n0, ⟨s0, c0, rfl⟩, hn0, hst⟩
        case round =>
          clear hst hn0
          obtain ⟨n, ⟨sx, cx, rfl⟩, hn, hpa⟩ := hrel
          obtain ⟨F, G, A, H, hA, hp, hcov⟩ := hpa.out
          clear hpa
          by_cases hn0 : 0 < n
          · have i3 : (0 : Int) < (n : Int) := by omega
            have i4 : ¬ ((n : Int) = 0) := by omega
            have i5 : ¬ (n = 0) := by omega
            obtain ⟨κ, hκ⟩ : ∃ κ : Nat, Y % (n : Int) = (κ : Int) := ⟨(Y % (n : Int)).toNat, by have := Int.emod_nonneg Y i4; omega⟩
            have κn : κ < n := by have := Int.emod_lt_of_pos Y i3; omega
            have κ0 : (0 : Int) ≤ (κ : Int) := by omega
            have κ1 : (κ : Int) < (n : Int) := by omega
            obtain ⟨b, off, cp, e, hnc, d0, d1⟩ := hp.one (i := κ) (by omega)
            rw [hA] at e hnc
            cases e
            generalize hfs : A.getD κ (0, 0) = fs at *
            obtain ⟨f, s⟩ := fs
            simp only at d0 d1
            rw [← Nat.add_assoc] at d1
            have hpU : Hid (Pa w (wr.alloc (.cells #[.int .i64 (f : Int), .int .i64 (s : Int)] 34)) P B (324 + 4 * (40 - n)) F G A (.slice (some ⟨b, off, none⟩) A.length cx) H) := Lib.hid (by rw [hA]; exact hp.below (below_alloc (Below.refl _ _) _))
            have hoU : Hid ((wr.alloc (.cells #[.int .i64 (f : Int), .int .i64 (s : Int)] 34)).heap[wr.heap.size]? = some (.cells #[.int .i64 (f : Int), .int .i64 (s : Int)] 34 (0, 0)) ∧ ¬ H wr.heap.size ∧ wr.heap.size ≠ B) := Lib.hid ⟨heap_alloc_new _ _, fun hh => by have := hp.ps.lt hh; omega, fun e => by have := block_lt hp.own; omega⟩
            have hcov2 : Hid (Cov F ((f, s) :: (A.take κ ++ A.drop (κ + 1)))) := Lib.hid (by rw [← hfs]; exact hcov.perm (take_out A κ (by omega)))
            have hF := Lib.hid hp.ps.len
            have hAn := Lib.hid (show (A.take κ ++ A.drop (κ + 1)).length = n - 1 by rw [List.length_append, List.length_take, List.length_drop]; omega)
            clear hfs hcov hp
            replace hA := Lib.hid hA
            go_wp2_with fail
            obtain ⟨R, hR⟩ : ∃ R, wr.heap.size = R := ⟨_, rfl⟩
            obtain ⟨U, hU⟩ : ∃ U, wr.alloc (.cells #[.int .i64 (f : Int), .int .i64 (s : Int)] 34) = U := ⟨_, rfl⟩
            rw [hU, hR] at hoU ⊢
            rw [hU] at hpU
            clear hU hR d0 d1
            have hbd1 : 0 + κ ≤ 1000000 := by omega
            have hbd2 : κ + (n - (κ + 1)) ≤ 1000000 := by omega
            have hpart : Hid (∀ W, Below U.heap.size U W → Src Try.prog 2 29 (.slice (some ⟨b, off, none⟩) κ cx) κ (rc (A.take κ)) W) := Lib.hid fun W hW => hpU.out.part (by have := hA.out; omega) hW
            have hfin : Hid (∀ v8 w8, Below U.heap.size U w8 → GRow 2 w8 v8 (κ + (n - (κ + 1))) (rc (A.take κ) ++ rc (A.drop (κ + 1))) → Low U.heap.size (fun k => v8.ownBlock = some k) → Pa w w8 P B (324 + 4 * (40 - n)) F G (A.take κ ++ A.drop (κ + 1)) v8 H ∧ AsideR w8 R B (f, s) v8 H) := Lib.hid fun v8 w8 g1 g2 g3 => hpU.out.taken (r := (f, s)) (by have := hA.out; omega) g1 hoU.out.1 hoU.out.2.1 hoU.out.2.2 (by rw [hA.out]; exact g2) g3
            clear hoU
            obtain ⟨m, hm⟩ : ∃ m, κ + 1 = m := ⟨_, rfl⟩
            have hm1 : IntKind.i64.wrap ((κ : Int) + 1) = (m : Int) := by rw [IntKind.wrap_i64]; omega
            have hm2 : (m : Int) ≤ (n : Int) := by omega
            have hm3 : m ≤ cx := by omega
            have hkc : κ ≤ cx := by omega
            have hkc1 : m ≤ n := by omega
            have hkc2 : κ ≤ m := by omega
            have hkc3 : (κ : Int) ≤ (m : Int) := by omega
            rw [hm] at hbd2 hfin hcov2 hAn
            have hmh := Lib.hid hm
            clear hm
            by_cases hcx1 : cx = m
            · subst hcx1
              have e0 : n - cx = 0 := by omega
              rw [e0] at hbd2 hfin
              clear e0
              have hrest : Hid (∀ W, Below U.heap.size U W → Src Try.prog 2 29 (.slice (some ⟨b, off, none⟩) 0 0) 0 (rc (A.drop cx)) W) := Lib.hid fun W hW => by
                rw [← hmh.out]
                have := hpU.out.rest (a1 := some ⟨b, off, none⟩) (i := κ) (by have := hA.out; omega) (.inr ⟨hmh.out.symm, rfl⟩) hW
                rw [hA.out, show n - (κ + 1) = 0 by have := hmh.out; omega, show cx - (κ + 1) = 0 by have := hmh.out; omega] at this
                exact this
              clear hpU
              go_region_law (first
                              | (refine step_append_g rfl (.tmp 123) (.tmp 127) rfl rfl eltA (hr1.out.below (by (repeat (first | exact Below.refl _ _ | refine below_alloc ?_ _ | refine below_drewN ?_ _ | refine Below.drew ?_)))) rfl rfl (hrest.out _ (by (repeat (first | exact hB1.out | exact Below.refl _ _ | refine below_alloc ?_ _ | refine below_drewN ?_ _ | refine Below.drew ?_)))) hbd2 ?_; intro v8 w8 g3 g4; have hk := app_next (wq := U) (by (repeat (first | exact hB1.out | exact Below.refl _ _ | refine below_alloc ?_ _ | refine below_drewN ?_ _ | refine Below.drew ?_))) hl1.out g4; obtain ⟨s8, c8, rfl⟩ := g3.slice; have hR8 := Lib.hid (hfin.out _ _ hk.2 g3 hk.1); clear g3 g4 hk hr1 hl1 hB1 hfin hrest hbd2)
                              | (refine step_append_g rfl (.tmp 119) (.tmp 122) rfl rfl eltA (lit_run (by first | exact lt_new _ _)) rfl rfl (hpart.out _ (by (repeat (first | exact Below.refl _ _ | refine below_alloc ?_ _ | refine below_drewN ?_ _ | refine Below.drew ?_)))) hbd1 ?_; intro v7 w7 g1 g2; have hk := app_first (wq := U) (by (repeat (first | exact Below.refl _ _ | refine below_alloc ?_ _ | refine below_drewN ?_ _ | refine Below.drew ?_))) (Nat.le_refl _) g1 g2; have hr1 := Lib.hid hk.1; have hl1 := Lib.hid hk.2.1; have hB1 := Lib.hid hk.2.2; clear hk g1 g2 hpart hbd1))
              obtain ⟨hp, hsd⟩ := hR8.out
              obtain ⟨e0, e1⟩ := hsd.cells
              have cf := hp.back hsd (by omega) hcov2.out
              simp only at e0 e1
              clear hR8 hp hsd
              go_wp2_with fail
              with_reducible refine Calls.mono cf ?_
              rintro e w9 ⟨rfl, hpa, e2, e3⟩
              clear cf e0 e1
              obtain ⟨H', hp, -⟩ := hpa.out
              have ca := hp.twice hF.out (by omega) hcov2.out
              clear hpa hp
              go_wp2_with fail
              with_reducible refine Calls.mono ca ?_
              rintro e w10 ⟨rfl, hpa⟩
              clear ca e2 e3
              have hmh2 := hmh.out
              go_wp2_with fail
              go_roundw
              case rel =>
                obtain ⟨H', hp⟩ := hpa.out
                exact ⟨κ + 0, ⟨_, _, rfl⟩, by omega, Lib.hid ⟨_, _, _, H', by rw [hAn.out]; omega, hp.mono (by omega), (show Cov _ _ from cov_less hcov2.out hF.out)⟩⟩
              case measure => simp [slen]; omega
            · have hrest : Hid (∀ W, Below U.heap.size U W → Src Try.prog 2 29 (.slice (some ⟨b, off + m * 2, none⟩) (n - m) (cx - m)) (n - m) (rc (A.drop m)) W) := Lib.hid fun W hW => by
                rw [← hmh.out]
                have := hpU.out.rest (a1 := some ⟨b, off + (κ + 1) * 2, none⟩) (i := κ) (by have := hA.out; omega) (.inl rfl) hW
                rwa [hA.out] at this
              clear hpU
              go_region_law (first
                              | (refine step_append_g rfl (.tmp 123) (.tmp 127) rfl rfl eltA (hr1.out.below (by (repeat (first | exact Below.refl _ _ | refine below_alloc ?_ _ | refine below_drewN ?_ _ | refine Below.drew ?_)))) rfl rfl (hrest.out _ (by (repeat (first | exact hB1.out | exact Below.refl _ _ | refine below_alloc ?_ _ | refine below_drewN ?_ _ | refine Below.drew ?_)))) hbd2 ?_; intro v8 w8 g3 g4; have hk := app_next (wq := U) (by (repeat (first | exact hB1.out | exact Below.refl _ _ | refine below_alloc ?_ _ | refine below_drewN ?_ _ | refine Below.drew ?_))) hl1.out g4; obtain ⟨s8, c8, rfl⟩ := g3.slice; have hR8 := Lib.hid (hfin.out _ _ hk.2 g3 hk.1); clear g3 g4 hk hr1 hl1 hB1 hfin hrest hbd2)
                              | (refine step_append_g rfl (.tmp 119) (.tmp 122) rfl rfl eltA (lit_run (by first | exact lt_new _ _)) rfl rfl (hpart.out _ (by (repeat (first | exact Below.refl _ _ | refine below_alloc ?_ _ | refine below_drewN ?_ _ | refine Below.drew ?_)))) hbd1 ?_; intro v7 w7 g1 g2; have hk := app_first (wq := U) (by (repeat (first | exact Below.refl _ _ | refine below_alloc ?_ _ | refine below_drewN ?_ _ | refine Below.drew ?_))) (Nat.le_refl _) g1 g2; have hr1 := Lib.hid hk.1; have hl1 := Lib.hid hk.2.1; have hB1 := Lib.hid hk.2.2; clear hk g1 g2 hpart hbd1))
              obtain ⟨hp, hsd⟩ := hR8.out
              obtain ⟨e0, e1⟩ := hsd.cells
              have cf := hp.back hsd (by omega) hcov2.out
              simp only at e0 e1
              clear hR8 hp hsd
              go_wp2_with fail
              with_reducible refine Calls.mono cf ?_
              rintro e w9 ⟨rfl, hpa, e2, e3⟩
              clear cf e0 e1
              obtain ⟨H', hp, -⟩ := hpa.out
              have ca := hp.twice hF.out (by omega) hcov2.out
              clear hpa hp
              go_wp2_with fail
              with_reducible refine Calls.mono ca ?_
              rintro e w10 ⟨rfl, hpa⟩
              clear ca e2 e3
              have hmh2 := hmh.out
              go_wp2_with fail
              go_roundw
              case rel =>
                obtain ⟨H', hp⟩ := hpa.out
                exact ⟨κ + (n - m), ⟨_, _, rfl⟩, by omega, Lib.hid ⟨_, _, _, H', by rw [hAn.out]; omega, hp.mono (by omega), (show Cov _ _ from cov_less hcov2.out hF.out)⟩⟩
              case measure => simp [slen]; omega
          · obtain rfl : n = 0 := by omega
            obtain rfl : A = [] := List.eq_nil_of_length_eq_zero hA
            have cr := hp.whole hcov
            clear hA hp hcov
            go_wp2_with fail
            with_reducible refine Calls.mono cr ?_
            rintro e w7 ⟨b, cap, rfl, c0, c1, hcap, hB⟩
            clear cr
            have ct := ct w7
            go_wp2_with fail
            with_reducible refine Calls.mono ct ?_
            rintro e w8 ⟨rfl, hb8⟩
            clear ct
            have d0 := cell_then hb8 c0
            have d1 := cell_then hb8 c1
            clear c0 c1
            have hfin : Hid (Below w.heap.size w w8) := Lib.hid (hB.out.trans (hb8.mono hB.out.size))
            clear hB hb8
            go_wp2_with fail
            go_ret
            exact ⟨rfl, hfin.out⟩

set_option maxRecDepth 100000 in
theorem lifted (os : Os) (started : os.Started) (H : Type) (enc : TypeId × Value → H) :
    ReturnsInHanded {} Try.checked os 4 .any (Rows.pageApartSpec.pre6 enc Try.prog Try.f4 Rows.pageApartRow.domain false) (Rows.pageApartSpec.post enc Try.prog Try.f4 false true false false) := by
  refine returnsInHanded_of_change (C := Try.checked) own started (by kernel_rfl) Try.func4
    (ChangeSpec.witness6 (enc := enc) (C := Try.checked) false ⟨#[], #[.slice none 0 0, .int .i64 0], []⟩ 8 (by kernel_rfl) (by kernel_rfl) (by kernel_rfl) (by kernel_rfl)) ?_
  intro W base args ds gs before hval0 hW hcnd _
  have hval : ∀ (j : Nat) t v, Try.f4.params[j]? = some t → args[j]? = some v → Value.okWide Try.prog W .any base t v := hval0
  have hW' := hW
  obtain ⟨p, q, hA0, hV, rfl, hfz, hnd⟩ := hW
  have hA : DataW.TrodAll enc Try.prog W 0 (fun _ => true) true Try.f4.params.toList args.toList ds p := hA0
  rw [Try.params4] at hA hval
  obtain ⟨v0, vs0, d0, ds0, p0, q0, hargs, rfl, rfl, h0, r0⟩ := trodAll_cons hA
  obtain ⟨v1, vs1, d1, ds1, p1, q1, rfl, rfl, rfl, h1, r1⟩ := trodAll_cons r0
  obtain ⟨rfl, rfl, rfl⟩ := trodAll_nil r1
  obtain rfl : args = #[v0, v1] := by cases args; simp_all
  obtain ⟨rfl, rfl⟩ := trodVars_none hV
  obtain ⟨z0, i0⟩ := arg_ints (hval 0 36 v0 rfl rfl) h0
  obtain ⟨a1, rfl, rfl, rfl, w1⟩ := open_int Try.underlying3 (hval 1 3 v1 rfl rfl) h1
  clear hA0 hval0
  simp only [List.append_nil] at hW'
  have lt0 : ∀ x ∈ p0, x.block < W.heap.size := fun x hx => by have := hW'.lt x (by simp [hx]); simpa using this
  refine (walk v0 z0 a1 W i0 w1).mono fun e W' ⟨he, hg⟩ => ?_
  subst he
  exact ⟨_, rfl, post_of_kept (pa := _) (pv := []) hW' (fun _ _ _ => (trodAll_cons_mk (shut_bool Try.underlying4 _) trodAll_mk0)) (trodAll_cons_mk (Below.trod laidOut (by kernel_rfl) (of_decide_eq_true (by kernel_rfl)) h0 hg lt0) (trodAll_cons_mk (shut_int Try.underlying3 w1) trodAll_mk0)) (fun _ _ => rfl) (by simp) hg⟩

theorem over : Rows.pageApartRow.holds Try.pinned (OpenSpec.ofChange Rows.pageApartSpec) :=
  OpenClaim.holds_of_wide 4 Try.f4 rfl rfl rfl rfl rfl rfl rfl ⟨rfl, rfl, rfl, rfl, rfl⟩ rfl rfl rfl rfl rfl (by kernel_rfl) Try.func4 (by kernel_rfl)
    (of_decide_eq_true (by kernel_rfl)) (by unfold Func.isWrapper; first | (rw [if_pos (by decide +kernel)]; kernel_rfl) | (rw [if_neg (by decide +kernel)]; exact ⟨rfl, rfl⟩))
    (fun os started H enc _ => lifted os started H enc)

theorem proved : Rows.PageApartSaid :=
  over
#print axioms proved
end Go.Proofs.Ytbheabjemaaeoab.pageApart
