/- SchedPlays: the program's Sched answers as the document's own does, whatever is done with both, for any number of Ps and any operations (at most 80). -/
import Derived.Test.YtpclacaiabbmjaaHome
import Derived.Test.YtpclacaiabbmjaaSchedBoth
import Derived.Test.YtpclacaiabbmjaaOp27
import Derived.WalkKit
import Derived.ProofKit
import Derived.OpenShut
import Derived.Deep.RegionHeld3
import Derived.Deep.RegionWith
import Derived.Deep.Cut
import Derived.Deep.CutBlock
import Derived.Deep.CutRange
import Derived.Deep.LoopGhost
import Derived.Deep.DeepCutAuto
import Derived.RegionTactic
import Derived.StillTailTactics
namespace Go.Proofs.Ytpclacaiabbmjaa.schedPlays
open Go.ChangeShapes Go.WideShapes Go.ChangeAt Go.WideElems Go.RowKit Go.Lib Fx Ho Rw
set_option linter.unusedVariables false

theorem own : ownKnob Try.prog.godebug = none := by kernel_rfl

theorem trem (x : Int) : -8 < x.tmod 8 ∧ x.tmod 8 < 8 := by
  rw [Int.tmod_eq_emod]; split <;> omega
set_option maxRecDepth 100000 in
set_option maxHeartbeats 4000000 in
theorem walk (a0 : Int) (v1 : Value) (zb1 : List _) (w : World) (w0 : (Lit.int .i64 a0).wf = true) (h1 : Op27 w v1 zb1) :
    Calls Try.prog 3 #[.int .i64 a0, v1] w fun e w' => e = .returned (.bool true) ∧ Below w.heap.size w w' := by
  obtain ⟨sp, cap, rfl, hm, hc⟩ := h1
  obtain ⟨l, hl⟩ : ∃ l, zb1.length = l := ⟨_, rfl⟩
  rw [hl] at hm hc ⊢
  have hcells : Hid (∀ wr, Below w.heap.size w wr → ∀ i, i < l → ∃ b off K P G T U f, sp = some ⟨b, off, none⟩ ∧ wr.cell? ⟨b, off + i * 6, none⟩ = some (.int .i64 K) ∧ wr.cell? ⟨b, off + i * 6 + 1, none⟩ = some (.int .i64 P) ∧ wr.cell? ⟨b, off + i * 6 + 2, none⟩ = some (.int .i64 G) ∧ wr.cell? ⟨b, off + i * 6 + 3, none⟩ = some (.int .i64 T) ∧ wr.cell? ⟨b, off + i * 6 + 4, none⟩ = some (.int .i64 U) ∧ wr.cell? ⟨b, off + i * 6 + 5, none⟩ = some (.bool f)) := Lib.hid fun wr hb i hi => by
    obtain ⟨b, off, e, _, d0, d1, d2, d3, d4, d5⟩ := hc i hi
    have t : ∀ {j : Nat} {v : Value}, w.cell? ⟨b, off + (i * 6 + j), none⟩ = some v → wr.cell? ⟨b, off + i * 6 + j, none⟩ = some v := fun {j v} h => by have := cell_then hb h; rwa [← Nat.add_assoc] at this
    exact ⟨b, off, _, _, _, _, _, _, e, cell_then hb d0, t d1, t d2, t d3, t d4, t d5⟩
  clear hc hl
  by_cases hps : a0 < 1 ∨ 64 < a0
  · have cn := Sd.new_bad a0 hps w
    have ct := Sd.told_any w
    clear hcells
    by_cases hp1 : a0 < 1
    all_goals
      first
        | skip
      first
        | have hp2 : ¬ 64 < a0 := by omega
        | have hp2 : 64 < a0 := by omega
      go_enter Try.func3, Try.ntmps3
      go_wp2_with fail
      with_reducible refine Calls.mono (cn) ?_
      rintro e w1 ⟨rfl, ew⟩
      subst ew
      clear cn hps
      go_wp2_with fail
      with_reducible refine Calls.mono ct ?_
      rintro e w1 ⟨rfl, hb1⟩
      clear ct
      go_wp2_with fail
      go_ret
      exact ⟨rfl, hb1⟩
  obtain ⟨n, rfl⟩ : ∃ n : Nat, a0 = (n : Int) := ⟨a0.toNat, by omega⟩
  have n1 : 1 ≤ n := by omega
  have n64 : n ≤ 64 := by omega
  have p1 : ¬ (n : Int) < 1 := by omega
  have p2 : ¬ 64 < (n : Int) := by omega
  have cn := Sd.new_any n n1 n64 w
  have cx := fun W => Dx.new_any n n64 W
  clear hps
  go_enter Try.func3, Try.ntmps3
  go_wp2_with fail
  with_reducible refine Calls.mono (cn) ?_
  rintro e w1 ⟨p, H, rfl, hs⟩
  clear cn
  go_wp2_with fail
  with_reducible refine Calls.mono (cx w1) ?_
  rintro e w2 ⟨x, rfl, hx⟩
  have hW := Lib.hid (Zs.new_both hs hx)
  clear hs hx cx p1 p2
  go_wp2_with fail
  go_loopw [8] (fun vi wr => ∃ i : Nat, vi = .int .i64 i ∧ i ≤ l ∧ i ≤ 80 ∧ Hid (Zs.Zz n w wr p x (301 * i))) (fun vi _ => (80 - (RowKit.intOf vi).toNat))
  case atStart => exact ⟨0, rfl, by omega, by omega, hW⟩
  case round =>
    clear hW
    obtain ⟨i, rfl, il, i80, hR⟩ := hrel
    by_cases hk : i < l ∧ i < 80
    · obtain ⟨hk1, hk2⟩ := hk
      have i2 : (i : Int) < (l : Int) := by omega
      have i3 : (i : Int) < 80 := by omega
      have i0 : (0 : Int) ≤ (i : Int) := by omega
      obtain ⟨b, off, K, P, G, T, U, f, rfl, d0, d1, d2, d3, d4, d5⟩ := hcells.out wr hR.out.bel i hk1
      obtain ⟨z, hz⟩ : ∃ z, wr.heap.size = z := ⟨_, rfl⟩
      have hR2 : Hid (Zs.Bz n w (wr.alloc (.cells #[.int .i64 K, .int .i64 P, .int .i64 G, .int .i64 T, .int .i64 U, .bool f] 30)) p x z (.cells #[.int .i64 K, .int .i64 P, .int .i64 G, .int .i64 T, .int .i64 U, .bool f] 30 (0, 0)) (301 * i)) := Lib.hid (Zs.bz_of hR.out hz)
      clear hR
      obtain ⟨yk, hy⟩ : ∃ yk, K.tmod 8 = yk := ⟨_, rfl⟩
      have hy2 := trem K
      have y1 : -8 < yk := by omega
      have y2 : yk < 8 := by omega
      clear hy2
      obtain ⟨t, ht⟩ : ∃ t, (yk + 8) % 8 = t := ⟨_, rfl⟩
      have d9 := cell_of hR2.out.zc (j := 0) rfl
      go_upto_block 2 with fail
      generalize wr.alloc (.cells #[.int .i64 K, .int .i64 P, .int .i64 G, .int .i64 T, .int .i64 U, .bool f] 30) = w3 at *
      go_cut [10, 11, 12, 13, 14, 15] from 49 to 199 (fun vo s11 s12 s13 s14 s15 wx => vo = .bool true ∧ Hid (Zs.Bz n w wx p x z (.cells #[.int .i64 K, .int .i64 P, .int .i64 G, .int .i64 T, .int .i64 U, .bool f] 30 (0, 0)) (301 * (i + 1))))
      case first =>
        have c1 := cell_of hR2.out.zc (j := 1) rfl
        have c2 := cell_of hR2.out.zc (j := 2) rfl
        have c3 := cell_of hR2.out.zc (j := 3) rfl
        have c4 := cell_of hR2.out.zc (j := 4) rfl
        have c5 := cell_of hR2.out.zc (j := 5) rfl
        have hm : Hid (301 * i ≤ 100000) := Lib.hid (by omega)
        have hm2 : Hid (301 * i + 1 ≤ 301 * (i + 1)) := Lib.hid (by omega)
        have hbd : Below w3.heap.size w3 w3.drew := (Below.refl _ _).drew
        clear hcells d0 d1 d2 d3 d4 d5 d9
        rcases (show t = 0 ∨ t = 1 ∨ t = 2 ∨ t = 3 ∨ t = 4 ∨ t = 5 ∨ t = 6 ∨ t = 7 by omega) with rfl | rfl | rfl | rfl | rfl | rfl | rfl | rfl
        · as_aux_lemma =>
            obtain ⟨r, cz⟩ := Zs.z_ready hR2.out n64 hm.out P G f
            replace cz := Lib.hid cz
            clear hR2
            go_wp2_with fail
            go_region_held3 (fun W' => W'.cell? ⟨z, 1, none⟩ = some (.int .i64 P) ∧ W'.cell? ⟨z, 2, none⟩ = some (.int .i64 G) ∧ W'.cell? ⟨z, 5, none⟩ = some (.bool f)) (first | exact ⟨c1, c2, c5⟩ | go_keep | assumption | exact ⟨cell_of hz1 (j := 1) rfl, cell_of hz1 (j := 2) rfl, cell_of hz1 (j := 5) rfl⟩ | exact ⟨cell_of hz2 (j := 1) rfl, cell_of hz2 (j := 2) rfl, cell_of hz2 (j := 5) rfl⟩) (first | (go_at_call 15; ((with_reducible refine (h4.out _ (by repeat (first | assumption | exact Below.refl _ _ | refine below_drewN ?_ _ | refine below_alloc ?_ _ | refine below_then ?_ (by assumption)))).mono ?_); rintro e w5 ⟨rfl, hz2, h5⟩)) | (go_at_call 14; ((with_reducible refine (cz.out _ (by repeat (first | assumption | exact Below.refl _ _ | refine below_drewN ?_ _ | refine below_alloc ?_ _ | refine below_then ?_ (by assumption)))).mono ?_); rintro e w4 ⟨rfl, hz1, h4⟩)))
            all_goals
              go_wp2_with fail
              go_meet
              exact ⟨rfl, Lib.hid (h5.out.more hm2.out)⟩
        · as_aux_lemma =>
            obtain ⟨r, cz⟩ := Zs.z_ready hR2.out n64 hm.out P G f
            replace cz := Lib.hid cz
            clear hR2
            go_wp2_with fail
            go_region_held3 (fun W' => W'.cell? ⟨z, 1, none⟩ = some (.int .i64 P) ∧ W'.cell? ⟨z, 2, none⟩ = some (.int .i64 G) ∧ W'.cell? ⟨z, 5, none⟩ = some (.bool f)) (first | exact ⟨c1, c2, c5⟩ | go_keep | assumption | exact ⟨cell_of hz1 (j := 1) rfl, cell_of hz1 (j := 2) rfl, cell_of hz1 (j := 5) rfl⟩ | exact ⟨cell_of hz2 (j := 1) rfl, cell_of hz2 (j := 2) rfl, cell_of hz2 (j := 5) rfl⟩) (first | (go_at_call 15; ((with_reducible refine (h4.out _ (by repeat (first | assumption | exact Below.refl _ _ | refine below_drewN ?_ _ | refine below_alloc ?_ _ | refine below_then ?_ (by assumption)))).mono ?_); rintro e w5 ⟨rfl, hz2, h5⟩)) | (go_at_call 14; ((with_reducible refine (cz.out _ (by repeat (first | assumption | exact Below.refl _ _ | refine below_drewN ?_ _ | refine below_alloc ?_ _ | refine below_then ?_ (by assumption)))).mono ?_); rintro e w4 ⟨rfl, hz1, h4⟩)))
            all_goals
              go_wp2_with fail
              go_meet
              exact ⟨rfl, Lib.hid (h5.out.more hm2.out)⟩
        · as_aux_lemma =>
            have cz := Zs.z_global hR2.out hm.out G
            clear hR2
            go_wp2_with fail
            with_reducible refine Calls.mono (cz) ?_
            rintro e w4 ⟨rfl, hz1, h4⟩
            have x2 := cell_of hz1 (j := 2) rfl
            have c6 := h4.out (w4.alloc (.cells #[.int .i64 G] 3)) _ _ (below_alloc (Below.refl _ _) _) (Ri.ints_lit w4 [G] 1 rfl (by omega) (A := #[.int .i64 G]) rfl)
            clear cz h4 hz1 c1 c2 c3 c4 c5
            go_wp2_with fail
            with_reducible refine Calls.mono (c6) ?_
            rintro e w5 ⟨rfl, _, h5⟩
            clear c6 x2
            go_wp2_with fail
            go_meet
            exact ⟨rfl, Lib.hid (h5.out.more hm2.out)⟩
        · as_aux_lemma =>
            obtain ⟨ga, gb, cz⟩ := Zs.z_pick hR2.out n64 hm.out P T U
            have hgb : (gb == gb) = true := by cases gb <;> rfl
            clear hR2
            go_wp2_with fail
            with_reducible refine Calls.mono (cz) ?_
            rintro e w4 ⟨rfl, hz1, h4⟩
            have x1 := cell_of hz1 (j := 1) rfl
            have x3 := cell_of hz1 (j := 3) rfl
            have x4 := cell_of hz1 (j := 4) rfl
            have c6 := h4.out w4 (Below.refl _ _)
            clear cz h4 hz1 c1 c2 c3 c4 c5
            go_wp2_with fail
            with_reducible refine Calls.mono (c6) ?_
            rintro e w5 ⟨rfl, _, h5⟩
            clear c6 x1 x3 x4
            go_wp2_with fail
            go_meet
            exact ⟨rfl, Lib.hid (h5.out.more (Nat.le_of_succ_le hm2.out))⟩
        · as_aux_lemma =>
            obtain ⟨ga, gb, cz⟩ := Zs.z_pick hR2.out n64 hm.out P T U
            have hgb : (gb == gb) = true := by cases gb <;> rfl
            clear hR2
            go_wp2_with fail
            with_reducible refine Calls.mono (cz) ?_
            rintro e w4 ⟨rfl, hz1, h4⟩
            have x1 := cell_of hz1 (j := 1) rfl
            have x3 := cell_of hz1 (j := 3) rfl
            have x4 := cell_of hz1 (j := 4) rfl
            have c6 := h4.out w4 (Below.refl _ _)
            clear cz h4 hz1 c1 c2 c3 c4 c5
            go_wp2_with fail
            with_reducible refine Calls.mono (c6) ?_
            rintro e w5 ⟨rfl, _, h5⟩
            clear c6 x1 x3 x4
            go_wp2_with fail
            go_meet
            exact ⟨rfl, Lib.hid (h5.out.more (Nat.le_of_succ_le hm2.out))⟩
        · as_aux_lemma =>
            obtain ⟨ga, gb, cz⟩ := Zs.z_pick hR2.out n64 hm.out P T U
            have hgb : (gb == gb) = true := by cases gb <;> rfl
            clear hR2
            go_wp2_with fail
            with_reducible refine Calls.mono (cz) ?_
            rintro e w4 ⟨rfl, hz1, h4⟩
            have x1 := cell_of hz1 (j := 1) rfl
            have x3 := cell_of hz1 (j := 3) rfl
            have x4 := cell_of hz1 (j := 4) rfl
            have c6 := h4.out w4 (Below.refl _ _)
            clear cz h4 hz1 c1 c2 c3 c4 c5
            go_wp2_with fail
            with_reducible refine Calls.mono (c6) ?_
            rintro e w5 ⟨rfl, _, h5⟩
            clear c6 x1 x3 x4
            go_wp2_with fail
            go_meet
            exact ⟨rfl, Lib.hid (h5.out.more (Nat.le_of_succ_le hm2.out))⟩
        · as_aux_lemma =>
            obtain ⟨r, cz⟩ := Zs.z_drop hR2.out n64 hm.out P
            replace cz := Lib.hid cz
            clear hR2
            go_wp2_with fail
            go_region_held3 (fun W' => W'.cell? ⟨z, 1, none⟩ = some (.int .i64 P)) (first | exact c1 | go_keep | assumption | exact cell_of hz1 (j := 1) rfl | exact cell_of hz2 (j := 1) rfl) (first | (go_at_call 21; ((with_reducible refine (h4.out _ (by repeat (first | assumption | exact Below.refl _ _ | refine below_drewN ?_ _ | refine below_alloc ?_ _ | refine below_then ?_ (by assumption)))).mono ?_); rintro e w5 ⟨rfl, hz2, h5⟩)) | (go_at_call 20; ((with_reducible refine (cz.out _ (by repeat (first | assumption | exact Below.refl _ _ | refine below_drewN ?_ _ | refine below_alloc ?_ _ | refine below_then ?_ (by assumption)))).mono ?_); rintro e w4 ⟨rfl, hz1, h4⟩)))
            all_goals
              go_wp2_with fail
              go_meet
              exact ⟨rfl, Lib.hid (h5.out.more (Nat.le_of_succ_le hm2.out))⟩
        · as_aux_lemma =>
            obtain ⟨Z, hZ⟩ : ∃ Z : Int, IntKind.u64.wrap G = Z := ⟨_, rfl⟩
            have z1 : 0 ≤ Z := by rw [← hZ, IntKind.wrap_u64]; omega
            obtain ⟨q, hq⟩ : ∃ q : Nat, Z % 300 = (q : Int) := ⟨(Z % 300).toNat, by omega⟩
            have q0 : (0 : Int) ≤ (q : Int) := by omega
            have q1 : (q : Int) < 300 := by omega
            clear hbd c1 c2 c3 c4 c5
            rw [ht]
            clear ht
            go_wp2_with fail
            go_loopw [10, 15] (fun vo vk wq => ∃ k : Nat, vo = .bool true ∧ vk = .int .i64 k ∧ k ≤ q ∧ Hid (Zs.Bz n w wq p x z (.cells #[.int .i64 K, .int .i64 P, .int .i64 G, .int .i64 T, .int .i64 U, .bool f] 30 (0, 0)) (301 * i + k))) (fun _ vk _ => (q - (RowKit.intOf vk).toNat))
            case atStart => exact ⟨0, rfl, rfl, by omega, hR2⟩
            case round =>
              clear hR2
              obtain ⟨k, rfl, rfl, kq, hR3⟩ := hrel
              have c2 := cell_of hR3.out.zc (j := 2) rfl
              have k0 : (0 : Int) ≤ (k : Int) := by omega
              by_cases hk : k < q
              · have k2 : (k : Int) < (q : Int) := by omega
                have c1 := cell_of hR3.out.zc (j := 1) rfl
                obtain ⟨r, cz⟩ := Zs.z_ready hR3.out n64 (by omega) P (k : Int) false
                replace cz := Lib.hid cz
                have hbd : Below wr.heap.size wr wr.drew := (Below.refl _ _).drew
                clear hR3
                go_wp2_with fail
                go_region_held3 (fun W' => W'.cell? ⟨z, 1, none⟩ = some (.int .i64 P)) (first | exact c1 | go_keep | assumption | exact cell_of hz1 (j := 1) rfl | exact cell_of hz2 (j := 1) rfl) (first | (go_at_call 15; ((with_reducible refine (h4.out _ (by repeat (first | assumption | exact Below.refl _ _ | refine below_drewN ?_ _ | refine below_alloc ?_ _ | refine below_then ?_ (by assumption)))).mono ?_); rintro e w5 ⟨rfl, hz2, h5⟩)) | (go_at_call 14; ((with_reducible refine (cz.out _ (by repeat (first | assumption | exact Below.refl _ _ | refine below_drewN ?_ _ | refine below_alloc ?_ _ | refine below_then ?_ (by assumption)))).mono ?_); rintro e w4 ⟨rfl, hz1, h4⟩)))
                all_goals
                  go_wp2_with fail
                  go_roundw
                  case rel => exact ⟨k + 1, rfl, by go_num, by omega, h5⟩
                  case measure => simp [RowKit.intOf]; omega
              · obtain rfl : k = q := by omega
                have k2 : ¬ (k : Int) < (k : Int) := by omega
                go_wp2_with fail
                go_meet
                exact ⟨rfl, Lib.hid (hR3.out.more (by omega))⟩
      case rest =>
        as_aux_lemma =>
          clear hR2 hcells d0 d1 d2 d3 d4 d5 d9
          obtain ⟨rfl, hZ⟩ := hcut
          have c2 := cell_of hZ.out.zc (j := 2) rfl
          have hm : Hid (301 * (i + 1) ≤ 100000) := Lib.hid (by omega)
          obtain ⟨ga, gb, q1, q2⟩ := Zs.z_where hZ.out.zz n64 hm.out G
          have hgb : (gb == gb) = true := by cases gb <;> rfl
          have hgb2 : (gb != gb) = false := by cases gb <;> rfl
          have hne : (ga != ga) = false := by simp
          have cw := q1 wc (Below.refl _ _)
          have q2' : Hid (∀ V, Below wc.heap.size wc V → (V.cell? ⟨z, 2, none⟩ = some (.int .i64 G)) ∧ Calls Try.prog 23 #[.pointer (some ⟨x, 0, none⟩), .int .i64 G] V fun e W' => e = .returned (.tuple #[.int .i64 ga, .bool gb]) ∧ Below V.heap.size V W') := Lib.hid fun V hV => ⟨cell_then hV c2, q2 V hV⟩
          clear q1 q2
          obtain ⟨u, q3, q4⟩ := Zs.z_len hZ.out.zz n64 hm.out
          have hu : ((u : Int) != (u : Int)) = false := by simp
          replace q3 := Lib.hid q3
          replace q4 : Hid (∀ V, Below wc.heap.size wc V → Calls Try.prog 25 #[.pointer (some ⟨x, 0, none⟩)] V fun e W' => e = .returned (.int .i64 u) ∧ Hid (Zs.Zz n w W' p x (301 * (i + 1)))) := Lib.hid fun V hV => (q4 V hV).mono fun e W' ⟨he, hb⟩ => ⟨he, Lib.hid (hZ.out.zz.below (hV.trans (hb.mono hV.size)))⟩
          clear hZ hm
          go_wp2_with fail
          with_reducible refine Calls.mono (cw) ?_
          rintro e w4 ⟨rfl, hb4⟩
          obtain ⟨c2', cw2⟩ := q2'.out w4 hb4
          clear cw c2 q2'
          go_wp2_with fail
          with_reducible refine Calls.mono (cw2) ?_
          rintro e w5 ⟨rfl, hb5⟩
          replace hb5 := Lib.hid (hb4.trans (hb5.mono hb4.size))
          have cl := q3.out w5 hb5.out
          have cl2 : Hid (∀ c, Calls Try.prog 25 #[.pointer (some ⟨x, 0, none⟩)] (w5.drewN c) fun e W' => e = .returned (.int .i64 u) ∧ Hid (Zs.Zz n w W' p x (301 * (i + 1)))) := Lib.hid fun c => q4.out _ (below_drewN hb5.out c)
          clear cw2 c2' hb4 q3 q4 hb5
          go_wp2_with fail
          with_reducible refine Calls.mono (cl) ?_
          rintro e w6 ⟨rfl, c6, rfl⟩
          have cl3 := cl2.out c6
          clear cl cl2
          go_wp2_with fail
          with_reducible refine Calls.mono (cl3) ?_
          rintro e w7 ⟨rfl, hb6⟩
          clear cl3
          go_wp2_with fail
          go_roundw
          case rel => exact ⟨i + 1, by go_num, by omega, by omega, hb6⟩
          case measure => simp [RowKit.intOf]; omega
    · as_aux_lemma =>
        have hm : Hid (301 * i ≤ 100000) := Lib.hid (by omega)
        clear hcells
        by_cases hkl : i < l
        all_goals
          first
            | (have i2 : (i : Int) < (l : Int) := by omega
               have i3 : ¬ (i : Int) < 80 := by omega)
            | (have i2 : ¬ (i : Int) < (l : Int) := by omega)
          go_wp2_with fail
          clear i2
          go_loopw [20] (fun vi wq => ∃ k : Nat, vi = .int .i64 k ∧ k ≤ n ∧ Hid (Zs.Zz n w wq p x (301 * i))) (fun vi _ => (n - (RowKit.intOf vi).toNat))
          case atStart => exact ⟨0, rfl, by omega, hR⟩
          case round =>
            clear hR
            obtain ⟨k, rfl, kn, hR⟩ := hrel
            have k0 : (0 : Int) ≤ (k : Int) := by omega
            by_cases hk : k < n
            · have k2 : (k : Int) < (n : Int) := by omega
              obtain ⟨rv, b, off, cap', a, erv, hS, hP1⟩ := Zs.z_local hR.out n64 hk
              subst erv
              obtain ⟨c0, c2⟩ := hS wr (Below.refl _ _)
              replace hP1 := Lib.hid hP1
              have hbd : Below wr.heap.size wr wr.drew := (Below.refl _ _).drew
              clear hR hm hS
              go_wp2_with fail
              go_region_held3 (fun W' => W'.cell? ⟨x, 0, none⟩ = some (.slice (some ⟨b, off, none⟩) n cap') ∧ W'.cell? ⟨b, off + k, none⟩ = some (.pointer (some ⟨a, 0, none⟩))) (first | exact ⟨c0, c2⟩ | go_keep | assumption | (go_split_ands; exact ⟨cell_then (by assumption) (by assumption), cell_then (by assumption) (by assumption)⟩)) (first | (go_at_call 26; ((with_reducible refine (hP3.out _ (by repeat (first | assumption | exact Below.refl _ _ | refine below_drewN ?_ _ | refine below_alloc ?_ _ | refine below_then ?_ (by assumption)))).mono ?_); rintro e wx ⟨rfl, hkx, hEnd⟩)) | (go_at_call 28; ((with_reducible refine (hP2.out _ (by repeat (first | assumption | exact Below.refl _ _ | refine below_drewN ?_ _ | refine below_alloc ?_ _ | refine below_then ?_ (by assumption)))).mono ?_); rintro e wy ⟨r2, rfl, hky, hP3⟩)) | (go_at_call 27; ((with_reducible refine (hP1.out _ (by repeat (first | assumption | exact Below.refl _ _ | refine below_drewN ?_ _ | refine below_alloc ?_ _ | refine below_then ?_ (by assumption)))).mono ?_); rintro e wz ⟨r, rfl, hkz, hP2⟩)))
              all_goals
                go_wp2_with fail
                go_roundw
                case rel => exact ⟨k + 1, by go_num, by omega, hEnd⟩
                case measure => simp [RowKit.intOf]; omega
            · obtain rfl : k = n := by omega
              have k2 : ¬ (k : Int) < (k : Int) := by omega
              obtain ⟨lv, hS, hP1⟩ := Zs.z_end hR.out n64 hm.out
              have c1 := hS wr (Below.refl _ _)
              replace hP1 := Lib.hid hP1
              have hbd : Below wr.heap.size wr wr.drew := (Below.refl _ _).drew
              clear hR hm hS
              go_wp2_with fail
              go_region_held3 (fun W' => W'.cell? ⟨x, 1, none⟩ = some lv) (first | exact c1 | go_keep | assumption | (exact cell_then (by assumption) (by assumption))) (first | (go_at_call 27; ((with_reducible refine (hP5.out _ (by repeat (first | assumption | exact Below.refl _ _ | refine below_drewN ?_ _ | refine below_alloc ?_ _ | refine below_then ?_ (by assumption)))).mono ?_); rintro e wt ⟨s5, c5, rfl, hkt, hEnd⟩)) | (go_at_call 27; ((with_reducible refine (hP4.out _ (by repeat (first | assumption | exact Below.refl _ _ | refine below_drewN ?_ _ | refine below_alloc ?_ _ | refine below_then ?_ (by assumption)))).mono ?_); rintro e wu ⟨s4, c4, rfl, hku, hP5⟩)) | (go_at_call 26; ((with_reducible refine (hP3.out _ (by repeat (first | assumption | exact Below.refl _ _ | refine below_drewN ?_ _ | refine below_alloc ?_ _ | refine below_then ?_ (by assumption)))).mono ?_); rintro e wx ⟨rfl, hkx, hP4⟩)) | (go_at_call 29; ((with_reducible refine (hP2.out _ (by repeat (first | assumption | exact Below.refl _ _ | refine below_drewN ?_ _ | refine below_alloc ?_ _ | refine below_then ?_ (by assumption)))).mono ?_); rintro e wy ⟨r, rfl, hky, hP3⟩)) | (go_at_call 12; ((with_reducible refine (hP1.out _ (by repeat (first | assumption | exact Below.refl _ _ | refine below_drewN ?_ _ | refine below_alloc ?_ _ | refine below_then ?_ (by assumption)))).mono ?_); rintro e wz ⟨rfl, hkz, hP2⟩)))
              all_goals
                go_wp2_with fail
                go_ret
                exact ⟨rfl, hEnd.out⟩

set_option maxRecDepth 100000 in
theorem lifted (os : Os) (started : os.Started) (H : Type) (enc : TypeId × Value → H) :
    ReturnsInHanded {} Try.checked os 3 .any (Rows.schedPlaysSpec.pre6 enc Try.prog Try.f3 Rows.schedPlaysRow.domain false) (Rows.schedPlaysSpec.post enc Try.prog Try.f3 false true false false) := by
  refine returnsInHanded_of_change (C := Try.checked) own started (by kernel_rfl) Try.func3
    (ChangeSpec.witness6 (enc := enc) (C := Try.checked) false ⟨#[], #[.int .i64 0, .slice none 0 0], []⟩ 8 (by kernel_rfl) (by kernel_rfl) (by kernel_rfl) (by kernel_rfl)) ?_
  intro W base args ds gs before hval0 hW hcnd _
  have hval : ∀ (j : Nat) t v, Try.f3.params[j]? = some t → args[j]? = some v → Value.okWide Try.prog W .any base t v := hval0
  have hW' := hW
  obtain ⟨p, q, hA0, hV, rfl, hfz, hnd⟩ := hW
  have hA : DataW.TrodAll enc Try.prog W 0 (fun _ => true) true Try.f3.params.toList args.toList ds p := hA0
  rw [Try.params3] at hA hval
  obtain ⟨v0, vs0, d0, ds0, p0, q0, hargs, rfl, rfl, h0, r0⟩ := trodAll_cons hA
  obtain ⟨v1, vs1, d1, ds1, p1, q1, rfl, rfl, rfl, h1, r1⟩ := trodAll_cons r0
  obtain ⟨rfl, rfl, rfl⟩ := trodAll_nil r1
  obtain rfl : args = #[v0, v1] := by cases args; simp_all
  obtain ⟨rfl, rfl⟩ := trodVars_none hV
  obtain ⟨zb1, i1⟩ := op27_arg (hval 1 22 v1 rfl rfl) h1
  obtain ⟨a0, rfl, rfl, rfl, w0⟩ := open_int Try.underlying3 (hval 0 3 v0 rfl rfl) h0
  clear hA0 hval0
  simp only [List.append_nil] at hW'
  have lt1 : ∀ x ∈ p1, x.block < W.heap.size := fun x hx => by have := hW'.lt x (by simp [hx]); simpa using this
  refine (walk a0 v1 zb1 W w0 i1).mono fun e W' ⟨he, hg⟩ => ?_
  subst he
  exact ⟨_, rfl, post_of_kept (pa := _) (pv := []) hW' (fun _ _ _ => (trodAll_cons_mk (shut_bool Try.underlying4 _) trodAll_mk0)) (trodAll_cons_mk (shut_int Try.underlying3 w0) (trodAll_cons_mk (Below.trod laidOut (by kernel_rfl) (of_decide_eq_true (by kernel_rfl)) h1 hg lt1) trodAll_mk0)) (fun _ _ => rfl) (by simp) hg⟩

theorem over : Rows.schedPlaysRow.holds Try.pinned (OpenSpec.ofChange Rows.schedPlaysSpec) :=
  OpenClaim.holds_of_wide 3 Try.f3 rfl rfl rfl rfl rfl rfl rfl ⟨rfl, rfl, rfl, rfl, rfl⟩ rfl rfl rfl rfl rfl (by kernel_rfl) Try.func3 (by kernel_rfl)
    (of_decide_eq_true (by kernel_rfl)) (by unfold Func.isWrapper; first | (rw [if_pos (by decide +kernel)]; kernel_rfl) | (rw [if_neg (by decide +kernel)]; exact ⟨rfl, rfl⟩))
    (fun os started H enc _ => lifted os started H enc)

theorem proved : Rows.SchedPlaysSaid :=
  over
#print axioms proved
end Go.Proofs.Ytpclacaiabbmjaa.schedPlays
