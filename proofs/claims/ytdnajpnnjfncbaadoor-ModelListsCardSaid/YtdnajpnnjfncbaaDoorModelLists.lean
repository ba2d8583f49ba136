import Derived.Test.YtdnajpnnjfncbaaDoorMB5
import Derived.Test.YtdnajpnnjfncbaaDoorMB4
import Derived.WalkKit
import Derived.ProofKit
import Derived.OpenShut
import Derived.Test.YtdnajpnnjfncbaaDoorTie
import Derived.Test.YtdnajpnnjfncbaaDoorCards
import Derived.LaidMore
import Derived.Stop.Joined
import Derived.SevenTiedAt
import Derived.Deep.RegionHeld3
import Derived.Deep.RegionWith
import Derived.Deep.Cut
import Derived.Deep.CutBlock
import Derived.Deep.CutRange
import Derived.Deep.LoopGhost
import Derived.Deep.DeepCutAuto
import Derived.RegionTactic
import Derived.StillTailTactics
import Derived.Deep.RegionLaw
/- A list that is made node by node is there as long as its head is, and gone with it (16.1): so many nodes (1 to 20). No further condition but the listed table. -/
namespace Go.Proofs.YtdnajpnnjfncbaaDoor.modelLists
open Go.ChangeShapes Go.WideShapes Go.ChangeAt Go.WideElems Go.RowKit Go.Lib Fx Ho Gr Cd
set_option linter.unusedVariables false

theorem own : ownKnob Tryd.prog.godebug = none := by kernel_rfl

set_option maxRecDepth 100000 in
set_option maxHeartbeats 4000000 in
theorem walk (a0 : Int) (w : World) (hT : Tk w) (w0 : (Lit.int .i64 a0).wf = true) :
    Calls Tryd.prog 6 #[.int .i64 a0] w fun e w' => e = .returned (.bool true) ∧ Below w.heap.size w w' := by
  obtain ⟨Y0, h00⟩ : ∃ Y : Int, IntKind.u64.wrap a0 = Y := ⟨_, rfl⟩
  have p0 : 0 ≤ Y0 := by rw [← h00, IntKind.wrap_u64]; omega
  obtain ⟨k, hk⟩ : ∃ k : Nat, 1 + Y0 % 20 = (k : Int) := ⟨(1 + Y0 % 20).toNat, by omega⟩
  have k1 : 1 ≤ k := by omega
  have k20 : k ≤ 20 := by omega
  have hP := Lib.hid (Md.pgL k1 k20)
  have hT := Lib.hid hT
  go_enter Tryd.func6, Tryd.ntmps6
  go_upto_region 2 with fail
  try rw [h00]
  try rw [hk]
  clear h00 hk
  have st0 : Hid (Md.Pw w w (.slice none 0 0) (Md.lL 0)) := Lib.hid (Md.pw_start w)
  go_wp2_with fail
  go_loopw [4, 5] (fun u4 u wr => ∃ (i : Nat) (s : Option Addr) (c : Nat), u4 = .slice s (3 * i) c ∧ u = .int .i64 i ∧ i ≤ k ∧ Hid (Md.Pw w wr (.slice s (3 * i) c) (Md.lL i))) (fun _ u _ => (k - (RowKit.intOf u).toNat))
  case atStart => exact ⟨0, none, 0, rfl, rfl, by omega, st0⟩
  case round =>
    obtain ⟨i, s, c, rfl, rfl, hik, hpw⟩ := hrel
    clear st0
    have i0 : (0 : Int) ≤ (i : Int) := by omega
    by_cases hlt : i < k
    · have i2 : (i : Int) < (k : Int) := by omega
      have hb1 := below_alloc (Below.refl wr.heap.size wr) (.cells #[.int .i64 1, .int .i64 1, .int .i64 1, .int .i64 0, .int .i64 3, .int .i64 1, .int .i64 0, .int .i64 0, .int .i64 4, .int .i64 0, .int .i64 1, .int .i64 0] 29)
      have hrow : Hid (GRow 4 (wr.alloc (.cells #[.int .i64 1, .int .i64 1, .int .i64 1, .int .i64 0, .int .i64 3, .int .i64 1, .int .i64 0, .int .i64 0, .int .i64 4, .int .i64 0, .int .i64 1, .int .i64 0] 29)) (.slice s (3 * i) c) (3 * i) (ca (Md.lL i))) := Lib.hid (by have := hpw.out.row.below hb1; rw [Md.lL_len] at this; exact this)
      have hsrc : Hid (Src Tryd.prog 4 30 (.slice (some ⟨wr.heap.size, 0, none⟩) 3 3) 3 (ca Md.l3) (wr.alloc (.cells #[.int .i64 1, .int .i64 1, .int .i64 1, .int .i64 0, .int .i64 3, .int .i64 1, .int .i64 0, .int .i64 0, .int .i64 4, .int .i64 0, .int .i64 1, .int .i64 0] 29))) := Lib.hid (Md.src_lit wr Md.l3 (by decide) (by decide))
      have hbd : 3 * i + 3 ≤ 1000000 := by omega
      have key : Hid (∀ u8 w8, GRow 4 w8 u8 (3 * i + 3) (ca (Md.lL i) ++ ca Md.l3) → Wrote (fun k => (Value.slice s (3 * i) c).ownBlock = some k) (wr.alloc (.cells #[.int .i64 1, .int .i64 1, .int .i64 1, .int .i64 0, .int .i64 3, .int .i64 1, .int .i64 0, .int .i64 0, .int .i64 4, .int .i64 0, .int .i64 1, .int .i64 0] 29)) (fun k => u8.ownBlock = some k) w8 → ∃ s c, u8 = .slice s (3 * (i + 1)) c ∧ Hid (Md.Pw w w8 (.slice s (3 * (i + 1)) c) (Md.lL (i + 1)))) := Lib.hid fun u8 w8 g1 g2 => by
        obtain ⟨s8, c8, rfl⟩ := g1.slice
        exact ⟨s8, c8, rfl, Lib.hid (hpw.out.more (l := Md.l3) hb1 (by rw [Md.lL_len]; exact g1) g2)⟩
      clear hpw hb1
      generalize ca (Md.lL i) = XX at *
      go_wp2_with (at_builtin; refine wpList_append_g rfl (.tmp 22) (.tmp 26) rfl rfl eltIns hrow.out rfl rfl hsrc.out hbd ?_; intro u8 w8 g1 g2; have hk := key.out u8 w8 g1 g2; obtain ⟨s9, c9, rfl, hnx⟩ := hk; clear key g1 g2 hrow hsrc)
      go_roundw
      case rel => exact ⟨i + 1, s9, c9, rfl, by go_num, by omega, hnx⟩
      case measure => simp [RowKit.intOf]; omega
    · obtain rfl : i = k := by omega
      have hb1 := below_alloc (Below.refl wr.heap.size wr) (.cells #[.int .i64 5, .int .i64 1, .int .i64 0, .int .i64 0, .int .i64 5, .int .i64 0, .int .i64 0, .int .i64 0] 29)
      have hrow : Hid (GRow 4 (wr.alloc (.cells #[.int .i64 5, .int .i64 1, .int .i64 0, .int .i64 0, .int .i64 5, .int .i64 0, .int .i64 0, .int .i64 0] 29)) (.slice s (3 * i) c) (3 * i) (ca (Md.lL i))) := Lib.hid (by have := hpw.out.row.below hb1; rw [Md.lL_len] at this; exact this)
      have hsrc : Hid (Src Tryd.prog 4 30 (.slice (some ⟨wr.heap.size, 0, none⟩) 2 2) 2 (ca Md.l2L) (wr.alloc (.cells #[.int .i64 5, .int .i64 1, .int .i64 0, .int .i64 0, .int .i64 5, .int .i64 0, .int .i64 0, .int .i64 0] 29))) := Lib.hid (Md.src_lit wr Md.l2L (by decide) (by decide))
      have hbd : 3 * i + 2 ≤ 1000000 := by omega
      have key : Hid (∀ u8 w8, GRow 4 w8 u8 (3 * i + 2) (ca (Md.lL i) ++ ca Md.l2L) → Wrote (fun k => (Value.slice s (3 * i) c).ownBlock = some k) (wr.alloc (.cells #[.int .i64 5, .int .i64 1, .int .i64 0, .int .i64 0, .int .i64 5, .int .i64 0, .int .i64 0, .int .i64 0] 29)) (fun k => u8.ownBlock = some k) w8 → ∃ s c, u8 = .slice s (3 * i + 2) c ∧ Hid (Md.Pw w w8 (.slice s (3 * i + 2) c) (Md.lL i ++ Md.l2L))) := Lib.hid fun u8 w8 g1 g2 => by
        obtain ⟨s8, c8, rfl⟩ := g1.slice
        exact ⟨s8, c8, rfl, Lib.hid (hpw.out.more (l := Md.l2L) hb1 (by rw [Md.lL_len]; exact g1) g2)⟩
      clear hpw hb1
      generalize ca (Md.lL i) = XX at *
      go_wp2_with (at_builtin; refine wpList_append_g rfl (.tmp 28) (.tmp 31) rfl rfl eltIns hrow.out rfl rfl hsrc.out hbd ?_; intro u8 w8 g1 g2; have hk := key.out u8 w8 g1 g2; obtain ⟨s9, c9, rfl, hnx⟩ := hk; clear key g1 g2 hrow hsrc)
      obtain ⟨hF, hbU⟩ := hnx.out.prog
      have cb := Md.ms_build (G := 0) (hT.out.below hbU) (fs := Md.fsL i) hF (Md.may_of hP.out)
      obtain ⟨U, hU⟩ : ∃ U, w8.alloc (.cells #[.slice s9 (3 * i + 2) c9] 30) = U := ⟨_, rfl⟩
      rw [hU] at cb hbU
      try rw [hU]
      replace hbU := Lib.hid hbU
      clear hnx hF hU
      with_reducible refine Calls.mono cb ?_
      rintro e w2 ⟨p, rfl, hm⟩
      clear cb
      have hm : Hid (Md.Ms U w2 0 (Md.fsL i) p (Md.mL i 0) 0 (fun k => k ∈ [])) := Lib.hid hm
      go_wp2_with fail
      have e3 : ∀ x : Int, 0 ≤ x → x ≤ 100 → IntKind.i64.wrap (3 * x) = 3 * x := fun x h1 h2 => by rw [IntKind.wrap_i64]; omega
      go_loopw [7] (fun u wr => ∃ j : Nat, u = .int .i64 j ∧ j ≤ 3 * i + 1 ∧ Hid (Md.Ms U wr 0 (Md.fsL i) p (Md.mL i j) j (fun k => k ∈ []))) (fun u _ => (3 * i + 1 - (RowKit.intOf u).toNat))
      case atStart => exact ⟨0, rfl, by omega, hm⟩
      case round =>
        obtain ⟨j, rfl, hj, hmj⟩ := hrel
        clear hm
        have j0 : (0 : Int) ≤ (j : Int) := by omega
        by_cases hlt2 : j < 3 * i + 1
        · have j2 : (j : Int) < 3 * (i : Int) + 1 := by omega
          obtain ⟨r1, r2, pc, op, v, hc⟩ := Md.mL_go hlt2
          have cd := Md.ms_step (g := 0) hmj.out hP.out (by omega) (by omega) (by omega) r1
          rw [hc] at cd
          unfold Md.comV at cd
          clear hmj r1 r2 hc
          go_wp2_with fail
          with_reducible refine Calls.mono cd ?_
          rintro e w5 ⟨rfl, hm5, -⟩
          clear cd
          go_upto_region 14 with fail
          obtain ⟨hm6, kc, -⟩ := hm5.var #[.int .i64 0, .int .i64 0, .int .i64 pc, .int .i64 op, .int .i64 v, .bool false] 24
          have hnx : Hid (Md.Ms U (w5.alloc (.cells #[.int .i64 0, .int .i64 0, .int .i64 pc, .int .i64 op, .int .i64 v, .bool false] 24)) 0 (Md.fsL i) p (Md.mL i (j + 1)) (j + 1) (fun k => k ∈ [])) := Lib.hid (hm6.sub (fun k hk => by cases hk))
          have d5 := cell_of kc (j := 5) rfl
          obtain ⟨W6, hW6⟩ : ∃ W, w5.alloc (.cells #[.int .i64 0, .int .i64 0, .int .i64 pc, .int .i64 op, .int .i64 v, .bool false] 24) = W := ⟨_, rfl⟩
          rw [hW6] at hnx d5
          try rw [hW6]
          obtain ⟨Nc, hNc⟩ : ∃ N, w5.heap.size = N := ⟨_, rfl⟩
          rw [hNc] at d5
          try rw [hNc]
          clear hW6 hNc hm5 hm6 kc
          go_wp2_with fail
          go_roundw
          case rel => exact ⟨j + 1, by go_num, by omega, hnx⟩
          case measure => simp [RowKit.intOf]; omega
        · obtain rfl : j = 3 * i + 1 := by omega
          have hmr := hmj.out
          rw [Md.mL_end] at hmr
          have cr := Md.ms_reach hmr (by omega)
          replace hmr := Lib.hid hmr
          clear hmj
          have j2 : ¬ ((3 * i + 1 : Nat) : Int) < 3 * (i : Int) + 1 := by omega
          have j3 : ((3 * i + 1 : Nat) : Int) = 3 * (i : Int) + 1 := by omega
          rw [j3]
          go_wp2_with fail
          with_reducible refine Calls.mono cr ?_
          rintro e w6 ⟨v, zs, rfl, hb6, hi6, hz6⟩
          have hl6 := Md.reachL k1 hz6
          obtain ⟨sp, cap, rfl, -, -⟩ := hi6
          rw [hl6]
          have hm7 := hmr.out.below hb6
          have cd := Md.ms_step (g := 0) hm7 hP.out (by omega) (by show 1 < 1000; omega) (by show 0 < 1; omega) rfl
          rw [Md.stL4] at cd
          obtain ⟨cv, hcv⟩ : ∃ cv, Md.comM (Md.fsL i) (Md.xL (3 * i + 1) i 0 (Md.obL i)) 0 = cv := ⟨_, rfl⟩
          rw [hcv] at cd
          clear cr hz6 hl6 hmr hb6 hcv
          replace hm7 := Lib.hid hm7
          go_wp2_with fail
          with_reducible refine Calls.mono cd ?_
          rintro e w8 ⟨rfl, hm8, -⟩
          have cr := Md.ms_reach hm8 (by omega)
          have hm8 := Lib.hid hm8
          clear cd hm7
          go_wp2_with fail
          with_reducible refine Calls.mono cr ?_
          rintro e w9 ⟨v9, zs9, rfl, hb9, hi9, hz9⟩
          obtain rfl := Md.noneR Md.noL hz9
          obtain ⟨sp9, cap9, rfl, -, -⟩ := hi9
          have hm9 := hm8.out.below hb9
          have ci := Md.ms_ids hm9
          have e9 : (Md.xL (3 * i + 2) 0 0 (Md.obL i)).ob.length = i := Md.obL_len i
          rw [e9] at ci
          replace hm9 := Lib.hid hm9
          simp only [List.length_nil]
          clear cr hz9 hb9 hm8
          go_wp2_with fail
          with_reducible refine Calls.mono ci ?_
          rintro e w10 ⟨rfl, rfl⟩
          clear ci
          go_wp2_with fail
          go_loopw [11] (fun u wr => ∃ j : Nat, u = .int .i64 j ∧ 1 ≤ j ∧ j ≤ i + 1 ∧ Hid (Md.Ms U wr 0 (Md.fsL i) p (Md.xL (3 * i + 2) 0 0 (Md.obL i)) (3 * i + 2) (fun k => k ∈ []))) (fun u _ => (i + 1 - (RowKit.intOf u).toNat))
          case atStart => exact ⟨1, rfl, by omega, by omega, hm9⟩
          case round =>
            obtain ⟨j, rfl, hj1, hj2, hmj⟩ := hrel
            clear hm9
            by_cases hlt3 : j ≤ i
            · have j4 : (j : Int) ≤ (i : Int) := by omega
              have cs := Md.ms_slots hmj.out (by omega) hj1 (by rw [e9]; exact hlt3)
              have eo : (Md.xL (3 * i + 2) 0 0 (Md.obL i)).ob.getD (j - 1) [] = [((j - 1 : Nat) : Int), 0] := Md.obL_get (by omega)
              rw [eo] at cs
              obtain ⟨j', hj'⟩ : ∃ j', j = j' + 1 := ⟨j - 1, by omega⟩
              have e5 : (j : Int) - 1 = (j' : Int) := by omega
              have e6 : IntKind.i64.wrap ((j : Int) - 1) = (j' : Int) := by rw [IntKind.wrap_i64]; omega
              rw [show j - 1 = j' by omega] at cs
              have hm10 := hmj.out
              clear hmj eo hj'
              replace hm10 := Lib.hid hm10
              go_wp2_with fail
              with_reducible refine Calls.mono cs ?_
              rintro e w11 ⟨v11, rfl, hb11, hi11⟩
              have hb12 := below_alloc (Below.refl w11.heap.size w11) (.cells #[.int .i64 j', .int .i64 0] 3)
              have hi12 := Pt.ints_lit w11 [(j' : Int), 0] 2 rfl (by decide) (A := #[.int .i64 j', .int .i64 0]) rfl
              have cq := ints_any (hi11.below hb12) hi12
              have hnx : Hid (∀ dn, Md.Ms U ((w11.alloc (.cells #[.int .i64 j', .int .i64 0] 3)).drewN dn) 0 (Md.fsL i) p (Md.xL (3 * i + 2) 0 0 (Md.obL i)) (3 * i + 2) (fun k => k ∈ [])) := Lib.hid fun dn => (hm10.out.below hb11).below (below_drewN hb12 dn)
              clear cs hb11 hi11 hb12 hi12 hm10
              go_wp2_with fail
              with_reducible refine Calls.mono cq ?_
              rintro e w13 ⟨rfl, dn, rfl⟩
              have hnx := Lib.hid (hnx.out dn)
              obtain ⟨W13, hW13⟩ : ∃ W, (w11.alloc (.cells #[.int .i64 j', .int .i64 0] 3)).drewN dn = W := ⟨_, rfl⟩
              rw [hW13] at hnx
              try rw [hW13]
              clear hW13 cq
              go_wp2_with fail
              go_roundw
              case rel => exact ⟨j + 1, by go_num, by omega, by omega, hnx⟩
              case measure => simp [RowKit.intOf]; omega
            · have j4 : ¬ (j : Int) ≤ (i : Int) := by omega
              have hbr := Lib.hid (hbU.out.trans (hmj.out.bel.mono hbU.out.size))
              have ct := Md.told_any (hT.out.below hbr.out)
              clear hmj
              go_wp2_with fail
              with_reducible refine Calls.mono ct ?_
              rintro e wz ⟨rfl, hbz⟩
              have hfin := Lib.hid (hbr.out.trans (hbz.mono hbr.out.size))
              clear ct hbz hbr
              go_wp2_with fail
              go_ret
              exact ⟨rfl, hfin.out⟩

set_option maxRecDepth 100000 in
theorem lifted (os : Os) (started : os.Started) (H : Type) (enc : TypeId × Value → H) :
    ReturnsInHanded {} Tryd.checked os 6 .any (fun w args => (Rows.modelListsSpec.pre enc Tryd.prog Tryd.f6 [] false w args ∧ laidMetH Tryd.prog [("treadmill/code.takes", Rows.laid_treadmill_code_takes)] w) ∧ sizedMet enc Tryd.prog Tryd.f6 (OpenSpec.ofChange Rows.modelListsSpec) false w args) (Rows.modelListsSpec.post enc Tryd.prog Tryd.f6 false true false false) := by
  refine returnsInHanded_of_change_and (C := Tryd.checked) (X := fun w _ => laidMetH Tryd.prog [("treadmill/code.takes", Rows.laid_treadmill_code_takes)] w) (fun _ _ _ hh h => h.of_heap hh) own started (by kernel_rfl) Tryd.func6
    (ChangeSpec.witness_shaped (enc := enc) (C := Tryd.checked) (os := os) (X := fun w _ => laidMetH Tryd.prog [("treadmill/code.takes", Rows.laid_treadmill_code_takes)] w) false (World.doorLaid Tryd.prog 400 os) #[.int .i64 0] 8 rfl (World.shaped_of_RefB (by kernel_rfl) (by kernel_rfl)) (by kernel_rfl) (by kernel_rfl) (by kernel_rfl) (door_met os _)) ?_
  intro W base args ds gs before hval0 hW _ _ hL _
  have hval : ∀ (j : Nat) t v, Tryd.f6.params[j]? = some t → args[j]? = some v → Value.okWide Tryd.prog W .any base t v := hval0
  have hW' := hW
  obtain ⟨p, q, hA0, hV, rfl, hfz, hnd⟩ := hW
  have hA : DataW.TrodAll enc Tryd.prog W 0 (fun _ => true) true Tryd.f6.params.toList args.toList ds p := hA0
  rw [Tryd.params6] at hA hval
  obtain ⟨v0, vs0, d0, ds0, p0, q0, hargs, rfl, rfl, h0, r0⟩ := trodAll_cons hA
  obtain ⟨rfl, rfl, rfl⟩ := trodAll_nil r0
  obtain rfl : args = #[v0] := by cases args; simp_all
  obtain ⟨rfl, rfl⟩ := trodVars_none hV
  obtain ⟨a0, rfl, rfl, rfl, w0⟩ := open_int Tryd.underlying3 (hval 0 3 v0 rfl rfl) h0
  clear hA0 hval0
  simp only [List.append_nil] at hW'
  refine (walk a0 W (tk_of_laid hL) w0).mono fun e W' ⟨he, hg⟩ => ?_
  subst he
  exact ⟨_, rfl, post_of_kept (pa := _) (pv := []) hW' (fun _ _ _ => (trodAll_cons_mk (shut_bool Tryd.underlying4 _) trodAll_mk0)) (trodAll_cons_mk (shut_int Tryd.underlying3 w0) trodAll_mk0) (fun _ _ => rfl) (by simp) hg⟩

theorem over : Rows.modelListsRow.holds Tryd.pinned (OpenSpec.ofChange Rows.modelListsSpec) :=
  OpenClaim.holds_of_wide 6 Tryd.f6 rfl rfl rfl rfl rfl rfl rfl ⟨rfl, rfl, rfl, rfl, rfl⟩ rfl rfl rfl rfl rfl (by kernel_rfl) Tryd.func6 (by kernel_rfl)
    (of_decide_eq_true (by kernel_rfl)) (by unfold Func.isWrapper; first | (rw [if_pos (by decide +kernel)]; kernel_rfl) | (rw [if_neg (by decide +kernel)]; exact ⟨rfl, rfl⟩))
    (fun os started H enc _ => lifted os started H enc)

theorem proved : Rows.ModelListsCardSaid :=
  Claim7.holds_tied_plain_at .later [] [.data] true Rows.modelListsCard.stood.harness true
    over (fun _ h => by cases h) (by kernel_rfl) (fun _ h => by cases h) modelLists_row_tie rfl ⟨rfl, rfl⟩ (by kernel_rfl) rfl
    (fun f fn hf hfn => by
      obtain rfl : f = 6 := Option.some.inj ((show Tryd.prog.funcNamed "treadmill/treadmilllaw16.ModelLists" = some 6 by kernel_rfl).symm.trans hf) |>.symm
      obtain rfl : fn = Tryd.f6 := (Option.some.inj (Tryd.func6.symm.trans hfn)).symm
      exact ⟨by kernel_rfl, fun j t ht => by
        rw [Tryd.params6] at ht
        have hm : t ∈ [3] := by simpa using Array.mem_of_getElem? ht
        have hall : ([3].all fun u => !Tryd.prog.wantsStandIn u) = true := by kernel_rfl
        exact (show Tryd.prog.wantsStandIn t = false by simpa using List.all_eq_true.1 hall t hm)⟩)
    (by kernel_rfl)
#print axioms proved
end Go.Proofs.YtdnajpnnjfncbaaDoor.modelLists
