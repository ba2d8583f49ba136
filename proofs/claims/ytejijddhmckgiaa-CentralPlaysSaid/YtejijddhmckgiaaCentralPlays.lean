/- Spans in common go as the document says: any operations; no conditions. -/
import Derived.Test.YtejijddhmckgiaaHome
import Derived.Test.YtejijddhmckgiaaCenBoth
import Derived.Test.YtejijddhmckgiaaOp8w
import Derived.WalkKit
import Derived.ProofKit
import Derived.OpenShut
import Derived.Deep.RegionHeld3
import Derived.Deep.RegionWith
import Derived.Deep.Cut
import Derived.Deep.CutBlock
import Derived.Deep.CutRange
import Derived.Deep.LoopGhost
import Derived.Deep.DeepCutAuto
import Derived.RegionTactic
import Derived.StillTailTactics
namespace Go.Proofs.Ytejijddhmckgiaa.centralPlays
open Go.ChangeShapes Go.WideShapes Go.ChangeAt Go.WideElems Go.RowKit Go.Lib Fx Ho Zc Rw
set_option linter.unusedVariables false

theorem own : ownKnob Try.prog.godebug = none := by kernel_rfl

theorem trem (x : Int) : -8 < x.tmod 8 ∧ x.tmod 8 < 8 := by
  rw [Int.tmod_eq_emod]; split <;> omega
set_option maxRecDepth 100000 in
set_option maxHeartbeats 4000000 in
theorem walk (v0 : Value) (zb0 : List _) (w : World) (h0 : Op8w w v0 zb0) :
    Calls Try.prog 7 #[v0] w fun e w' => e = .returned (.bool true) ∧ Below w.heap.size w w' := by
  obtain ⟨sp, cap, rfl, hm, hc⟩ := h0
  obtain ⟨l, hl⟩ : ∃ l, zb0.length = l := ⟨_, rfl⟩
  rw [hl] at hm hc ⊢
  have hcells : Hid (∀ wr, Below w.heap.size w wr → ∀ i, i < l → ∃ b off K C D f, sp = some ⟨b, off, none⟩ ∧ wr.cell? ⟨b, off + i * 4, none⟩ = some (.int .i64 K) ∧ wr.cell? ⟨b, off + i * 4 + 1, none⟩ = some (.int .i64 C) ∧ wr.cell? ⟨b, off + i * 4 + 2, none⟩ = some (.int .i64 D) ∧ wr.cell? ⟨b, off + i * 4 + 3, none⟩ = some (.bool f) ∧ (Lit.int .i64 D).wf = true) := Lib.hid fun wr hb i hi => by
    obtain ⟨b, off, e, _, d0, d1, d2, d3, hw⟩ := hc i hi
    have t : ∀ {j : Nat} {v : Value}, w.cell? ⟨b, off + (i * 4 + j), none⟩ = some v → wr.cell? ⟨b, off + i * 4 + j, none⟩ = some v := fun {j v} h => by have := cell_then hb h; rwa [← Nat.add_assoc] at this
    exact ⟨b, off, _, _, _, _, e, cell_then hb d0, t d1, t d2, t d3, hw⟩
  clear hc hl
  have cn := Ce.c_new w
  have h0 := Zc.built0
  have hnew : Hid (∀ p w1, Ce.Cc (fun k => w.heap.size ≤ k) w w1 p 0 (fun _ => []) → Hid (Zc.Zz w (w1.alloc (.cells Zc.cen0 60)) p w1.heap.size 0)) := Lib.hid fun p w1 h => Lib.hid (Zc.new_both h)
  generalize Zc.cen0 = R0 at *
  go_enter Try.func7, Try.ntmps7
  go_wp2_with fail
  with_reducible refine Calls.mono (cn) ?_
  rintro e w1 ⟨p, rfl, _, h1⟩
  have hW := hnew.out p w1 h1
  clear cn hnew h1
  obtain ⟨x, hx⟩ : ∃ x, w1.heap.size = x := ⟨_, rfl⟩
  rw [hx] at hW
  replace hx := Lib.hid hx
  go_wp2_with (refine wpList_built rfl 60 #[] rfl R0 (by simpa using h0) ?_)
  rw [hx.out]
  generalize w1.alloc (.cells R0 60) = w2 at *
  clear h0 hx
  go_loopw [5] (fun vi wr => ∃ i : Nat, vi = .int .i64 i ∧ i ≤ l ∧ i ≤ 60 ∧ Hid (Zc.Zz w wr p x i)) (fun vi _ => (60 - (RowKit.intOf vi).toNat))
  case atStart => exact ⟨0, rfl, by omega, by omega, hW⟩
  case round =>
    clear hW
    obtain ⟨i, rfl, il, i60, hR⟩ := hrel
    by_cases hk : i < l ∧ i < 60
    · obtain ⟨hk1, hk2⟩ := hk
      have i2 : (i : Int) < (l : Int) := by omega
      have i3 : (i : Int) < 60 := by omega
      have i0 : (0 : Int) ≤ (i : Int) := by omega
      obtain ⟨b, off, K, C, D, f, rfl, d0, d1, d2, d3, hD⟩ := hcells.out wr hR.out.bel i hk1
      obtain ⟨z, hz⟩ : ∃ z, wr.heap.size = z := ⟨_, rfl⟩
      have hx : Hid ((wr.alloc (.cells #[.int .i64 K, .int .i64 C, .int .i64 D, .bool f] 49)).heap[z]? = some (.cells #[.int .i64 K, .int .i64 C, .int .i64 D, .bool f] 49 (0, 0))) := Lib.hid (by rw [← hz]; exact heap_alloc_new _ _)
      have hR2 : Hid (Zc.Bz w (wr.alloc (.cells #[.int .i64 K, .int .i64 C, .int .i64 D, .bool f] 49)) p x z (.cells #[.int .i64 K, .int .i64 C, .int .i64 D, .bool f] 49 (0, 0)) i) := Lib.hid (Zc.bz_of2 hR.out hz hx.out)
      clear hR
      obtain ⟨yk, hy⟩ : ∃ yk, K.tmod 8 = yk := ⟨_, rfl⟩
      have hy2 := trem K
      have y1 : -8 < yk := by omega
      have y2 : yk < 8 := by omega
      clear hy2
      obtain ⟨t, ht⟩ : ∃ t, (yk + 8) % 8 = t := ⟨_, rfl⟩
      have d9 := cell_of hx.out (j := 0) rfl
      go_upto_block 2 with fail
      generalize wr.alloc (.cells #[.int .i64 K, .int .i64 C, .int .i64 D, .bool f] 49) = w3 at *
      go_cut [7, 8, 9, 10, 11, 12, 13, 14, 15, 16, 17, 18, 19, 20, 21, 22, 23] from 29 to 173 (fun vo s8 s9 s10 s11 s12 s13 s14 s15 s16 s17 s18 s19 s20 s21 s22 s23 wx => vo = .bool true ∧ Hid (Zc.Zz w wx p x (i + 1)))
      case first =>
        have c1 := cell_of hx.out (j := 1) rfl
        have c2 := cell_of hx.out (j := 2) rfl
        have c3 := cell_of hx.out (j := 3) rfl
        have hi60 : Hid (i ≤ 60) := Lib.hid i60
        clear hcells d0 d1 d2 d3 d9 hx
        rcases (show t = 0 ∨ t = 1 ∨ t = 2 ∨ t = 3 ∨ t = 4 ∨ t = 5 ∨ t = 6 ∨ t = 7 by omega) with rfl | rfl | rfl | rfl | rfl | rfl | rfl | rfl
        · skip
          have cz := Zc.z_put hR2.out hi60.out C hD f
          clear hR2
          go_wp2_with fail
          with_reducible refine Calls.mono (cz) ?_
          rintro e w4 ⟨rfl, hz1, h4⟩
          have x1 := cell_of hz1 (j := 1) rfl
          have x2 := cell_of hz1 (j := 2) rfl
          have x3 := cell_of hz1 (j := 3) rfl
          have c4 := h4.out w4 (Below.refl _ _)
          clear cz h4 hz1 c1 c2 c3
          go_wp2_with fail
          with_reducible refine Calls.mono (c4) ?_
          rintro e w5 ⟨rfl, _, h5⟩
          clear c4 x1 x2 x3
          go_wp2_with fail
          go_meet
          exact ⟨rfl, h5⟩
        · skip
          have cz := Zc.z_put hR2.out hi60.out C hD f
          clear hR2
          go_wp2_with fail
          with_reducible refine Calls.mono (cz) ?_
          rintro e w4 ⟨rfl, hz1, h4⟩
          have x1 := cell_of hz1 (j := 1) rfl
          have x2 := cell_of hz1 (j := 2) rfl
          have x3 := cell_of hz1 (j := 3) rfl
          have c4 := h4.out w4 (Below.refl _ _)
          clear cz h4 hz1 c1 c2 c3
          go_wp2_with fail
          with_reducible refine Calls.mono (c4) ?_
          rintro e w5 ⟨rfl, _, h5⟩
          clear c4 x1 x2 x3
          go_wp2_with fail
          go_meet
          exact ⟨rfl, h5⟩
        · skip
          have cz := Zc.z_put hR2.out hi60.out C hD f
          clear hR2
          go_wp2_with fail
          with_reducible refine Calls.mono (cz) ?_
          rintro e w4 ⟨rfl, hz1, h4⟩
          have x1 := cell_of hz1 (j := 1) rfl
          have x2 := cell_of hz1 (j := 2) rfl
          have x3 := cell_of hz1 (j := 3) rfl
          have c4 := h4.out w4 (Below.refl _ _)
          clear cz h4 hz1 c1 c2 c3
          go_wp2_with fail
          with_reducible refine Calls.mono (c4) ?_
          rintro e w5 ⟨rfl, _, h5⟩
          clear c4 x1 x2 x3
          go_wp2_with fail
          go_meet
          exact ⟨rfl, h5⟩
        · skip
          obtain ⟨y, b1, b2, cz⟩ := Zc.z_take hR2.out hi60.out C
          have hb1 : (b1 == b1) = true := by cases b1 <;> rfl
          have hb2 : (b2 == b2) = true := by cases b2 <;> rfl
          clear hR2
          go_wp2_with fail
          with_reducible refine Calls.mono (cz) ?_
          rintro e w4 ⟨rfl, hz1, h4⟩
          have x1 := cell_of hz1 (j := 1) rfl
          have x2 := cell_of hz1 (j := 2) rfl
          have x3 := cell_of hz1 (j := 3) rfl
          have c4 := h4.out w4 (Below.refl _ _)
          clear cz h4 hz1 c1 c2 c3
          go_wp2_with fail
          with_reducible refine Calls.mono (c4) ?_
          rintro e w5 ⟨rfl, _, h5⟩
          clear c4 x1 x2 x3
          go_wp2_with fail
          go_meet
          exact ⟨rfl, h5⟩
        · skip
          obtain ⟨y, b1, cz⟩ := Zc.z_takef hR2.out hi60.out C
          have hb1 : (b1 == b1) = true := by cases b1 <;> rfl
          clear hR2
          go_wp2_with fail
          with_reducible refine Calls.mono (cz) ?_
          rintro e w4 ⟨rfl, hz1, h4⟩
          have x1 := cell_of hz1 (j := 1) rfl
          have x2 := cell_of hz1 (j := 2) rfl
          have x3 := cell_of hz1 (j := 3) rfl
          have c4 := h4.out w4 (Below.refl _ _)
          clear cz h4 hz1 c1 c2 c3
          go_wp2_with fail
          with_reducible refine Calls.mono (c4) ?_
          rintro e w5 ⟨rfl, _, h5⟩
          clear c4 x1 x2 x3
          go_wp2_with fail
          go_meet
          exact ⟨rfl, h5⟩
        · skip
          have cz := Zc.z_begin hR2.out hi60.out
          clear hR2
          go_wp2_with fail
          with_reducible refine Calls.mono (cz) ?_
          rintro e w4 ⟨rfl, hz1, h4⟩
          have x1 := cell_of hz1 (j := 1) rfl
          have x2 := cell_of hz1 (j := 2) rfl
          have x3 := cell_of hz1 (j := 3) rfl
          have c4 := h4.out w4 (Below.refl _ _)
          clear cz h4 hz1 c1 c2 c3
          go_wp2_with fail
          with_reducible refine Calls.mono (c4) ?_
          rintro e w5 ⟨rfl, _, h5⟩
          clear c4 x1 x2 x3
          go_wp2_with fail
          go_meet
          exact ⟨rfl, h5⟩
        · skip
          obtain ⟨ck, y, b1, cz⟩ := Zc.z_any hR2.out hi60.out
          have hb1 : (b1 == b1) = true := by cases b1 <;> rfl
          clear hR2
          go_wp2_with fail
          with_reducible refine Calls.mono (cz) ?_
          rintro e w4 ⟨rfl, hz1, h4⟩
          have x1 := cell_of hz1 (j := 1) rfl
          have x2 := cell_of hz1 (j := 2) rfl
          have x3 := cell_of hz1 (j := 3) rfl
          have c4 := h4.out w4 (Below.refl _ _)
          clear cz h4 hz1 c1 c2 c3
          go_wp2_with fail
          with_reducible refine Calls.mono (c4) ?_
          rintro e w5 ⟨rfl, _, h5⟩
          clear c4 x1 x2 x3
          go_wp2_with fail
          go_meet
          exact ⟨rfl, h5⟩
        · skip
          obtain ⟨b1, cz⟩ := Zc.z_del hR2.out hi60.out hD
          have hb1 : (b1 == b1) = true := by cases b1 <;> rfl
          replace cz := Lib.hid cz
          have hbd : Below w3.heap.size w3 w3.drew := (Below.refl _ _).drew
          clear hR2
          go_wp2_with fail
          go_region_held3 (fun W' => W'.cell? ⟨z, 2, none⟩ = some (.int .i64 D)) (first | exact c2 | go_keep | assumption | exact cell_of hz1 rfl | exact cell_of hz2 rfl) (first | (go_at_call 33; ((with_reducible refine (h4.out _ (by repeat (first | assumption | exact Below.refl _ _ | refine below_drewN ?_ _ | refine below_alloc ?_ _ | refine below_then ?_ (by assumption)))).mono ?_); rintro e w5 ⟨rfl, hz2, h5⟩)) | (go_at_call 22; ((with_reducible refine (cz.out _ (by repeat (first | assumption | exact Below.refl _ _ | refine below_drewN ?_ _ | refine below_alloc ?_ _ | refine below_then ?_ (by assumption)))).mono ?_); rintro e w4 ⟨rfl, hz1, h4⟩)))
          all_goals
            go_wp2_with fail
            go_meet
            exact ⟨rfl, h5⟩
      case rest =>
        clear hR2 hx hcells d0 d1 d2 d3 d9
        obtain ⟨rfl, hZ⟩ := hcut
        obtain ⟨u, u1, cu, cx⟩ := Zc.z_uns hZ.out (by omega)
        have hne : ((u : Int) != (u : Int)) = false := by simp
        have hb5 : Hid (∀ c, Zc.Zz w (wc.drewN c) p x (i + 1)) := Lib.hid fun c => hZ.out.below (below_drewN (Below.refl _ _) c)
        clear hZ
        go_wp2_with fail
        with_reducible refine Calls.mono (cu) ?_
        rintro e w4 ⟨rfl, e4⟩
        subst e4
        clear cu
        go_wp2_with fail
        with_reducible refine Calls.mono (cx) ?_
        rintro e w5 ⟨rfl, c5, rfl⟩
        clear cx
        have hb6 := Lib.hid (hb5.out c5)
        go_wp2_with fail
        go_roundw
        case rel => exact ⟨i + 1, by go_num, by omega, by omega, hb6⟩
        case measure => simp [RowKit.intOf]; omega
    · have ct := Ce.told_any wr
      have hbel : Below w.heap.size w wr := hR.out.bel
      replace hbel := Lib.hid hbel
      clear hcells hR
      by_cases hkl : i < l
      all_goals
        first
          | (have i2 : (i : Int) < (l : Int) := by omega
             have i3 : ¬ (i : Int) < 60 := by omega)
          | (have i2 : ¬ (i : Int) < (l : Int) := by omega)
        go_wp2_with fail
        with_reducible refine Calls.mono (ct) ?_
        rintro e w3 ⟨rfl, hb3⟩
        go_wp2_with fail
        go_ret
        exact ⟨rfl, hbel.out.trans (hb3.mono hbel.out.size)⟩

set_option maxRecDepth 100000 in
theorem lifted (os : Os) (started : os.Started) (H : Type) (enc : TypeId × Value → H) :
    ReturnsInHanded {} Try.checked os 7 .any (Rows.centralPlaysSpec.pre6 enc Try.prog Try.f7 Rows.centralPlaysRow.domain false) (Rows.centralPlaysSpec.post enc Try.prog Try.f7 false true false false) := by
  refine returnsInHanded_of_change (C := Try.checked) own started (by kernel_rfl) Try.func7
    (ChangeSpec.witness6 (enc := enc) (C := Try.checked) false ⟨#[], #[.slice none 0 0], []⟩ 8 (by kernel_rfl) (by kernel_rfl) (by kernel_rfl) (by kernel_rfl)) ?_
  intro W base args ds gs before hval0 hW hcnd _
  have hval : ∀ (j : Nat) t v, Try.f7.params[j]? = some t → args[j]? = some v → Value.okWide Try.prog W .any base t v := hval0
  have hW' := hW
  obtain ⟨p, q, hA0, hV, rfl, hfz, hnd⟩ := hW
  have hA : DataW.TrodAll enc Try.prog W 0 (fun _ => true) true Try.f7.params.toList args.toList ds p := hA0
  rw [Try.params7] at hA hval
  obtain ⟨v0, vs0, d0, ds0, p0, q0, hargs, rfl, rfl, h0, r0⟩ := trodAll_cons hA
  obtain ⟨rfl, rfl, rfl⟩ := trodAll_nil r0
  obtain rfl : args = #[v0] := by cases args; simp_all
  obtain ⟨rfl, rfl⟩ := trodVars_none hV
  obtain ⟨zb0, i0⟩ := op8w_arg (hval 0 47 v0 rfl rfl) h0
  clear hA0 hval0
  simp only [List.append_nil] at hW'
  have lt0 : ∀ x ∈ p0, x.block < W.heap.size := fun x hx => by have := hW'.lt x (by simp [hx]); simpa using this
  refine (walk v0 zb0 W i0).mono fun e W' ⟨he, hg⟩ => ?_
  subst he
  exact ⟨_, rfl, post_of_kept (pa := _) (pv := []) hW' (fun _ _ _ => (trodAll_cons_mk (shut_bool Try.underlying4 _) trodAll_mk0)) (trodAll_cons_mk (Below.trod laidOut (by kernel_rfl) (of_decide_eq_true (by kernel_rfl)) h0 hg lt0) trodAll_mk0) (fun _ _ => rfl) (by simp) hg⟩

theorem over : Rows.centralPlaysRow.holds Try.pinned (OpenSpec.ofChange Rows.centralPlaysSpec) :=
  OpenClaim.holds_of_wide 7 Try.f7 rfl rfl rfl rfl rfl rfl rfl ⟨rfl, rfl, rfl, rfl, rfl⟩ rfl rfl rfl rfl rfl (by kernel_rfl) Try.func7 (by kernel_rfl)
    (of_decide_eq_true (by kernel_rfl)) (by unfold Func.isWrapper; first | (rw [if_pos (by decide +kernel)]; kernel_rfl) | (rw [if_neg (by decide +kernel)]; exact ⟨rfl, rfl⟩))
    (fun os started H enc _ => lifted os started H enc)

theorem proved : Rows.CentralPlaysSaid :=
  over
#print axioms proved
end Go.Proofs.Ytejijddhmckgiaa.centralPlays
