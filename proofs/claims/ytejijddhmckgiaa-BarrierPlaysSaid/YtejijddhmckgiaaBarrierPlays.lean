/- What is noted goes as the document says: any pairs, any flushes; no conditions. -/
import Derived.Test.YtejijddhmckgiaaHome
import Derived.Test.YtejijddhmckgiaaBarMore
import Derived.Test.YtejijddhmckgiaaPairArg
import Derived.Test.YtejijddhmckgiaaBarBoth
import Derived.Test.YtejijddhmckgiaaBools
import Derived.WalkKit
import Derived.ProofKit
import Derived.OpenShut
import Derived.Deep.RegionHeld3
import Derived.Deep.RegionWith
import Derived.Deep.Cut
import Derived.Deep.CutBlock
import Derived.Deep.CutRange
import Derived.Deep.LoopGhost
import Derived.Deep.DeepCutAuto
import Derived.RegionTactic
import Derived.StillTailTactics
namespace Go.Proofs.Ytejijddhmckgiaa.barrierPlays
open Go.ChangeShapes Go.WideShapes Go.ChangeAt Go.WideElems Go.RowKit Go.Lib Fx Ho Ba Qu Rw Rw Bq
set_option linter.unusedVariables false

theorem own : ownKnob Try.prog.godebug = none := by kernel_rfl

set_option maxRecDepth 100000 in
set_option maxHeartbeats 4000000 in
theorem walk (v0 : Value) (zb0 : List (Int × Int)) (v1 : Value) (zb1 : List Bool) (w : World) (h0 : PairsArg w v0 zb0) (h1 : BoolsArg w v1 zb1) :
    Calls Try.prog 3 #[v0, v1] w fun e w' => e = .returned (.bool true) ∧ Below w.heap.size w w' := by
  obtain ⟨sp, cap, rfl, hm, hc⟩ := h0
  obtain ⟨l, hl⟩ : ∃ l, zb0.length = l := ⟨_, rfl⟩
  rw [hl] at hm hc ⊢
  have hcells : Hid (∀ i, i < l → ∃ b off, sp = some ⟨b, off, none⟩ ∧ ∀ W, Below w.heap.size w W → W.cell? ⟨b, off + i * 2, none⟩ = some (.int .i64 (zb0.getD i (0, 0)).1) ∧ W.cell? ⟨b, off + i * 2 + 1, none⟩ = some (.int .i64 (zb0.getD i (0, 0)).2)) := Lib.hid fun i hi => by
    obtain ⟨b, off, e, _, d0, d1⟩ := hc i hi
    refine ⟨b, off, e, fun W hW => ⟨cell_then hW d0, ?_⟩⟩
    rw [Nat.add_assoc]; exact cell_then hW d1
  obtain ⟨sf, capf, rfl, hmf, hcf⟩ := h1
  obtain ⟨nf, hnf⟩ : ∃ n, zb1.length = n := ⟨_, rfl⟩
  rw [hnf] at hmf hcf ⊢
  have hfl : Hid (∀ wr, Below w.heap.size w wr → ∀ i, i < nf → ∃ b off, sf = some ⟨b, off, none⟩ ∧ wr.cell? ⟨b, off + i, none⟩ = some (.bool (zb1.getD i false))) := Lib.hid fun wr hb i hi => by
    obtain ⟨b, off, e, _, d0⟩ := hcf i hi
    exact ⟨b, off, e, cell_then hb d0⟩
  clear hc hl hcf hnf
  have cn := Ba.new_any w
  have h0 := Bq.built0
  have hnew : Hid (∀ w1, Below w.heap.size w w1 → Ba.IsBar w1 w.heap.size [] → ∃ N, Hid (Bq.Bk N w (w1.alloc (.cells Bq.bar0 28)) w.heap.size w1.heap.size [] [])) := Lib.hid fun w1 h1 h2 => ⟨_, Lib.hid (Bq.new_both h1 h2)⟩
  generalize Bq.bar0 = R0 at *
  go_enter Try.func3, Try.ntmps3
  go_wp2_with fail
  with_reducible refine Calls.mono (cn) ?_
  rintro e w1 ⟨rfl, hb1, hq1⟩
  obtain ⟨N, hW⟩ := hnew.out w1 hb1 hq1
  clear cn hb1 hq1 hnew
  obtain ⟨p, hp⟩ : ∃ p, w.heap.size = p := ⟨_, rfl⟩
  obtain ⟨x, hx⟩ : ∃ x, w1.heap.size = x := ⟨_, rfl⟩
  rw [hp, hx] at hW
  rw [hp]
  replace hp := Lib.hid hp
  replace hx := Lib.hid hx
  go_wp2_with (refine wpList_built rfl 28 #[] rfl R0 (by simpa using h0) ?_)
  rw [hx.out]
  generalize w1.alloc (.cells R0 28) = w2 at *
  clear h0 hx
  go_loopw [7] (fun vi wr => ∃ (k : Nat) (L : Ba.Pairs), vi = .int .i64 k ∧ k ≤ l ∧ k ≤ 60 ∧ Hid (Bq.Bk N w wr p x L L)) (fun vi _ => (60 - (RowKit.intOf vi).toNat))
  case atStart => exact ⟨0, [], rfl, by omega, by omega, hW⟩
  case round =>
    clear hW
    obtain ⟨k, L, rfl, kl, k60, hR⟩ := hrel
    by_cases hk : k < l ∧ k < 60
    · obtain ⟨hk1, hk2⟩ := hk
      have i2 : (k : Int) < (l : Int) := by omega
      have i3 : (k : Int) < 60 := by omega
      have i0 : (0 : Int) ≤ (k : Int) := by omega
      obtain ⟨b, off, rfl, hcc⟩ := hcells.out k hk1
      obtain ⟨d0, d1⟩ := hcc wr hR.out.bel
      replace hcc := Lib.hid hcc
      generalize (zb0.getD k (0, 0)).1 = a at *
      generalize (zb0.getD k (0, 0)).2 = c at *
      obtain ⟨b0, hb0⟩ : ∃ b0, decide (L.length < 16) = b0 := ⟨_, rfl⟩
      have hbb : (b0 != b0) = false := by cases b0 <;> rfl
      have hfl2 : Hid (∀ W, Bq.Bk N w W p x (Bq.pPut L a c) (Bq.pPut L a c) → k < nf → ∃ b off, sf = some ⟨b, off, none⟩ ∧ W.cell? ⟨b, off + k, none⟩ = some (.bool (zb1.getD k false))) := Lib.hid fun W h hi => hfl.out W h.bel k hi
      have hP1 : Hid (∀ V, Below wr.heap.size wr V → Calls Try.prog 11 #[.pointer (some ⟨p, 0, none⟩), .int .i64 a, .int .i64 c] V fun e wz => e = .returned (.bool b0) ∧ (wz.cell? ⟨b, off + k * 2, none⟩ = some (.int .i64 a) ∧ wz.cell? ⟨b, off + k * 2 + 1, none⟩ = some (.int .i64 c)) ∧ Hid (∀ V', Below wz.heap.size wz V' → Calls Try.prog 12 #[.pointer (some ⟨x, 0, none⟩), .int .i64 a, .int .i64 c] V' fun e wy => e = .returned (.bool b0) ∧ (wy.cell? ⟨b, off + k * 2, none⟩ = some (.int .i64 a) ∧ wy.cell? ⟨b, off + k * 2 + 1, none⟩ = some (.int .i64 c)) ∧ Hid (Bq.Bk N w wy p x (Bq.pPut L a c) (Bq.pPut L a c)))) := Lib.hid fun V hb => (Bq.b_put (hR.out.below hb) a c).mono fun e wz ⟨he, hz⟩ => by
        refine ⟨by rw [he, hb0], hcc.out wz hz.bel, Lib.hid fun V' hb' => (Bq.x_put (hz.below hb') a c).mono fun e wy ⟨he2, hy⟩ => ⟨by rw [he2, hb0], hcc.out wy hy.bel, Lib.hid hy⟩⟩
      have hbd : Below wr.heap.size wr wr.drew := (Below.refl _ _).drew
      replace hk1 := Lib.hid hk1
      clear hcells hcc hb0 hR hfl
      go_wp2_with fail
      go_region_held3 (fun W' => W'.cell? ⟨b, off + k * 2, none⟩ = some (.int .i64 a) ∧ W'.cell? ⟨b, off + k * 2 + 1, none⟩ = some (.int .i64 c)) (first | exact ⟨d0, d1⟩ | go_keep | assumption | (go_split_ands; exact ⟨cell_then (by assumption) (by assumption), cell_then (by assumption) (by assumption)⟩)) (first | (go_at_call 12; ((with_reducible refine (hP2.out _ (by repeat (first | assumption | exact Below.refl _ _ | refine below_drewN ?_ _ | refine below_alloc ?_ _ | refine below_then ?_ (by assumption)))).mono ?_); rintro e wy ⟨rfl, hky, hR2⟩)) | (go_at_call 11; ((with_reducible refine (hP1.out _ (by repeat (first | assumption | exact Below.refl _ _ | refine below_drewN ?_ _ | refine below_alloc ?_ _ | refine below_then ?_ (by assumption)))).mono ?_); rintro e wz ⟨rfl, hkz, hP2⟩)))
      all_goals
        generalize Bq.pPut L a c = L2 at *
        have hfl3 := hfl2
        have cA := Bq.b_all hR2.out
        clear hP1 hP2 hkz hky hbd d0 d1 hbb
        go_wp2_with fail
        with_reducible refine Calls.mono (cA) ?_
        rintro e w5 ⟨v5, rfl, hP5, hR5⟩
        obtain ⟨sm, cm, rfl, hmc⟩ := hP5
        obtain ⟨vx, hX, hxc⟩ := Bq.x_row hR5
        obtain ⟨sx, cx, rfl, hxm⟩ := hX
        have k1 : Hid (∀ n, Calls Try.prog 14 #[.pointer (some ⟨p, 0, none⟩)] (w5.drewN n) (Ans (.int .i64 L2.length) (w5.drewN n))) := Lib.hid fun n => (Bq.b_len (hR5.below (below_drewN (Below.refl _ _) n))).mono fun _ _ ⟨he, hw⟩ => ⟨he, 0, hw.symm⟩
        have e1 := hxc w5 (Below.refl _ _)
        have hR6 : Hid (∀ W, Below w5.heap.size w5 W → Bq.Bk N w W p x L2 L2) := Lib.hid (fun W hb => hR5.below hb)
        have hs16 : L2.length ≤ 16 := hR5.ml
        replace hxc := Lib.hid hxc
        obtain ⟨n, hn⟩ : ∃ n, L2.length = n := ⟨_, rfl⟩
        rw [hn] at hmc hxc hxm k1 e1 hs16
        rw [hn]
        have hcell : Hid (∀ j, j < n → ∃ bm om bx ox, sm = some ⟨bm, om, none⟩ ∧ sx = some ⟨bx, ox, none⟩ ∧ ∀ W, Below w5.heap.size w5 W → W.cell? ⟨bm, om + j * 2, none⟩ = some (.int .i64 (L2.getD j (0, 0)).1) ∧ W.cell? ⟨bm, om + j * 2 + 1, none⟩ = some (.int .i64 (L2.getD j (0, 0)).2) ∧ W.cell? ⟨bx, ox + j * 2, none⟩ = some (.int .i64 (L2.getD j (0, 0)).1) ∧ W.cell? ⟨bx, ox + j * 2 + 1, none⟩ = some (.int .i64 (L2.getD j (0, 0)).2)) := Lib.hid fun j hj => by
          obtain ⟨bm, om, e1, h1⟩ := hmc j hj
          obtain ⟨bx, ox, e2, h2⟩ := hxm j hj
          exact ⟨bm, om, bx, ox, e1, e2, fun W hW => ⟨(h1 W hW).1, (h1 W hW).2, (h2 W hW).1, (h2 W hW).2⟩⟩
        clear cA hR5 hmc hxm hR2 hn hfl2
        go_wp2_with fail
        go_quiet ((go_at_call 14; exact quiet_ans1 (k1.out _)))
        go_wp2_with fail
        clear k1 e1
        go_loopw [9] (fun vj wx => ∃ j : Nat, vj = .int .i64 j ∧ j ≤ n ∧ Hid (Below w5.heap.size w5 wx)) (fun vj _ => (n - (RowKit.intOf vj).toNat))
        case atStart => exact ⟨0, rfl, by omega, Lib.hid (below_drewN (Below.refl _ _) _)⟩
        case round =>
          obtain ⟨j, rfl, j1, hB⟩ := hrel
          have ex := hxc.out wr hB.out
          by_cases hj : j < n
          · obtain ⟨bm, om, bx, ox, rfl, rfl, hcs⟩ := hcell.out j hj
            obtain ⟨q0, q1, q2, q3⟩ := hcs wr hB.out
            have j2 : (j : Int) < (n : Int) := by omega
            have j0 : (0 : Int) ≤ (j : Int) := by omega
            generalize (L2.getD j (0, 0)).1 = y1 at *
            generalize (L2.getD j (0, 0)).2 = y2 at *
            have hB2 : Hid (∀ c, Below w5.heap.size w5 (wr.drewN c)) := Lib.hid fun c => below_drewN hB.out c
            clear hcs hB
            go_wp2_with fail
            go_region
            all_goals
              go_wp2_with fail
              go_roundw
              case rel => exact ⟨j + 1, by go_num, by omega, Lib.hid (hB2.out 1)⟩
              case measure => simp [RowKit.intOf]; omega
          · obtain rfl : n = j := by omega
            have j2 : ¬ (n : Int) < (n : Int) := by omega
            have hR7 := hR6.out wr hB.out
            have hfl4 := hfl3.out
            have cF := Bq.b_flush hR7
            clear hcell hxc hR6 hB hfl3
            by_cases hkf : k < nf
            · have f2 : (k : Int) < (nf : Int) := by omega
              obtain ⟨bf, of, rfl, g0⟩ := hfl4 wr hR7 hkf
              cases hz : zb1.getD k false with
              | true =>
                rw [hz] at g0
                clear hR7 hfl4 ex
                go_wp2_with fail
                with_reducible refine Calls.mono (cF) ?_
                rintro e w6 ⟨v6, rfl, cF2⟩
                clear cF g0
                go_wp2_with fail
                with_reducible refine Calls.mono (cF2) ?_
                rintro e w7 ⟨v7, rfl, hR8, o6, o7⟩
                have ci := ints_any o6.ints o7.ints
                have hR9 : Hid (∀ c, Bq.Bk N w (w7.drewN c) p x [] []) := Lib.hid fun c => hR8.below (below_drewN (Below.refl _ _) c)
                clear cF2 o6 o7 hR8
                go_wp2_with fail
                with_reducible refine Calls.mono (ci) ?_
                rintro e w8 ⟨rfl, c8, rfl⟩
                clear ci
                go_wp2_with fail
                go_roundw
                case rel => exact ⟨k + 1, [], by go_num, by have := hk1.out; omega, by omega, Lib.hid (hR9.out c8)⟩
                case measure => simp [RowKit.intOf]; omega
              | false =>
                rw [hz] at g0
                replace hR7 := Lib.hid hR7
                clear hfl4 ex cF
                go_wp2_with fail
                go_roundw
                case rel => exact ⟨k + 1, _, by go_num, by have := hk1.out; omega, by omega, hR7⟩
                case measure => simp [RowKit.intOf]; omega
            · have f2 : ¬ (k : Int) < (nf : Int) := by omega
              replace hR7 := Lib.hid hR7
              clear hfl4 ex cF
              go_wp2_with fail
              go_roundw
              case rel => exact ⟨k + 1, _, by go_num, by have := hk1.out; omega, by omega, hR7⟩
              case measure => simp [RowKit.intOf]; omega
    · have ct := Ba.told_any wr
      have hR2 := Lib.hid hR.out
      clear hcells hfl hR
      by_cases hkl : k < l
      all_goals
        first
          | (have i2 : (k : Int) < (l : Int) := by omega
             have i3 : ¬ (k : Int) < 60 := by omega)
          | (have i2 : ¬ (k : Int) < (l : Int) := by omega)
        go_wp2_with fail
        with_reducible refine Calls.mono (ct) ?_
        rintro e w3 ⟨rfl, hb3⟩
        have cF := Bq.b_flush (hR2.out.below hb3)
        clear ct hR2 hb3
        go_wp2_with fail
        with_reducible refine Calls.mono (cF) ?_
        rintro e w6 ⟨v6, rfl, cF2⟩
        clear cF
        go_wp2_with fail
        with_reducible refine Calls.mono (cF2) ?_
        rintro e w7 ⟨v7, rfl, hR8, o6, o7⟩
        have ci := ints_any o6.ints o7.ints
        have hR9 : Hid (∀ c, Bq.Bk N w (w7.drewN c) p x [] []) := Lib.hid fun c => hR8.below (below_drewN (Below.refl _ _) c)
        clear cF2 o6 o7 hR8
        go_wp2_with fail
        with_reducible refine Calls.mono (ci) ?_
        rintro e w8 ⟨rfl, c8, rfl⟩
        clear ci
        go_wp2_with fail
        go_ret
        exact ⟨rfl, (hR9.out c8).bel⟩

set_option maxRecDepth 100000 in
theorem lifted (os : Os) (started : os.Started) (H : Type) (enc : TypeId × Value → H) :
    ReturnsInHanded {} Try.checked os 3 .any (Rows.barrierPlaysSpec.pre6 enc Try.prog Try.f3 Rows.barrierPlaysRow.domain false) (Rows.barrierPlaysSpec.post enc Try.prog Try.f3 false true false false) := by
  refine returnsInHanded_of_change (C := Try.checked) own started (by kernel_rfl) Try.func3
    (ChangeSpec.witness6 (enc := enc) (C := Try.checked) false ⟨#[], #[.slice none 0 0, .slice none 0 0], []⟩ 8 (by kernel_rfl) (by kernel_rfl) (by kernel_rfl) (by kernel_rfl)) ?_
  intro W base args ds gs before hval0 hW hcnd _
  have hval : ∀ (j : Nat) t v, Try.f3.params[j]? = some t → args[j]? = some v → Value.okWide Try.prog W .any base t v := hval0
  have hW' := hW
  obtain ⟨p, q, hA0, hV, rfl, hfz, hnd⟩ := hW
  have hA : DataW.TrodAll enc Try.prog W 0 (fun _ => true) true Try.f3.params.toList args.toList ds p := hA0
  rw [Try.params3] at hA hval
  obtain ⟨v0, vs0, d0, ds0, p0, q0, hargs, rfl, rfl, h0, r0⟩ := trodAll_cons hA
  obtain ⟨v1, vs1, d1, ds1, p1, q1, rfl, rfl, rfl, h1, r1⟩ := trodAll_cons r0
  obtain ⟨rfl, rfl, rfl⟩ := trodAll_nil r1
  obtain rfl : args = #[v0, v1] := by cases args; simp_all
  obtain ⟨rfl, rfl⟩ := trodVars_none hV
  obtain ⟨zb0, i0⟩ := pairs_arg (hval 0 22 v0 rfl rfl) h0
  obtain ⟨zb1, i1⟩ := bools_arg (hval 1 23 v1 rfl rfl) h1
  clear hA0 hval0
  simp only [List.append_nil] at hW'
  have lt0 : ∀ x ∈ p0, x.block < W.heap.size := fun x hx => by have := hW'.lt x (by simp [hx]); simpa using this
  have lt1 : ∀ x ∈ p1, x.block < W.heap.size := fun x hx => by have := hW'.lt x (by simp [hx]); simpa using this
  refine (walk v0 zb0 v1 zb1 W i0 i1).mono fun e W' ⟨he, hg⟩ => ?_
  subst he
  exact ⟨_, rfl, post_of_kept (pa := _) (pv := []) hW' (fun _ _ _ => (trodAll_cons_mk (shut_bool Try.underlying4 _) trodAll_mk0)) (trodAll_cons_mk (Below.trod laidOut (by kernel_rfl) (of_decide_eq_true (by kernel_rfl)) h0 hg lt0) (trodAll_cons_mk (Below.trod laidOut (by kernel_rfl) (of_decide_eq_true (by kernel_rfl)) h1 hg lt1) trodAll_mk0)) (fun _ _ => rfl) (by simp) hg⟩

theorem over : Rows.barrierPlaysRow.holds Try.pinned (OpenSpec.ofChange Rows.barrierPlaysSpec) :=
  OpenClaim.holds_of_wide 3 Try.f3 rfl rfl rfl rfl rfl rfl rfl ⟨rfl, rfl, rfl, rfl, rfl⟩ rfl rfl rfl rfl rfl (by kernel_rfl) Try.func3 (by kernel_rfl)
    (of_decide_eq_true (by kernel_rfl)) (by unfold Func.isWrapper; first | (rw [if_pos (by decide +kernel)]; kernel_rfl) | (rw [if_neg (by decide +kernel)]; exact ⟨rfl, rfl⟩))
    (fun os started H enc _ => lifted os started H enc)

theorem proved : Rows.BarrierPlaysSaid :=
  over
#print axioms proved
end Go.Proofs.Ytejijddhmckgiaa.barrierPlays
