/- PageMerges: single pages that come back in any order are one run again; on the way there are as many runs as begin. -/
import Derived.Test.YtbheabjemaaeoabHome
import Derived.Test.YtbheabjemaaeoabPageMgM
import Derived.WalkKit
import Derived.ProofKit
import Derived.OpenShut
import Derived.Deep.RegionHeld3
import Derived.Deep.RegionWith
import Derived.Deep.Cut
import Derived.Deep.CutBlock
import Derived.Deep.CutRange
import Derived.Deep.LoopGhost
import Derived.Deep.DeepCutAuto
import Derived.RegionTactic
import Derived.StillTailTactics
namespace Go.Proofs.Ytbheabjemaaeoab.pageMerges
open Go.ChangeShapes Go.WideShapes Go.ChangeAt Go.WideElems Go.RowKit Go.Lib Fx Ho Pg
set_option linter.unusedVariables false

theorem own : ownKnob Try.prog.godebug = none := by kernel_rfl

set_option maxRecDepth 100000 in
set_option maxHeartbeats 4000000 in
theorem walk (a0 : Int) (a1 : Int) (w : World) (w0 : (Lit.int .i64 a0).wf = true) (w1 : (Lit.int .i64 a1).wf = true) :
    Calls Try.prog 3 #[.int .i64 a0, .int .i64 a1] w fun e w' => e = .returned (.bool true) ∧ Below w.heap.size w w' := by
  have ct := fun w => told_any w
  obtain ⟨X, hX⟩ : ∃ X : Int, IntKind.u64.wrap a0 = X := ⟨_, rfl⟩
  have X0 : 0 ≤ X := by rw [← hX, IntKind.wrap_u64]; omega
  obtain ⟨n, hn⟩ : ∃ n : Nat, 2 + X % 60 = (n : Int) := ⟨(2 + X % 60).toNat, by omega⟩
  have n1 : 2 ≤ n := by omega
  have n61 : n ≤ 61 := by omega
  have cn := new_any n w
  rw [show many n = n by unfold many; omega] at cn
  go_enter Try.func3, Try.ntmps3
  go_wp2_with fail
  with_reducible refine Calls.mono cn ?_
  rintro e w1 ⟨P, rfl, hps⟩
  have hst : Hid (∃ F H, Ps w w1 P n (4 + 4 * 1) F H ∧ Up n 1 F) := by
    obtain ⟨H1, hps⟩ := hps.out
    exact Lib.hid ⟨_, H1, hps.mono (by omega), up_new (by omega)⟩
  clear cn hps
  go_wp2_with fail
  go_loopw [7, 8, 9] (fun u7 u8 u9 wr => ∃ i : Nat, u7 = .int .i64 i ∧ 1 ≤ i ∧ i ≤ n ∧ Hid (∃ F H, Ps w wr P n (4 + 4 * i) F H ∧ Up n i F)) (fun y _ _ _ => (n - (RowKit.intOf y).toNat))
  case atStart => exact ⟨1, rfl, by omega, by omega, hst⟩
  case round =>
    clear hst
    obtain ⟨i, rfl, i1, j1, hpl⟩ := hrel
    by_cases hi : i < n
    · have i2 : (i : Int) < (n : Int) := by omega
      have ii0 : (0 : Int) ≤ (i : Int) := by omega
      obtain ⟨F, H, hp, hu⟩ := hpl.out
      have hl := hp.len
      have ca := alloc_yes hp (by omega) (q := 1) (by omega) (up_best hu i1 hi)
      have hgo : Hid (∀ e w', Step (.tuple #[.int .i64 i, .int .i64 0]) w w' P n (4 + 4 * i + 4) (setR F i false 1) H e w' → True) := Lib.hid fun _ _ _ => trivial
      clear hgo
      have ca2 : Calls Try.prog 7 #[.pointer (some ⟨P, 0, none⟩), .int .i64 1] wr fun e w' => e = .returned (.tuple #[.int .i64 i, .int .i64 0]) ∧ Hid (∃ F H, Ps w w' P n (4 + 4 * (i + 1)) F H ∧ Up n (i + 1) F) := ca.mono fun e w' hh => by
        obtain ⟨h1, H', h2⟩ := step_ps hh
        exact ⟨h1, Lib.hid ⟨_, H', h2.mono (by omega), up_next hu hl hi⟩⟩
      clear hpl hp hu ca hl
      go_wp2_with fail
      with_reducible refine Calls.mono ca2 ?_
      rintro e w3 ⟨rfl, hpl⟩
      clear ca2
      go_wp2_with fail
      go_roundw
      case rel => exact ⟨i + 1, by go_num, by omega, by omega, hpl⟩
      case measure => simp [RowKit.intOf]; omega
    · obtain rfl : i = n := by omega
      have i2 : ¬ ((i : Int) < (i : Int)) := by omega
      obtain ⟨Y, hY⟩ : ∃ Y : Int, IntKind.u64.wrap a1 = Y := ⟨_, rfl⟩
      have Y0 : 0 ≤ Y := by rw [← hY, IntKind.wrap_u64]; omega
      have z1 : IntKind.i64.wrap ((i : Int) - 1) = (i : Int) - 1 := by rw [IntKind.wrap_i64]; omega
      obtain ⟨d0, hd0⟩ : ∃ d0 : Nat, 1 + Y % ((i : Int) - 1) = (d0 : Int) := ⟨(1 + Y % ((i : Int) - 1)).toNat, by have := Int.emod_nonneg Y (show ((i : Int) - 1) ≠ 0 by omega); omega⟩
      have d1 : 1 ≤ d0 ∧ d0 ≤ i - 1 := by
        have h1 := Int.emod_nonneg Y (show ((i : Int) - 1) ≠ 0 by omega)
        have h2 := Int.emod_lt_of_pos Y (show 0 < ((i : Int) - 1) by omega)
        omega
      have u1 : ¬ ((i : Int) - 1 = 0) := by omega
      have u2 : (0 : Int) ≤ (i : Int) - 1 := by omega
      clear hi j1 ct
      go_wp2_with fail
      go_loopw [10] (fun u10 wx => ∃ D : Nat, u10 = .int .i64 D ∧ 1 ≤ D ∧ D ≤ i ∧ Hid (∃ F H, Ps w wx P i (4 + 4 * i) F H ∧ Up i i F)) (fun y _ => (i + 1 - (RowKit.intOf y).toNat))
      case atStart => exact ⟨d0, rfl, by omega, by omega, hpl⟩
      case round =>
        clear hpl hd0 d1
        obtain ⟨D, rfl, D1, D2, hpl⟩ := hrel
        have cg := gcd_any D (i - 1) (by omega) (by omega) wr
        rw [show ((i - 1 : Nat) : Int) = (i : Int) - 1 by omega] at cg
        have hne : D = i → Nat.gcd D (i - 1) = 1 := fun e => by rw [e]; exact gcd_own n1
        obtain ⟨g, hg⟩ : ∃ g, Nat.gcd D (i - 1) = g := ⟨_, rfl⟩
        rw [hg] at cg hne
        replace hg := Lib.hid hg
        go_wp2_with fail
        with_reducible refine Calls.mono cg ?_
        rintro e w3 ⟨rfl, hb3⟩
        clear cg
        have hpl3 : Hid (∃ F H, Ps w w3 P i (4 + 4 * i) F H ∧ Up i i F) := by
          obtain ⟨F, H, hp, hu⟩ := hpl.out
          exact Lib.hid ⟨F, H, hp.below hb3, hu⟩
        clear hpl hb3
        by_cases h1 : g = 1
        · have g1 : (g : Int) = 1 := by omega
          have g2 : ((g : Int) == 1) = true := by rw [g1]; rfl
          have hgc : Hid (Nat.gcd D (i - 1) = 1) := Lib.hid (hg.out.trans h1)
          replace h1 := Lib.hid h1
          clear hne hg
          obtain ⟨ti, hi, hz0, hz1, hz2⟩ := info_parts infoBool
          obtain ⟨m, hm⟩ : ∃ m : Nat, (i : Int) + 1 = (m : Int) := ⟨i + 1, by omega⟩
          have hm2 : Hid (m = i + 1) := Lib.hid (by omega)
          have hm3 : m ≤ 100 := by omega
          have key : Hid (∀ w1, w1.ownsRow w3.heap.size 4 1 (.slice (some ⟨w3.heap.size, 0, none⟩) m m) m (madeCells (Value.bool false).cells (m * 1)).toList → w3.grownBy w1 none → ∃ F, Mg w w1 P w3.heap.size i (4 + 4 * i) D 0 F) := Lib.hid fun w1 ho hg => by
            obtain ⟨F, H, hp, hu⟩ := hpl3.out
            have := hm2.out
            subst this
            exact ⟨F, mg_start hp hu (cap := 0) ho hg⟩
          clear hpl3
          obtain ⟨B, hB⟩ : ∃ B, w3.heap.size = B := ⟨_, rfl⟩
          go_wp2_with (refine wpList_make_full _ rfl _ _ 28 rfl w3.heap.size 4 ti (.bool false) 1 Try.underlying28 hi hz0 hz1 .i64 .i64 _ _ m rfl rfl rfl rfl (by rw [hz2]; omega) (by unfold maxLen; omega) (Nat.le_refl _) ?_; intro w4 hown1 hgrow1; have k1 := Lib.hid (key.out w4 hown1 hgrow1); clear hown1 hgrow1 key)
          clear hm
          have k1 : Hid (∃ F, Mg w w4 P B i (4 + 4 * i + 4 * 0) D 0 F) := Lib.hid (by have := k1.out; rw [hB] at this; exact this)
          clear hB
          go_loopw [12, 13, 14, 15] (fun u12 u13 u14 u15 wx => ∃ q a : Nat, u12 = .int .i64 a ∧ u13 = .int .i64 q ∧ q ≤ i - 1 ∧ Hid (q * D % (i - 1) = a) ∧ Hid (∃ F, Mg w wx P B i (4 + 4 * i + 4 * q) D q F)) (fun _ y _ _ _ => (i - (RowKit.intOf y).toNat))
          case atStart => exact ⟨0, 0, rfl, rfl, by omega, Lib.hid (by simp), k1⟩
          case round =>
            clear k1
            obtain ⟨q, a, rfl, rfl, hq, ha, hM⟩ := hrel
            obtain ⟨F, hM⟩ := hM.out
            have qq0 : (0 : Int) ≤ (q : Int) := by omega
            by_cases hqi : q < i - 1
            · have i3 : (q : Int) < (i : Int) - 1 := by omega
              have hai : a < i - 1 := by rw [← ha.out]; exact Nat.mod_lt _ (by omega)
              have cf := hM.free (by omega) hgc.out hqi ha.out
              have a0' : (0 : Int) ≤ (a : Int) + 1 := by omega
              have a1' : (a : Int) + 1 < (m : Int) := by have := hm2.out; omega
              have a2' : ((a : Int) + 1).toNat = a + 1 := by omega
              clear hM
              go_wp2_with fail
              with_reducible refine Calls.mono cf ?_
              rintro e w5 ⟨rfl, ⟨yv, hc⟩, hfz, hM⟩
              clear cf
              go_wp2_with fail
              obtain ⟨w6, hw6⟩ : ∃ w6, w5.setCell ⟨B, a + 1, none⟩ (.bool true) = w6 := ⟨_, rfl⟩
              simp only [hw6] at hM ⊢
              clear hw6 hc hfz
              obtain ⟨F', hM⟩ := hM.out
              replace hM := Lib.hid hM
              clear hgc
              go_loopw [14, 15] (fun u14 u15 wx => ∃ j : Nat, u15 = .int .i64 j ∧ 1 ≤ j ∧ j ≤ i ∧ u14 = .int .i64 (stn F' (j - 1)) ∧ Hid (Below w6.heap.size w6 wx)) (fun _ y _ => (i - (RowKit.intOf y).toNat))
              case atStart => exact ⟨1, rfl, by omega, by omega, rfl, Lib.hid (Below.refl _ _)⟩
              case round =>
                obtain ⟨j, rfl, j1, j2, rfl, hB⟩ := hrel
                have hMr := hM.out.below hB.out
                by_cases hj : j < i
                · have i4 : (j : Int) < (i : Int) := by omega
                  have i5 : (0 : Int) ≤ (j : Int) := by omega
                  have i6 : (j : Int) < (m : Int) := by have := hm2.out; omega
                  have i7 : (0 : Int) ≤ (j : Int) - 1 := by omega
                  have i8 : (j : Int) - 1 < (m : Int) := by omega
                  have i9 : ((j : Int) - 1).toNat = j - 1 := by omega
                  have z2 : IntKind.i64.wrap ((j : Int) - 1) = (j : Int) - 1 := by rw [IntKind.wrap_i64]; omega
                  obtain ⟨c0, _⟩ := hMr.at_ (p := j) (by omega)
                  obtain ⟨c1, _⟩ := hMr.at_ (p := j - 1) (by omega)
                  have hs := stn_at F' j1
                  have hb := stn_le F' (j - 1)
                  generalize stn F' (j - 1) = S at *
                  have hsj : Hid (stn F' (j + 1 - 1) = S + (if F'.getD j false && !F'.getD (j - 1) false then 1 else 0)) := Lib.hid hs
                  clear hs hMr
                  have hB2 : Hid (∀ V, Below wr.heap.size wr V → Below w6.heap.size w6 V) := Lib.hid fun V hV => hB.out.trans (hV.mono hB.out.size)
                  clear hB
                  generalize F'.getD j false = x at *
                  generalize F'.getD (j - 1) false = y at *
                  have hS : (S : Int) ≤ 100 := by omega
                  have hS0 : (0 : Int) ≤ (S : Int) := by omega
                  clear hb
                  cases x <;> cases y
                  all_goals
                    go_wp2_with fail
                    go_roundw
                    case rel =>
                      refine ⟨j + 1, by go_num, by omega, by omega, ?_, Lib.hid (hB2.out _ (by repeat (first | assumption | exact Below.refl _ _ | refine below_drewN ?_ _ | refine below_alloc ?_ _ | refine below_then ?_ (by assumption))))⟩
                      rw [hsj.out]
                      simp
                    case measure => simp [RowKit.intOf]; omega
                · obtain rfl : j = i := by omega
                  have i4 : ¬ ((j : Int) < (j : Int)) := by omega
                  have cr := hMr.runs (by omega)
                  have hb := stn_le F' (j - 1)
                  generalize stn F' (j - 1) = S at *
                  have hS : (S : Int) ≤ 100 := by omega
                  clear hM hMr hB hb
                  go_wp2_with fail
                  with_reducible refine Calls.mono cr ?_
                  rintro e w7 ⟨⟨b, cap, rfl⟩, hM, cl⟩
                  clear cr
                  have e0 : ((S : Int) == (S : Int)) = true := by simp
                  go_wp2_with fail
                  with_reducible refine Calls.mono cl ?_
                  rintro e w8 ⟨rfl, rfl⟩
                  clear cl
                  obtain ⟨a2, ha2⟩ : ∃ a2, (q + 1) * D % (j - 1) = a2 := ⟨_, rfl⟩
                  have ha3 : (a + D) % (j - 1) = a2 := by rw [← ha.out, mod_next]; exact ha2
                  have e1 : (((q : Int) + 1) == ((q : Int) + 1)) = true := by simp
                  have v1 : (a : Int) + (D : Int) = ((a + D : Nat) : Int) := by omega
                  have v2 : (j : Int) - 1 = ((j - 1 : Nat) : Int) := by omega
                  have z3 : ((a : Int) + (D : Int)).tmod ((j : Int) - 1) = (a2 : Int) := by rw [v1, v2, ← ha3]; exact (Int.ofNat_tmod _ _).symm
                  have z4 : ((a : Int) + (D : Int)) % ((j : Int) - 1) = (a2 : Int) := by rw [v1, v2, ← ha3]; exact (Int.natCast_emod _ _).symm
                  clear v1 v2 ha3 ha
                  replace ha2 := Lib.hid ha2
                  have hai' : (a : Int) ≤ 100 := by omega
                  have hdi' : (D : Int) ≤ 100 := by omega
                  go_wp2_with fail
                  go_roundw
                  case rel => exact ⟨q + 1, a2, rfl, by go_num, by omega, ha2, Lib.hid ⟨F', hM.out⟩⟩
                  case measure => simp [RowKit.intOf]; omega
            · obtain rfl : q = i - 1 := by omega
              have i3 : ¬ ((i - 1 : Nat) : Int) < (i : Int) - 1 := by omega
              have cr := hM.whole n1
              have hbw : Below w.heap.size w wr := hM.out
              clear hM hgc ha
              replace hq := Lib.hid hq
              go_wp2_with fail
              with_reducible refine Calls.mono cr ?_
              rintro e w7 ⟨b, cap, rfl, c0, c1, hcap, hB⟩
              clear cr
              have ct := told_any w7
              go_wp2_with fail
              with_reducible refine Calls.mono ct ?_
              rintro e w8 ⟨rfl, hb8⟩
              clear ct
              have d0 := cell_then hb8 c0
              have d1 := cell_then hb8 c1
              have e1 : (((i : Int) - 1) == ((i : Int) - 1)) = true := by simp
              clear c0 c1
              have hfin : Hid (Below w.heap.size w w8) := Lib.hid (hB.out.trans (hb8.mono hB.out.size))
              clear hB hb8
              go_wp2_with fail
              go_ret
              exact ⟨rfl, hfin.out⟩
        · have g1 : ¬ (g : Int) = 1 := by omega
          have g2 : ((g : Int) == 1) = false := by simp; omega
          have hDi : D < i := by
            rcases Nat.lt_or_ge D i with q | q
            · exact q
            · exact absurd (hne (by omega)) h1
          clear hne hg
          go_wp2_with fail
          go_roundw
          case rel => exact ⟨D + 1, by go_num, by omega, by omega, hpl3⟩
          case measure => simp [RowKit.intOf]; omega

set_option maxRecDepth 100000 in
theorem lifted (os : Os) (started : os.Started) (H : Type) (enc : TypeId × Value → H) :
    ReturnsInHanded {} Try.checked os 3 .any (Rows.pageMergesSpec.pre6 enc Try.prog Try.f3 Rows.pageMergesRow.domain false) (Rows.pageMergesSpec.post enc Try.prog Try.f3 false true false false) := by
  refine returnsInHanded_of_change (C := Try.checked) own started (by kernel_rfl) Try.func3
    (ChangeSpec.witness6 (enc := enc) (C := Try.checked) false ⟨#[], #[.int .i64 0, .int .i64 0], []⟩ 8 (by kernel_rfl) (by kernel_rfl) (by kernel_rfl) (by kernel_rfl)) ?_
  intro W base args ds gs before hval0 hW hcnd _
  have hval : ∀ (j : Nat) t v, Try.f3.params[j]? = some t → args[j]? = some v → Value.okWide Try.prog W .any base t v := hval0
  have hW' := hW
  obtain ⟨p, q, hA0, hV, rfl, hfz, hnd⟩ := hW
  have hA : DataW.TrodAll enc Try.prog W 0 (fun _ => true) true Try.f3.params.toList args.toList ds p := hA0
  rw [Try.params3] at hA hval
  obtain ⟨v0, vs0, d0, ds0, p0, q0, hargs, rfl, rfl, h0, r0⟩ := trodAll_cons hA
  obtain ⟨v1, vs1, d1, ds1, p1, q1, rfl, rfl, rfl, h1, r1⟩ := trodAll_cons r0
  obtain ⟨rfl, rfl, rfl⟩ := trodAll_nil r1
  obtain rfl : args = #[v0, v1] := by cases args; simp_all
  obtain ⟨rfl, rfl⟩ := trodVars_none hV
  obtain ⟨a0, rfl, rfl, rfl, w0⟩ := open_int Try.underlying3 (hval 0 3 v0 rfl rfl) h0
  obtain ⟨a1, rfl, rfl, rfl, w1⟩ := open_int Try.underlying3 (hval 1 3 v1 rfl rfl) h1
  clear hA0 hval0
  simp only [List.append_nil] at hW'
  refine (walk a0 a1 W w0 w1).mono fun e W' ⟨he, hg⟩ => ?_
  subst he
  exact ⟨_, rfl, post_of_kept (pa := _) (pv := []) hW' (fun _ _ _ => (trodAll_cons_mk (shut_bool Try.underlying4 _) trodAll_mk0)) (trodAll_cons_mk (shut_int Try.underlying3 w0) (trodAll_cons_mk (shut_int Try.underlying3 w1) trodAll_mk0)) (fun _ _ => rfl) (by simp) hg⟩

theorem over : Rows.pageMergesRow.holds Try.pinned (OpenSpec.ofChange Rows.pageMergesSpec) :=
  OpenClaim.holds_of_wide 3 Try.f3 rfl rfl rfl rfl rfl rfl rfl ⟨rfl, rfl, rfl, rfl, rfl⟩ rfl rfl rfl rfl rfl (by kernel_rfl) Try.func3 (by kernel_rfl)
    (of_decide_eq_true (by kernel_rfl)) (by unfold Func.isWrapper; first | (rw [if_pos (by decide +kernel)]; kernel_rfl) | (rw [if_neg (by decide +kernel)]; exact ⟨rfl, rfl⟩))
    (fun os started H enc _ => lifted os started H enc)

theorem proved : Rows.PageMergesSaid :=
  over
#print axioms proved
end Go.Proofs.Ytbheabjemaaeoab.pageMerges
