/- For any two whole numbers and any list of whole numbers the statement PoolOnce answers true and leaves it as it was: what was put is got, once, by whoever. No condition. -/
import Derived.Test.YtclldajbibhcbaaHome
import Derived.Test.YtclldajbibhcbaaPoolOne
import Derived.WalkKit
import Derived.ProofKit
import Derived.OpenShut
import Derived.Deep.RegionHeld3
import Derived.Deep.RegionWith
import Derived.Deep.Cut
import Derived.Deep.CutBlock
import Derived.Deep.CutRange
import Derived.Deep.LoopGhost
import Derived.Deep.DeepCutAuto
import Derived.RegionTactic
import Derived.StillTailTactics
namespace Go.Proofs.Ytclldajbibhcbaa.poolOnce
open Go.ChangeShapes Go.WideShapes Go.ChangeAt Go.WideElems Go.RowKit Go.Lib Fx Ho Po Bu
set_option linter.unusedVariables false

theorem own : ownKnob Try.prog.godebug = none := by kernel_rfl

theorem infoB : (Try.prog.info? 4).map (fun i => (i.zero, i.size, i.bytes)) = some (some (.bool false), 1, 1) := by kernel_rfl
set_option maxRecDepth 100000 in
set_option maxHeartbeats 4000000 in
theorem walk (a0 : Int) (a1 : Int) (v2 : Value) (z2 : List Int) (w : World) (w0 : (Lit.int .i64 a0).wf = true) (w1 : (Lit.int .i64 a1).wf = true) (h2 : Ints w (fun k => k < w.heap.size) v2 z2) :
    Calls Try.prog 8 #[.int .i64 a0, .int .i64 a1, v2] w fun e w' => e = .returned (.bool true) ∧ Below w.heap.size w w' := by
  obtain ⟨V, hV⟩ : ∃ V : Int, IntKind.u64.wrap a1 = V := ⟨_, rfl⟩
  have V0 : 0 ≤ V := by rw [← hV, IntKind.wrap_u64]; omega
  obtain ⟨P, hP⟩ : ∃ P : Nat, 1 + V % 8 = (P : Int) := ⟨(1 + V % 8).toNat, by omega⟩
  have P1 : 1 ≤ P := by omega
  have P8 : P ≤ 8 := by omega
  obtain ⟨U, hU⟩ : ∃ U : Int, IntKind.u64.wrap a0 = U := ⟨_, rfl⟩
  have U0 : 0 ≤ U := by rw [← hU, IntKind.wrap_u64]; omega
  obtain ⟨k, hk⟩ : ∃ k : Nat, U % 301 = (k : Int) := ⟨(U % 301).toNat, by omega⟩
  have k1 : k < 301 := by omega
  have cn := ps_new (x := (P : Int)) (ps := P) rfl P1 (by omega) w
  have hmk := run_make_row' (P := Try.prog) 80 4 (.bool false) 1 Try.underlying80 infoB rfl .i64 .i64 (k + 1) (by omega) (by omega)
  have hmk2 : ∀ W : World, (Instr.makeSlice 80 (.int .i64 ((k : Int) + 1)) (.int .i64 ((k : Int) + 1))).run Try.prog W = .ok (.slice (some ⟨W.heap.size, 0, none⟩) (k + 1) (k + 1)) (W.alloc (.cells (madeCells #[.bool false] (k + 1)) 4)) := fun W => by have := hmk W; push_cast at this; exact this
  clear hmk
  obtain ⟨sp, cap, rfl, hm, hc⟩ := h2
  obtain ⟨l, hl⟩ : ∃ l, z2.length = l := ⟨_, rfl⟩
  rw [hl] at hm hc ⊢
  have hcells : Hid (∀ wr, Below w.heap.size w wr → ∀ i, i < l → ∃ b off, sp = some ⟨b, off, none⟩ ∧ wr.cell? ⟨b, off + i, none⟩ = some (.int .i64 (z2.getD i 0))) := Lib.hid fun wr hb i hi => by
    obtain ⟨b, off, e, _, _, d⟩ := hc i hi
    exact ⟨b, off, e, cell_then hb d⟩
  clear hc hl
  go_enter Try.func8, Try.ntmps8
  go_wp2_with fail
  with_reducible refine Calls.mono (cn) ?_
  rintro e w1 ⟨p, B, rfl, h1⟩
  clear cn
  have h2 := Lib.hid (h1.avoid (.cells (madeCells #[.bool false] (k + 1)) 4))
  have hz0 : Hid ((w1.alloc (.cells (madeCells #[.bool false] (k + 1)) 4)).heap[w1.heap.size]? = some (.cells (madeCells #[.bool false] (k + 1)) 4 (0, 0))) := Lib.hid (heap_alloc_new _ _)
  have hzl : Hid (w.heap.size ≤ w1.heap.size) := Lib.hid h1.b.size
  have hA0 := Lib.hid (made_bools (k + 1))
  clear h1
  obtain ⟨A0, hA⟩ : ∃ A0, madeCells #[Value.bool false] (k + 1) = A0 := ⟨_, rfl⟩
  rw [hA] at h2 hz0 hA0
  go_wp2_with fail
  clear hmk2 hA hU hV hP hk
  generalize w1.alloc (.cells A0 4) = w2 at *
  generalize w1.heap.size = z at *
  go_loopw [12, 13] (fun v v13 wr => ∃ (i : Nat) (s : St), v = .int .i64 ((i : Int) + 1) ∧ i ≤ k ∧ Hid (Pk w wr z p B P s ∧ Has P i (fun _ => false) s ∧ tot List.length P s = i ∧ s.e = 0 ∧ wr.heap[z]? = some (.cells A0 4 (0, 0)))) (fun v _ _ => (k + 1 - (RowKit.intOf v).toNat))
  case atStart => exact ⟨0, st0, rfl, by omega, Lib.hid ⟨h2.out, has0, tot0 meas_len, rfl, hz0.out⟩⟩
  case round =>
    clear h2 hz0
    obtain ⟨i, s, rfl, i1, hI⟩ := hrel
    by_cases hi : i < k
    · have j0 : (0 : Int) ≤ (i : Int) + 1 := by omega
      have j1 : (i : Int) + 1 ≤ (k : Int) := by omega
      have hP := Lib.hid hI.out.1
      have hH := Lib.hid hI.out.2.1
      have hT := Lib.hid hI.out.2.2.1
      have hEb0 := Lib.hid hI.out.2.2.2.1
      have hZ := Lib.hid hI.out.2.2.2.2
      have hFb : Hid (s.F.length ≤ 90000) := Lib.hid (by have := full_le hI.out.2.1.good; have := hI.out.2.2.1; omega)
      have hEb : Hid (s.e ≤ 90000) := Lib.hid (by have := hI.out.2.2.2.1; omega)
      have hbw := Lib.hid hI.out.1.b
      clear hI
      have P0 : (0 : Int) < (P : Int) := by omega
      have Pn : ((P : Int) == 0) = false := by rw [beq_eq_false_iff_ne]; omega
      have Pn2 : ¬ (P : Int) = 0 := by omega
      by_cases hlen : i + 1 < l
      · have j2 : (i : Int) + 1 < (l : Int) := by omega
        have hcc := hcells.out wr hbw.out (i + 1) hlen
        obtain ⟨b, off, rfl, d⟩ := hcc
        have ee : ((i + 1 : Nat) : Int) = (i : Int) + 1 := by push_cast; rfl
        generalize z2.getD (i + 1) 0 = yv at *
        obtain ⟨Y, hY⟩ : ∃ Y : Int, IntKind.u64.wrap yv = Y := ⟨_, rfl⟩
        have Y0 : 0 ≤ Y := by rw [← hY, IntKind.wrap_u64]; omega
        have Y9 : Y < 18446744073709551616 := by rw [← hY, IntKind.wrap_u64]; omega
        obtain ⟨q, hq0⟩ : ∃ q : Nat, Y % (P : Int) = (q : Int) := ⟨(Y % (P : Int)).toNat, by have := Int.emod_nonneg Y Pn2; omega⟩
        have hq : q < P := by have := Int.emod_lt_of_pos Y P0; omega
        have hqt : Y.tmod (P : Int) = (q : Int) := by rw [Int.tmod_eq_emod_of_nonneg Y0]; exact hq0
        go_wp2_with fail
        have cp := pk_put (x := (q : Int)) (i := q) (g := (i : Int) + 1) hP.out rfl hq (by omega) hFb.out hEb.out (by omega)
        have hH2 := has_put hH.out hq
        have hT2 : tot List.length P (sPut s q ((i : Int) + 1)) = i + 1 := by rw [tot_put meas_len hq, hT.out]; rfl
        have hE2 := put_e s q ((i : Int) + 1)
        have hE3 := hEb0.out
        clear hP hH hT hFb hEb hEb0
        generalize sPut s q ((i : Int) + 1) = s1 at *
        have hF1 := full_le hH2.good
        have hE1 : s1.e = 0 := by omega
        clear hE2 hE3
        with_reducible refine Calls.mono cp ?_
        rintro e w2 ⟨rfl, h2, k2⟩
        have hz2 := Lib.hid (k2 _ hZ.out)
        clear cp k2 hZ
        by_cases h17 : (i + 1) % 17 = 0
        · have g17 : ((i : Int) + 1) % 17 = 0 := by omega
          have cg := pk_give (x := (q : Int)) (i := q) h2 rfl hq (by omega) (by omega) (by omega)
          have hH3 := Lib.hid (has_give hH2 hq)
          have hT3 : tot List.length P (sGive s1 q) = i + 1 := by rw [tot_give meas_len hq, hT2]
          have hE4 : (sGive s1 q).e = 0 := by have := give_e s1 q; omega
          have hF3 := full_le hH3.out.good
          clear h2 hH2 hT2 hF1 hE1 h17
          generalize sGive s1 q = s2 at *
          go_wp2_with fail
          with_reducible refine Calls.mono cg ?_
          rintro e w3 ⟨rfl, h3, k3⟩
          have hz3 := Lib.hid (k3 _ hz2.out)
          have cl := pk_len (y := (i : Int) + 1) h3 (by omega) (by omega) (by rw [hT3]; push_cast; rfl)
          clear cg h3 k3 hz2
          go_wp2_with fail
          with_reducible refine Calls.mono (cl) ?_
          rintro e w4 ⟨rfl, h4, k4⟩
          have hE := Lib.hid (And.intro h4 (And.intro hH3.out (And.intro hT3 (And.intro hE4 (k4 _ hz3.out)))))
          clear cl h4 k4 hz3 hH3 hT3 hE4 hF3
          go_wp2_with fail
          go_roundw
          case rel => exact ⟨i + 1, _, by push_cast; rfl, by omega, hE⟩
          case measure => simp [RowKit.intOf]; omega
        · have g17 : (((i : Int) + 1) % 17 == 0) = false := by rw [beq_eq_false_iff_ne]; omega
          have g18 : ¬ ((i : Int) + 1) % 17 = 0 := by omega
          have cl := pk_len (y := (i : Int) + 1) h2 (by omega) (by omega) (by rw [hT2]; push_cast; rfl)
          clear h2 h17
          go_wp2_with fail
          with_reducible refine Calls.mono cl ?_
          rintro e w4 ⟨rfl, h4, k4⟩
          have hE := Lib.hid (And.intro h4 (And.intro hH2 (And.intro hT2 (And.intro hE1 (k4 _ hz2.out)))))
          clear cl h4 k4 hz2 hH2 hT2 hF1 hE1
          go_wp2_with fail
          go_roundw
          case rel => exact ⟨i + 1, _, by push_cast; rfl, by omega, hE⟩
          case measure => simp [RowKit.intOf]; omega
      · have j2 : ¬ (i : Int) + 1 < (l : Int) := by omega
        obtain ⟨q, hq0⟩ : ∃ q : Nat, ((i : Int) + 1) % (P : Int) = (q : Int) := ⟨(((i : Int) + 1) % (P : Int)).toNat, by have := Int.emod_nonneg ((i : Int) + 1) Pn2; omega⟩
        have hq : q < P := by have := Int.emod_lt_of_pos ((i : Int) + 1) P0; omega
        have hqt : ((i : Int) + 1).tmod (P : Int) = (q : Int) := by rw [Int.tmod_eq_emod_of_nonneg j0]; exact hq0
        go_wp2_with fail
        have cp := pk_put (x := (q : Int)) (i := q) (g := (i : Int) + 1) hP.out rfl hq (by omega) hFb.out hEb.out (by omega)
        have hH2 := has_put hH.out hq
        have hT2 : tot List.length P (sPut s q ((i : Int) + 1)) = i + 1 := by rw [tot_put meas_len hq, hT.out]; rfl
        have hE2 := put_e s q ((i : Int) + 1)
        have hE3 := hEb0.out
        clear hP hH hT hFb hEb hEb0
        generalize sPut s q ((i : Int) + 1) = s1 at *
        have hF1 := full_le hH2.good
        have hE1 : s1.e = 0 := by omega
        clear hE2 hE3
        with_reducible refine Calls.mono cp ?_
        rintro e w2 ⟨rfl, h2, k2⟩
        have hz2 := Lib.hid (k2 _ hZ.out)
        clear cp k2 hZ
        by_cases h17 : (i + 1) % 17 = 0
        · have g17 : ((i : Int) + 1) % 17 = 0 := by omega
          have cg := pk_give (x := (q : Int)) (i := q) h2 rfl hq (by omega) (by omega) (by omega)
          have hH3 := Lib.hid (has_give hH2 hq)
          have hT3 : tot List.length P (sGive s1 q) = i + 1 := by rw [tot_give meas_len hq, hT2]
          have hE4 : (sGive s1 q).e = 0 := by have := give_e s1 q; omega
          have hF3 := full_le hH3.out.good
          clear h2 hH2 hT2 hF1 hE1 h17
          generalize sGive s1 q = s2 at *
          go_wp2_with fail
          with_reducible refine Calls.mono cg ?_
          rintro e w3 ⟨rfl, h3, k3⟩
          have hz3 := Lib.hid (k3 _ hz2.out)
          have cl := pk_len (y := (i : Int) + 1) h3 (by omega) (by omega) (by rw [hT3]; push_cast; rfl)
          clear cg h3 k3 hz2
          go_wp2_with fail
          with_reducible refine Calls.mono (cl) ?_
          rintro e w4 ⟨rfl, h4, k4⟩
          have hE := Lib.hid (And.intro h4 (And.intro hH3.out (And.intro hT3 (And.intro hE4 (k4 _ hz3.out)))))
          clear cl h4 k4 hz3 hH3 hT3 hE4 hF3
          go_wp2_with fail
          go_roundw
          case rel => exact ⟨i + 1, _, by push_cast; rfl, by omega, hE⟩
          case measure => simp [RowKit.intOf]; omega
        · have g17 : (((i : Int) + 1) % 17 == 0) = false := by rw [beq_eq_false_iff_ne]; omega
          have g18 : ¬ ((i : Int) + 1) % 17 = 0 := by omega
          have cl := pk_len (y := (i : Int) + 1) h2 (by omega) (by omega) (by rw [hT2]; push_cast; rfl)
          clear h2 h17
          go_wp2_with fail
          with_reducible refine Calls.mono cl ?_
          rintro e w4 ⟨rfl, h4, k4⟩
          have hE := Lib.hid (And.intro h4 (And.intro hH2 (And.intro hT2 (And.intro hE1 (k4 _ hz2.out)))))
          clear cl h4 k4 hz2 hH2 hT2 hF1 hE1
          go_wp2_with fail
          go_roundw
          case rel => exact ⟨i + 1, _, by push_cast; rfl, by omega, hE⟩
          case measure => simp [RowKit.intOf]; omega
    · obtain rfl : k = i := by omega
      have j1 : ¬ ((k : Int) + 1 ≤ (k : Int)) := by omega
      have hI0 := Lib.hid hI.out
      clear hI
      go_wp2_with fail
      go_loopw [14] (fun v wq => ∃ (j : Nat) (s : St), v = .int .i64 j ∧ j ≤ P ∧ Hid (Pk w wq z p B P s ∧ Has P k (fun _ => false) s ∧ tot List.length P s = k ∧ s.e = 0 ∧ wq.heap[z]? = some (.cells A0 4 (0, 0)) ∧ ∀ q, q < j → s.o q = [] ∧ s.t q = [])) (fun v _ => (P - (RowKit.intOf v).toNat))
      case atStart => exact ⟨0, s, rfl, by omega, Lib.hid ⟨hI0.out.1, hI0.out.2.1, hI0.out.2.2.1, hI0.out.2.2.2.1, hI0.out.2.2.2.2, fun q hq => by omega⟩⟩
      case round =>
        clear hI0 hcells
        obtain ⟨j, s, rfl, jP, hI⟩ := hrel
        by_cases hj : j < P
        · have j2 : (j : Int) < (P : Int) := by omega
          have j0 : (0 : Int) ≤ (j : Int) := by omega
          obtain ⟨hP, hH, hT, hE, hZ, hO⟩ := hI.out
          have hF := full_le hH.good
          have cf := pk_flush (x := (j : Int)) (i := j) hP rfl hj (by omega) (by omega) (by omega)
          have hem := flush_empty s j
          have hS : Hid (Has P k (fun _ => false) (sFlush s j) ∧ tot List.length P (sFlush s j) = k ∧ (sFlush s j).e = 0 ∧ ∀ q, q < j + 1 → (sFlush s j).o q = [] ∧ (sFlush s j).t q = []) := Lib.hid ⟨has_flush hH hj, (tot_flush meas_len hj).trans hT, by have := (flush_F s j).2; omega, fun q hq => by
            by_cases e : q = j
            · rw [e]; exact hem
            · have h3 := flush_other s (i := j) (j := q) e
              rw [h3.1, h3.2]; exact hO q (by omega)⟩
          replace hZ := Lib.hid hZ
          clear hI hP hH hT hE hO hF
          generalize sFlush s j = s1 at *
          go_wp2_with fail
          with_reducible refine Calls.mono cf ?_
          rintro e w3 ⟨rfl, h3, k3⟩
          have cl := pk_local (x := (j : Int)) (i := j) (y := 0) h3 rfl hj (by omega) (by rw [hem.1, hem.2]; rfl)
          have hz3 := Lib.hid (k3 _ hZ.out)
          clear cf h3 k3 hZ hem
          go_wp2_with fail
          with_reducible refine Calls.mono (cl) ?_
          rintro e w4 ⟨rfl, h4, k4⟩
          have hE : Hid (Pk w w4 z p B P s1 ∧ Has P k (fun _ => false) s1 ∧ tot List.length P s1 = k ∧ s1.e = 0 ∧ w4.heap[z]? = some (.cells A0 4 (0, 0)) ∧ ∀ q, q < j + 1 → s1.o q = [] ∧ s1.t q = []) := Lib.hid ⟨h4, hS.out.1, hS.out.2.1, hS.out.2.2.1, k4 _ hz3.out, hS.out.2.2.2⟩
          clear cl h4 k4 hz3 hS
          go_wp2_with fail
          go_roundw
          case rel => exact ⟨j + 1, _, by go_num, by omega, hE⟩
          case measure => simp [RowKit.intOf]; omega
        · obtain rfl : P = j := by omega
          obtain ⟨f, hf⟩ : ∃ f : Nat, s.F.length = f := ⟨_, rfl⟩
          have hf3 : Hid (f ≤ 301) := Lib.hid (by have := full_le hI.out.2.1.good; have := hI.out.2.2.1; omega)
          have hJ : Hid (Pk w wr z p B P s ∧ Has P k (fun _ => false) s ∧ tot List.length P s = k - 0 ∧ s.F.length + s.e = f ∧ (∀ q, q < P → q ≠ P - 1 → s.o q = [] ∧ s.t q = []) ∧ wr.heap[z]? = some (.cells A0 4 (0, 0)) ∧ ∀ j, j < k + 1 → A0[j]? = some (.bool ((fun _ => false) j))) := Lib.hid ⟨hI.out.1, hI.out.2.1, by have := hI.out.2.2.1; omega, by have := hI.out.2.2.2.1; omega, fun q hq _ => hI.out.2.2.2.2.2 q hq, hI.out.2.2.2.2.1, hA0.out⟩
          clear hI hf hA0
          go_wp2_with fail
          go_loopw [15, 16, 17] (fun v v16 v17 wq => ∃ (i : Nat) (s : St) (g : Nat → Bool) (A : Array Value), v = .int .i64 i ∧ i ≤ k ∧ Hid (Pk w wq z p B P s ∧ Has P k g s ∧ tot List.length P s = k - i ∧ s.F.length + s.e = f ∧ (∀ q, q < P → q ≠ P - 1 → s.o q = [] ∧ s.t q = []) ∧ wq.heap[z]? = some (.cells A 4 (0, 0)) ∧ ∀ j, j < k + 1 → A[j]? = some (.bool (g j)))) (fun v _ _ _ => (k - (RowKit.intOf v).toNat))
          case atStart => exact ⟨0, s, _, A0, rfl, by omega, hJ⟩
          case round =>
            clear hJ
            obtain ⟨i, s, g, A, rfl, i1, hI⟩ := hrel
            have hf4 := hf3.out
            have hPm : (P : Int) - 1 = ((P - 1 : Nat) : Int) := by omega
            by_cases hi : i < k
            · have j2 : (i : Int) < (k : Int) := by omega
              have j0 : (0 : Int) ≤ (i : Int) := by omega
              obtain ⟨hP, hH, hT, hFe, hO, hZ, hA⟩ := hI.out
              have hok : (sAns s (P - 1)).2 = true := Po.get_some hH.good (by omega) hO (by omega)
              obtain ⟨⟨v5, b5⟩, hv5⟩ : ∃ q, sAns s (P - 1) = q := ⟨_, rfl⟩
              rw [hv5] at hok
              obtain rfl : b5 = true := hok
              obtain ⟨m, hvm, m1, mk, hgm, hH2⟩ := has_get hH (i := P - 1) (by omega) hv5
              subst hvm
              have cg := pk_get (x := ((P - 1 : Nat) : Int)) (i := P - 1) hP rfl (by omega) (by omega) (by omega) (by omega) hv5
              have hT2 := tot_get (s := s) meas_len (show P - 1 < P by omega)
              rw [hv5] at hT2
              simp only [if_true, List.length_singleton] at hT2
              have hFe2 := get_Fe s (P - 1)
              have hI2 : Hid (∀ w2, Pk w w2 z p B P (sGet s (P - 1)) ∧ Kz z wr w2 → w2.cell? ⟨z, m, none⟩ = some (.bool false) ∧ w2.frozen? ⟨z, m, none⟩ = false ∧ Hid (∀ W, W = w2.setCell ⟨z, m, none⟩ (.bool true) → Hid (Pk w W z p B P (sGet s (P - 1)) ∧ Has P k (up g m true) (sGet s (P - 1)) ∧ tot List.length P (sGet s (P - 1)) = k - (i + 1) ∧ (sGet s (P - 1)).F.length + (sGet s (P - 1)).e = f ∧ (∀ q, q < P → q ≠ P - 1 → (sGet s (P - 1)).o q = [] ∧ (sGet s (P - 1)).t q = []) ∧ W.heap[z]? = some (.cells (A.setIfInBounds m (.bool true)) 4 (0, 0)) ∧ ∀ j, j < k + 1 → (A.setIfInBounds m (.bool true))[j]? = some (.bool (up g m true j))))) := Lib.hid fun w2 ⟨h2, k2⟩ => by
                obtain ⟨q1, q2, q3, q4⟩ := bools_at (k2 _ hZ) hA (m := m) (by omega)
                rw [hgm] at q1
                refine ⟨q1, q2, Lib.hid fun W eW => Lib.hid ⟨h2.scr hzl.out eW, hH2, by omega, by omega, fun q hq hne => ?_, by rw [eW]; exact q3, q4⟩⟩
                have h3 := get_other s (i := P - 1) (j := q) hne
                rw [h3.1, h3.2]; exact hO q hq hne
              have mi1 : ¬ (m : Int) < 1 := by omega
              have mi2 : ¬ (k : Int) < (m : Int) := by omega
              have mi3 : (m : Int) < (k : Int) + 1 := by omega
              have mi0 : (0 : Int) ≤ (m : Int) := by omega
              have mk1 : m < k + 1 := by omega
              clear hI hP hH hT hFe hO hZ hA hv5 hT2 hFe2 hH2 hgm hf4
              go_wp2_with fail
              with_reducible refine Calls.mono cg ?_
              rintro e w3 ⟨rfl, h3⟩
              obtain ⟨q1, q2, q3⟩ := hI2.out w3 h3
              have hE := q3.out _ rfl
              clear cg h3 hI2 q3
              go_wp2_with fail
              go_roundw
              case rel => exact ⟨i + 1, _, _, _, by go_num, by omega, hE⟩
              case measure => simp [RowKit.intOf]; omega
            · obtain rfl : k = i := by omega
              obtain ⟨hP, hH, hT, hFe, hO, hZ, hA⟩ := hI.out
              have hn1 := get_no (s := s) (i := 0) (ps := P) (by omega) (by omega)
              obtain ⟨⟨v5, b5⟩, hv5⟩ : ∃ q, sAns s 0 = q := ⟨_, rfl⟩
              rw [hv5] at hn1
              obtain rfl : b5 = false := hn1.1
              have cg := pk_get (x := 0) (i := 0) hP rfl (by omega) (by omega) (by omega) (by omega) hv5
              have hFe2 := get_Fe s 0
              have hFs : (sGet s 0).F.length + (sGet s 0).e ≤ 400 := by omega
              have hF1 : (sGet s 0).F.length ≤ 90000 := by omega
              have hE1 : (sGet s 0).e ≤ 90000 := by omega
              have hn2 := get_no (s := sGet s 0) (i := P - 1) (ps := P) (by omega) hn1.2
              clear hI hP hH hT hFe hO hZ hA hv5 hFe2 hf4 hn1
              generalize sGet s 0 = s1 at *
              go_wp2_with fail
              with_reducible refine Calls.mono cg ?_
              rintro e w3 ⟨rfl, h3, _⟩
              obtain ⟨⟨v6, b6⟩, hv6⟩ : ∃ q, sAns s1 (P - 1) = q := ⟨_, rfl⟩
              rw [hv6] at hn2
              obtain rfl : b6 = false := hn2.1
              have cg2 := pk_get (x := ((P - 1 : Nat) : Int)) (i := P - 1) h3 rfl (by omega) (by omega) hF1 hE1 hv6
              have hFe2 := get_Fe s1 (P - 1)
              have ht2 := hn2.2
              have hF3 : (sGet s1 (P - 1)).F.length ≤ 90000 := by omega
              clear cg h3 hv6 hn2 hFe2
              generalize sGet s1 (P - 1) = s2 at *
              go_wp2_with fail
              with_reducible refine Calls.mono (cg2) ?_
              rintro e w4 ⟨rfl, h4, _⟩
              have ct := Po.told_any w4
              clear cg2
              go_wp2_with fail
              with_reducible refine Calls.mono (ct) ?_
              rintro e w5 ⟨rfl, hb5⟩
              have h5 : Pk w w5 z p B P s2 := ⟨h4.i.below hb5, h4.b.trans (hb5.mono h4.b.size)⟩
              have cl := pk_len (y := 0) h5 (by omega) hF3 (by rw [ht2]; rfl)
              clear h4 h5 hb5 ct
              go_wp2_with fail
              with_reducible refine Calls.mono (cl) ?_
              rintro e w6 ⟨rfl, h6, _⟩
              have hb := Lib.hid h6.b
              clear cl h6
              go_wp2_with fail
              go_ret
              exact ⟨rfl, hb.out⟩

set_option maxRecDepth 100000 in
theorem lifted (os : Os) (started : os.Started) (H : Type) (enc : TypeId × Value → H) :
    ReturnsInHanded {} Try.checked os 8 .any (Rows.poolOnceSpec.pre6 enc Try.prog Try.f8 Rows.poolOnceRow.domain false) (Rows.poolOnceSpec.post enc Try.prog Try.f8 false true false false) := by
  refine returnsInHanded_of_change (C := Try.checked) own started (by kernel_rfl) Try.func8
    (ChangeSpec.witness6 (enc := enc) (C := Try.checked) false ⟨#[], #[.int .i64 0, .int .i64 0, .slice none 0 0], []⟩ 8 (by kernel_rfl) (by kernel_rfl) (by kernel_rfl) (by kernel_rfl)) ?_
  intro W base args ds gs before hval0 hW hcnd _
  have hval : ∀ (j : Nat) t v, Try.f8.params[j]? = some t → args[j]? = some v → Value.okWide Try.prog W .any base t v := hval0
  have hW' := hW
  obtain ⟨p, q, hA0, hV, rfl, hfz, hnd⟩ := hW
  have hA : DataW.TrodAll enc Try.prog W 0 (fun _ => true) true Try.f8.params.toList args.toList ds p := hA0
  rw [Try.params8] at hA hval
  obtain ⟨v0, vs0, d0, ds0, p0, q0, hargs, rfl, rfl, h0, r0⟩ := trodAll_cons hA
  obtain ⟨v1, vs1, d1, ds1, p1, q1, rfl, rfl, rfl, h1, r1⟩ := trodAll_cons r0
  obtain ⟨v2, vs2, d2, ds2, p2, q2, rfl, rfl, rfl, h2, r2⟩ := trodAll_cons r1
  obtain ⟨rfl, rfl, rfl⟩ := trodAll_nil r2
  obtain rfl : args = #[v0, v1, v2] := by cases args; simp_all
  obtain ⟨rfl, rfl⟩ := trodVars_none hV
  obtain ⟨z2, i2⟩ := arg_ints (hval 2 26 v2 rfl rfl) h2
  obtain ⟨a0, rfl, rfl, rfl, w0⟩ := open_int Try.underlying3 (hval 0 3 v0 rfl rfl) h0
  obtain ⟨a1, rfl, rfl, rfl, w1⟩ := open_int Try.underlying3 (hval 1 3 v1 rfl rfl) h1
  clear hA0 hval0
  simp only [List.append_nil] at hW'
  have lt2 : ∀ x ∈ p2, x.block < W.heap.size := fun x hx => by have := hW'.lt x (by simp [hx]); simpa using this
  refine (walk a0 a1 v2 z2 W w0 w1 i2).mono fun e W' ⟨he, hg⟩ => ?_
  subst he
  exact ⟨_, rfl, post_of_kept (pa := _) (pv := []) hW' (fun _ _ _ => (trodAll_cons_mk (shut_bool Try.underlying4 _) trodAll_mk0)) (trodAll_cons_mk (shut_int Try.underlying3 w0) (trodAll_cons_mk (shut_int Try.underlying3 w1) (trodAll_cons_mk (Below.trod laidOut (by kernel_rfl) (of_decide_eq_true (by kernel_rfl)) h2 hg lt2) trodAll_mk0))) (fun _ _ => rfl) (by simp) hg⟩

theorem over : Rows.poolOnceRow.holds Try.pinned (OpenSpec.ofChange Rows.poolOnceSpec) :=
  OpenClaim.holds_of_wide 8 Try.f8 rfl rfl rfl rfl rfl rfl rfl ⟨rfl, rfl, rfl, rfl, rfl⟩ rfl rfl rfl rfl rfl (by kernel_rfl) Try.func8 (by kernel_rfl)
    (of_decide_eq_true (by kernel_rfl)) (by unfold Func.isWrapper; first | (rw [if_pos (by decide +kernel)]; kernel_rfl) | (rw [if_neg (by decide +kernel)]; exact ⟨rfl, rfl⟩))
    (fun os started H enc _ => lifted os started H enc)

theorem proved : Rows.PoolOnceSaid :=
  over
#print axioms proved
end Go.Proofs.Ytclldajbibhcbaa.poolOnce
