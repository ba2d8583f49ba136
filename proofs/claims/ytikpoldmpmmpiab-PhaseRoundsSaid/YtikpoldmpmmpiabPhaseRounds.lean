/- For any whole number and any list of operations the statement PhaseRounds answers true and leaves its arguments as they were: Term begins only where each P said that it is empty, since the last one that was not; restarts are at most as many as those that were not. No condition. -/
import Derived.Test.YtikpoldmpmmpiabHome
import Derived.Test.YtikpoldmpmmpiabPhaseTold
import Derived.Test.YtikpoldmpmmpiabOp25
import Derived.WalkKit
import Derived.ProofKit
import Derived.OpenShut
import Derived.Deep.RegionHeld3
import Derived.Deep.RegionWith
import Derived.Deep.Cut
import Derived.Deep.CutBlock
import Derived.Deep.CutRange
import Derived.Deep.DeepCutAuto
import Derived.RegionTactic
import Derived.StillTailTactics
namespace Go.Proofs.Ytikpoldmpmmpiab.phaseRounds
open Go.ChangeShapes Go.WideShapes Go.ChangeAt Go.WideElems Go.RowKit Go.Lib Fx Ho Ph Rw
set_option linter.unusedVariables false

theorem own : ownKnob Try.prog.godebug = none := by kernel_rfl

/-- How many have said so. -/
def cntT : List Bool → Nat
  | [] => 0
  | b :: M => (if b then 1 else 0) + cntT M
theorem cntT_le : ∀ M, cntT M ≤ M.length
  | [] => Nat.le_refl _
  | b :: M => by have := cntT_le M; unfold cntT; rw [List.length_cons]; split <;> omega
theorem cntT_all : ∀ M, (cntT M = M.length) ↔ M.contains false = false
  | [] => by simp [cntT]
  | true :: M => by
    have h := cntT_all M
    unfold cntT
    rw [List.length_cons, List.contains_cons, if_pos rfl, show (false == true) = false from rfl, Bool.false_or, ← h]; omega
  | false :: M => by
    have := cntT_le M
    unfold cntT
    rw [List.length_cons, List.contains_cons, if_neg (by decide), show (false == false) = true from rfl, Bool.true_or]; constructor <;> intro h <;> (first | omega | exact absurd h (by decide))
theorem qu_cnt (M : List Bool) : quB 1 M = decide (cntT M = M.length) := by
  unfold quB
  rw [show ((1 : Int) == 1) = true from rfl, Bool.true_and]
  by_cases h : cntT M = M.length
  · rw [decide_eq_true h, (cntT_all M).1 h]; rfl
  · rw [decide_eq_false h]
    cases hc : M.contains false with
    | true => rfl
    | false => exact absurd ((cntT_all M).2 hc) h
theorem cntT_set : ∀ (M : List Bool) (j : Nat), j < M.length → M.getD j false = false → cntT (M.set j true) = cntT M + 1
  | [], j, h, _ => by simp at h
  | b :: M, 0, _, e => by
    have e : b = false := by simpa using e
    subst e; simp [cntT]; omega
  | b :: M, j + 1, h, e => by
    have := cntT_set M j (by simpa using h) (by simpa using e)
    simp only [List.set_cons_succ, cntT, this]; omega
theorem set_same : ∀ (M : List Bool) (j : Nat), j < M.length → M.getD j false = true → M.set j true = M
  | [], j, h, _ => by simp at h
  | b :: M, 0, _, e => by
    have e : b = true := by simpa using e
    subst e; rfl
  | b :: M, j + 1, h, e => by rw [List.set_cons_succ, set_same M j (by simpa using h) (by simpa using e)]
theorem cntT_none (n : Nat) : cntT (List.replicate n false) = 0 := by
  induction n with
  | zero => rfl
  | succ n ih => rw [List.replicate_succ]; unfold cntT; rw [ih]; rfl
/-- The phases, and the statement's own row of who said so. -/
structure Sr (W0 w : World) (p g q : Nat) (re : Int) (M : List Bool) : Prop where
  se : Se W0 w p g 1 1 re M
  row : w.heap[q]? = some (.cells (bcells M) 4 (0, 0))
  lq : W0.heap.size ≤ q
  qp : q ≠ p
  qg : q ≠ g
theorem Sr.draws {W0 w : World} {p g q : Nat} {re : Int} {M : List Bool} (h : Sr W0 w p g q re M) (m : Nat) : Sr W0 (w.drewN m) p g q re M := ⟨h.se.draws m, h.row, h.lq, h.qp, h.qg⟩
/-- Behind a call that turns the phases alone the row is as it was. -/
theorem row_kept {w w' : World} {p g q : Nat} {A : Array Value} (hr : w.heap[q]? = some (.cells A 4 (0, 0))) (hw : Wrote (home p g) w (home p g) w') (qp : q ≠ p) (qg : q ≠ g) : w'.heap[q]? = some (.cells A 4 (0, 0)) := by
  rw [hw.block q (block_lt hr) (fun h => h.elim qp qg)]; exact hr
set_option maxRecDepth 100000 in
set_option maxHeartbeats 4000000 in
theorem walk (a0 : Int) (v1 : Value) (zb1 : List (Int × Int × Bool × Bool)) (w : World) (w0 : (Lit.int .i64 a0).wf = true) (h1 : Op25 w v1 zb1) :
    Calls Try.prog 4 #[.int .i64 a0, v1] w fun e w' => e = .returned (.bool true) ∧ Below w.heap.size w w' := by
  have ct := fun w => told_any w
  obtain ⟨Y, hY⟩ : ∃ Y : Int, IntKind.u64.wrap a0 = Y := ⟨_, rfl⟩
  have y0 : 0 ≤ Y := by rw [← hY, IntKind.wrap_u64]; omega
  obtain ⟨n, hn⟩ : ∃ n : Nat, 1 + Y % 20 = (n : Int) := ⟨(1 + Y % 20).toNat, by omega⟩
  have n1 : 1 ≤ n := by omega
  have n2 : n ≤ 20 := by omega
  have cn := se_new n w n1 (by omega)
  obtain ⟨sp, cap, rfl, hmx, hc⟩ := h1
  obtain ⟨l, hl⟩ : ∃ l, zb1.length = l := ⟨_, rfl⟩
  rw [hl] at hmx hc
  rw [hl]
  have hcell : Hid (∀ W, Below w.heap.size w W → ∀ i, i < l → ∃ b off, sp = some ⟨b, off, none⟩ ∧ W.cell? ⟨b, off + i * 4 + 1, none⟩ = some (.int .i64 (zb1.getD i (0, 0, false, false)).2.1) ∧ W.cell? ⟨b, off + i * 4 + 2, none⟩ = some (.bool (zb1.getD i (0, 0, false, false)).2.2.1) ∧ W.cell? ⟨b, off + i * 4 + 3, none⟩ = some (.bool (zb1.getD i (0, 0, false, false)).2.2.2)) := fun W hb i hi => by
    obtain ⟨b, off, e, _, _, k1, k2, k3⟩ := hc i hi
    exact ⟨b, off, e, by rw [Nat.add_assoc]; exact cell_then hb k1, by rw [Nat.add_assoc]; exact cell_then hb k2, by rw [Nat.add_assoc]; exact cell_then hb k3⟩
  have hmk := run_make_row' (P := Try.prog) 28 4 (.bool false) 1 Try.underlying28 infoB rfl .i64 .i64 n (by omega) (by omega)
  rw [made_bools] at hmk
  clear hc w0
  by_cases hlong : 200 < l
  · have g1 : (200 : Int) < (l : Int) := by omega
    go_enter Try.func4, Try.ntmps4
    go_wp2_with fail
    with_reducible refine Calls.mono (cn) ?_
    rintro e w1 ⟨p, g, rfl, h1⟩
    replace h1 := h1.below
    go_wp2_with fail
    with_reducible refine Calls.mono (ct _) ?_
    rintro e w2 ⟨rfl, h2⟩
    go_wp2_with fail
    go_ret
    exact ⟨rfl, below_then h1 h2⟩
  have l1 : l ≤ 200 := by omega
  clear hlong
  replace hl := Lib.hid hl
  go_enter Try.func4, Try.ntmps4
  go_wp2_with fail
  with_reducible refine Calls.mono (cn) ?_
  rintro e w1 ⟨p, g, rfl, h1⟩
  have cb := goes h1 (begin_off h1.obj (by omega))
  rw [show List.replicate (List.replicate n false).length false = List.replicate n false by rw [List.length_replicate]] at cb
  clear h1 cn
  go_wp2_with fail
  with_reducible refine Calls.mono (cb) ?_
  rintro e w2 ⟨rfl, h2⟩
  clear cb
  replace h2 : Se w w2 p g 1 1 0 (List.replicate n false) := h2
  replace h2 := Lib.hid h2
  go_wp2_with fail
  have hb2 : Below w2.heap.size w2 (w2.alloc (.cells (bcells (List.replicate n false)) 4)) := below_alloc (Below.refl _ _) _
  obtain ⟨q0, hq0⟩ : ∃ q, w2.heap.size = q := ⟨_, rfl⟩
  have hS : Hid (∃ M, M.length = n ∧ ((0 : Nat) : Int) = ((cntT M : Nat) : Int) ∧ ∃ re : Int, 0 ≤ re ∧ re ≤ ((0 : Nat) : Int) ∧ Sr w (w2.alloc (.cells (bcells (List.replicate n false)) 4)) p g q0 re M) := by
    refine ⟨List.replicate n false, List.length_replicate, by rw [cntT_none], 0, Int.le_refl _, Int.le_refl _, h2.out.later hb2, by rw [← hq0]; exact heap_alloc_new _ _, by rw [← hq0]; exact h2.out.below.size, ?_, ?_⟩
    · have := h2.out.obj.lt p (Or.inl rfl); omega
    · have := h2.out.obj.lt g (Or.inr rfl); omega
  rw [hq0]
  generalize w2.alloc (.cells (bcells (List.replicate n false)) 4) = w3 at *
  clear hY hn y0 h2 hb2 hq0
  go_loopw [8, 9, 10, 11] (fun v c b i wr => ∃ q cc bb j : Nat, v = .slice (some ⟨q, 0, none⟩) n n ∧ c = .int .i64 cc ∧ b = .int .i64 bb ∧ i = .int .i64 j ∧ j ≤ l ∧ bb ≤ j ∧ cc ≤ n ∧ Hid (∃ M, M.length = n ∧ ((cc : Nat) : Int) = ((cntT M : Nat) : Int) ∧ ∃ re : Int, 0 ≤ re ∧ re ≤ ((bb : Nat) : Int) ∧ Sr w wr p g q re M)) (fun _ _ _ i _ => (l - (RowKit.intOf i).toNat))
  case atStart => exact ⟨q0, 0, 0, 0, rfl, rfl, rfl, rfl, by omega, by omega, by omega, hS⟩
  case round =>
    obtain ⟨q, cc, bb, j, rfl, rfl, rfl, rfl, j1, b1, c1, M, hlen, hcnt, re, r0, r1, hSr⟩ := hrel
    clear hS
    obtain rfl : cc = cntT M := by omega
    clear hcnt
    have hlM := hlen
    replace hlen := Lib.hid hlen
    by_cases hj : j < l
    · have i2 : (j : Int) < (l : Int) := by omega
      have i0 : (0 : Int) ≤ (j : Int) := by omega
      obtain ⟨b, off, rfl, k1, k2, k3⟩ := hcell.out wr hSr.se.below j hj
      obtain ⟨P, hP⟩ : ∃ P, (zb1.getD j (0, 0, false, false)).2.1 = P := ⟨_, rfl⟩
      obtain ⟨E, hE⟩ : ∃ E, (zb1.getD j (0, 0, false, false)).2.2.1 = E := ⟨_, rfl⟩
      obtain ⟨F, hF⟩ : ∃ F, (zb1.getD j (0, 0, false, false)).2.2.2 = F := ⟨_, rfl⟩
      rw [hP] at k1
      rw [hE] at k2
      rw [hF] at k3
      obtain ⟨X, hX⟩ : ∃ X : Int, IntKind.u64.wrap P = X := ⟨_, rfl⟩
      have X0 : 0 ≤ X := by rw [← hX, IntKind.wrap_u64]; omega
      obtain ⟨s, hs⟩ : ∃ s : Nat, X % (n : Int) = (s : Int) := ⟨(X % (n : Int)).toNat, by have := Int.emod_nonneg X (by omega : (n : Int) ≠ 0); omega⟩
      have s1 : s < n := by have := Int.emod_lt_of_pos X (by omega : (0 : Int) < (n : Int)); omega
      have hun : IntKind.u64.wrap (n : Int) = (n : Int) := by rw [IntKind.wrap_u64]; omega
      have hn0 : ¬ ((n : Int) = 0) := by omega
      have hcl : Hid (∀ W, Below w.heap.size w W → W.cell? ⟨b, off + j * 4 + 2, none⟩ = some (.bool E) ∧ W.cell? ⟨b, off + j * 4 + 3, none⟩ = some (.bool F)) := Lib.hid fun W hW => by
        obtain ⟨b2, off2, e, _, d2, d3⟩ := hcell.out W hW j hj
        cases e
        rw [hE] at d2
        rw [hF] at d3
        exact ⟨d2, d3⟩
      clear hP hE hF
      go_wp2_with fail
      go_still_tail 12, (by kernel_rfl)
      change wpList _ _ _ _ _ wr.drew
      have hS2 : Sr w wr.drew p g q re M := hSr.draws 1
      generalize wr.drew = w2 at *
      clear k1 k2 k3 hSr hX hs hun hn0 X0
      have hef : (E = true ∧ F = false) ∨ (E && !F) = false := by cases E <;> cases F <;> simp
      rcases hef with ⟨rfl, rfl⟩ | hef
      · have cs := say_yes hS2.se.obj s (by rw [hlM]; exact s1)
        go_wp2_with fail
        with_reducible refine Calls.mono (cs) ?_
        rintro e w3 ⟨rfl, hw, ho⟩
        have hr3 := row_kept hS2.row hw hS2.qp hS2.qg
        have hse := hS2.se.step hw ho
        have d0 := cell_of hr3 (bcells_get (M := M) (i := s) (by rw [hlM]; exact s1))
        have d1 := frozen_of_row w3 q s _ _ hr3
        obtain ⟨d2, d3⟩ := hcl.out w3 hse.below
        clear cs hw ho
        cases hb0 : M.getD s false with
        | true =>
          rw [hb0] at d0
          rw [set_same M s (by rw [hlM]; exact s1) hb0] at hse
          have hS3 : Sr w w3 p g q re M := ⟨hse, hr3, hS2.lq, hS2.qp, hS2.qg⟩
          clear hse hr3 hS2 hb0 hlM
          go_wp2_with fail
          clear d0 d1 d2 d3 hcl
          have hB := Lib.hid (qu_cnt M)
          have hl3 := hlen.out
          have cq := quiet_any hS3.se.obj
          obtain ⟨B, hBe⟩ : ∃ B, quB 1 M = B := ⟨_, rfl⟩
          rw [hBe] at cq
          have hcB : (((cntT M : Nat) : Int) == (n : Int)) = B := by
            rw [← hBe, hB.out, hl3]
            by_cases h : cntT M = n
            · rw [decide_eq_true h, h]; simp
            · rw [decide_eq_false h, beq_eq_false_iff_ne]; omega
          clear hBe hl3 hB
          go_wp2_with fail
          with_reducible refine Calls.mono (cq) ?_
          rintro e w4 ⟨rfl, m4, rfl⟩
          replace hS3 := hS3.draws m4
          generalize w3.drewN m4 = w4 at *
          have crs := restarts_any hS3.se.obj
          clear cq
          go_wp2_with fail
          with_reducible refine Calls.mono (crs) ?_
          rintro e w5 ⟨rfl, m5, rfl⟩
          replace hS3 := Lib.hid (hS3.draws m5)
          generalize w4.drewN m5 = w5 at *
          clear crs
          go_wp2_with fail
          go_roundw
          case rel => exact ⟨q, cntT M, bb, j + 1, rfl, rfl, rfl, by go_num, by omega, by omega, c1, M, hlen.out, rfl, re, r0, r1, hS3.out⟩
          case measure => simp [RowKit.intOf]; omega
        | false =>
          rw [hb0] at d0
          have hcs := cntT_set M s (by rw [hlM]; exact s1) hb0
          have hle := cntT_le (M.set s true)
          have hl2 : (M.set s true).length = n := by rw [List.length_set]; exact hlM
          rw [hl2, hcs] at hle
          have hS3 : Sr w (w3.setCell ⟨q, s, none⟩ (.bool true)) p g q re (M.set s true) := by
            refine ⟨⟨hse.obj.wrote (H := fun k => k = q) (wrote_setCell (a := ⟨q, s, none⟩) (u := .bool true) rfl rfl rfl rfl rfl) (fun k h1 h2 => by subst h2; exact h1.elim hS2.qp hS2.qg), hse.lp, hse.lg, hse.below.setCell hS2.lq _⟩, ?_, hS2.lq, hS2.qp, hS2.qg⟩
            rw [heap_setCell_same _ q s _ _ _ hr3, bcells_set]
          clear hse hr3 hS2 hb0 hlM
          go_wp2_with fail
          generalize w3.setCell ⟨q, s, none⟩ (.bool true) = w3 at *
          clear d0 d1 d2 d3 hcl
          replace hlen : Hid ((M.set s true).length = n) := hl2
          rw [← hcs] at hle
          have hcs := Lib.hid hcs
          generalize M.set s true = M2 at *
          have hB := Lib.hid (qu_cnt M2)
          have hl3 := hlen.out
          have cq := quiet_any hS3.se.obj
          obtain ⟨B, hBe⟩ : ∃ B, quB 1 M2 = B := ⟨_, rfl⟩
          rw [hBe] at cq
          have hcB : (((cntT M : Nat) : Int) + 1 == (n : Int)) = B := by
            have hcs2 := hcs.out
            rw [← hBe, hB.out, hl3]
            by_cases h : cntT M2 = n
            · rw [decide_eq_true h, beq_iff_eq]; omega
            · rw [decide_eq_false h, beq_eq_false_iff_ne]; omega
          clear hBe hl3 hB
          go_wp2_with fail
          with_reducible refine Calls.mono (cq) ?_
          rintro e w4 ⟨rfl, m4, rfl⟩
          replace hS3 := hS3.draws m4
          generalize w3.drewN m4 = w4 at *
          have crs := restarts_any hS3.se.obj
          clear cq
          go_wp2_with fail
          with_reducible refine Calls.mono (crs) ?_
          rintro e w5 ⟨rfl, m5, rfl⟩
          replace hS3 := Lib.hid (hS3.draws m5)
          generalize w4.drewN m5 = w5 at *
          clear crs
          go_wp2_with fail
          go_roundw
          case rel => exact ⟨q, cntT M2, bb, j + 1, rfl, by rw [hcs.out]; go_num, rfl, by go_num, by omega, by omega, hle, M2, hlen.out, rfl, re, r0, r1, hS3.out⟩
          case measure => simp [RowKit.intOf]; omega
      · have cs := say_forget hS2.se.obj s E F (by rw [hlM]; exact s1) hef (by omega)
        rw [hlM] at cs
        have hre : ∃ re2, (if M.contains true then re + 1 else re) = re2 ∧ 0 ≤ re2 ∧ re2 ≤ ((bb + 1 : Nat) : Int) := by
          refine ⟨_, rfl, ?_⟩
          split <;> omega
        obtain ⟨re2, hre2, r20, r21⟩ := hre
        rw [hre2] at cs
        clear hre2
        go_wp2_with fail
        with_reducible refine Calls.mono (cs) ?_
        rintro e w3 ⟨rfl, hw, ho⟩
        have hse := hS2.se.step hw ho
        obtain ⟨d2, d3⟩ := hcl.out w3 hse.below
        have hE2 : Hid (∃ q2, w3.heap.size = q2 ∧ Sr w (w3.alloc (.cells (bcells (List.replicate n false)) 4)) p g q2 re2 (List.replicate n false)) := by
          refine ⟨_, rfl, hse.later (below_alloc (Below.refl _ _) _), heap_alloc_new _ _, hse.below.size, ?_, ?_⟩
          · have := hse.obj.lt p (Or.inl rfl); omega
          · have := hse.obj.lt g (Or.inr rfl); omega
        clear cs hw ho hse hS2 hlM
        rcases (show E = false ∨ (E = true ∧ F = true) by cases E <;> cases F <;> simp at hef ⊢) with rfl | ⟨rfl, rfl⟩
        all_goals
          clear hef
          go_wp2_with fail
          obtain ⟨q2, hq2, hS3⟩ := hE2.out
          rw [hq2]
          generalize w3.alloc (.cells (bcells (List.replicate n false)) 4) = w3 at *
          clear d2 d3 hcl hE2 hq2
          replace hlen : Hid ((List.replicate n false).length = n) := List.length_replicate
          have hcs : cntT (List.replicate n false) = 0 := cntT_none n
          generalize List.replicate n false = M2 at *
          replace hcs := Lib.hid hcs
          have hB := Lib.hid (qu_cnt M2)
          have hl3 := hlen.out
          have cq := quiet_any hS3.se.obj
          obtain ⟨B, hBe⟩ : ∃ B, quB 1 M2 = B := ⟨_, rfl⟩
          rw [hBe] at cq
          have hcB : ((0 : Int) == (n : Int)) = B := by
            have hcs2 := hcs.out
            rw [← hBe, hB.out, hl3]
            by_cases h : cntT M2 = n
            · omega
            · rw [decide_eq_false h, beq_eq_false_iff_ne]; omega
          clear hBe hl3 hB
          go_wp2_with fail
          with_reducible refine Calls.mono (cq) ?_
          rintro e w4 ⟨rfl, m4, rfl⟩
          replace hS3 := hS3.draws m4
          generalize w3.drewN m4 = w4 at *
          have crs := restarts_any hS3.se.obj
          clear cq
          go_wp2_with fail
          with_reducible refine Calls.mono (crs) ?_
          rintro e w5 ⟨rfl, m5, rfl⟩
          replace hS3 := Lib.hid (hS3.draws m5)
          generalize w4.drewN m5 = w5 at *
          clear crs
          go_wp2_with fail
          go_roundw
          case rel => exact ⟨q2, 0, bb + 1, j + 1, rfl, rfl, by go_num, by go_num, by omega, by omega, by omega, M2, hlen.out, by rw [hcs.out], re2, r20, r21, hS3.out⟩
          case measure => simp [RowKit.intOf]; omega
    · obtain rfl : j = l := by omega
      have i2 : ¬ (j : Int) < (j : Int) := by omega
      have hq := qu_cnt M
      rw [hlM] at hq
      cases hB : quB 1 M with
      | true =>
        have hcB : (((cntT M : Nat) : Int) == (n : Int)) = true := by
          rw [hB] at hq
          have := of_decide_eq_true hq.symm
          rw [this]; simp
        have c1 := goes hSr.se (term_yes hSr.se.obj hB)
        clear hq hB hSr
        go_wp2_with fail
        with_reducible refine Calls.mono (c1) ?_
        rintro e w3 ⟨rfl, hS3⟩
        go_wp2_with fail
        with_reducible refine Calls.mono (ct _) ?_
        rintro e w4 ⟨rfl, hb4⟩
        replace hS3 := hS3.later hb4
        clear c1 hb4
        have c2 := goesA hS3 (phase_any hS3.obj)
        clear hS3
        go_wp2_with fail
        with_reducible refine Calls.mono (c2) ?_
        rintro e w5 ⟨rfl, hS5⟩
        clear c2
        have c3 := goesA hS5 (begin_no hS5.obj (by omega))
        clear hS5
        go_wp2_with fail
        with_reducible refine Calls.mono (c3) ?_
        rintro e w6 ⟨rfl, hS6⟩
        clear c3
        have c4 := goesA hS6 (end_no hS6.obj (by omega))
        clear hS6
        go_wp2_with fail
        with_reducible refine Calls.mono (c4) ?_
        rintro e w7 ⟨rfl, hS7⟩
        replace hS7 := hS7.below
        go_wp2_with fail
        go_ret
        exact ⟨rfl, hS7⟩
      | false =>
        have hcB : (((cntT M : Nat) : Int) == (n : Int)) = false := by
          rw [hB] at hq
          have := of_decide_eq_false hq.symm
          rw [beq_eq_false_iff_ne]; omega
        have c1 := goesA hSr.se (term_no hSr.se.obj hB)
        clear hq hB hSr
        go_wp2_with fail
        with_reducible refine Calls.mono (c1) ?_
        rintro e w3 ⟨rfl, hS3⟩
        go_wp2_with fail
        with_reducible refine Calls.mono (ct _) ?_
        rintro e w4 ⟨rfl, hb4⟩
        replace hS3 := hS3.later hb4
        clear c1 hb4
        have c2 := goesA hS3 (phase_any hS3.obj)
        clear hS3
        go_wp2_with fail
        with_reducible refine Calls.mono (c2) ?_
        rintro e w5 ⟨rfl, hS5⟩
        clear c2
        have c3 := goesA hS5 (begin_no hS5.obj (by omega))
        clear hS5
        go_wp2_with fail
        with_reducible refine Calls.mono (c3) ?_
        rintro e w6 ⟨rfl, hS6⟩
        clear c3
        have c4 := goesA hS6 (end_no hS6.obj (by omega))
        clear hS6
        go_wp2_with fail
        with_reducible refine Calls.mono (c4) ?_
        rintro e w7 ⟨rfl, hS7⟩
        replace hS7 := hS7.below
        go_wp2_with fail
        go_ret
        exact ⟨rfl, hS7⟩

set_option maxRecDepth 100000 in
theorem lifted (os : Os) (started : os.Started) (H : Type) (enc : TypeId × Value → H) :
    ReturnsInHanded {} Try.checked os 4 .any (Rows.phaseRoundsSpec.pre6 enc Try.prog Try.f4 Rows.phaseRoundsRow.domain false) (Rows.phaseRoundsSpec.post enc Try.prog Try.f4 false true false false) := by
  refine returnsInHanded_of_change (C := Try.checked) own started (by kernel_rfl) Try.func4
    (ChangeSpec.witness6 (enc := enc) (C := Try.checked) false ⟨#[], #[.int .i64 0, .slice none 0 0], []⟩ 8 (by kernel_rfl) (by kernel_rfl) (by kernel_rfl) (by kernel_rfl)) ?_
  intro W base args ds gs before hval0 hW hcnd _
  have hval : ∀ (j : Nat) t v, Try.f4.params[j]? = some t → args[j]? = some v → Value.okWide Try.prog W .any base t v := hval0
  have hW' := hW
  obtain ⟨p, q, hA0, hV, rfl, hfz, hnd⟩ := hW
  have hA : DataW.TrodAll enc Try.prog W 0 (fun _ => true) true Try.f4.params.toList args.toList ds p := hA0
  rw [Try.params4] at hA hval
  obtain ⟨v0, vs0, d0, ds0, p0, q0, hargs, rfl, rfl, h0, r0⟩ := trodAll_cons hA
  obtain ⟨v1, vs1, d1, ds1, p1, q1, rfl, rfl, rfl, h1, r1⟩ := trodAll_cons r0
  obtain ⟨rfl, rfl, rfl⟩ := trodAll_nil r1
  obtain rfl : args = #[v0, v1] := by cases args; simp_all
  obtain ⟨rfl, rfl⟩ := trodVars_none hV
  obtain ⟨zb1, i1⟩ := op25_arg (hval 1 22 v1 rfl rfl) h1
  obtain ⟨a0, rfl, rfl, rfl, w0⟩ := open_int Try.underlying3 (hval 0 3 v0 rfl rfl) h0
  clear hA0 hval0
  simp only [List.append_nil] at hW'
  have lt1 : ∀ x ∈ p1, x.block < W.heap.size := fun x hx => by have := hW'.lt x (by simp [hx]); simpa using this
  refine (walk a0 v1 zb1 W w0 i1).mono fun e W' ⟨he, hg⟩ => ?_
  subst he
  exact ⟨_, rfl, post_of_kept (pa := _) (pv := []) hW' (fun _ _ _ => (trodAll_cons_mk (shut_bool Try.underlying4 _) trodAll_mk0)) (trodAll_cons_mk (shut_int Try.underlying3 w0) (trodAll_cons_mk (Below.trod laidOut (by kernel_rfl) (of_decide_eq_true (by kernel_rfl)) h1 hg lt1) trodAll_mk0)) (fun _ _ => rfl) (by simp) hg⟩

theorem over : Rows.phaseRoundsRow.holds Try.pinned (OpenSpec.ofChange Rows.phaseRoundsSpec) :=
  OpenClaim.holds_of_wide 4 Try.f4 rfl rfl rfl rfl rfl rfl rfl ⟨rfl, rfl, rfl, rfl, rfl⟩ rfl rfl rfl rfl rfl (by kernel_rfl) Try.func4 (by kernel_rfl)
    (of_decide_eq_true (by kernel_rfl)) (by unfold Func.isWrapper; first | (rw [if_pos (by decide +kernel)]; kernel_rfl) | (rw [if_neg (by decide +kernel)]; exact ⟨rfl, rfl⟩))
    (fun os started H enc _ => lifted os started H enc)

theorem proved : Rows.PhaseRoundsSaid :=
  over
#print axioms proved
end Go.Proofs.Ytikpoldmpmmpiab.phaseRounds
