/- For any two whole numbers the statement PhaseCycles answers true and leaves its arguments as they were: cycle upon cycle phases follow one another, nobody has said anything as a cycle begins, and nothing else may be done out of turn. No condition. -/
import Derived.Test.YtikpoldmpmmpiabHome
import Derived.Test.YtikpoldmpmmpiabPhaseTold
import Derived.WalkKit
import Derived.ProofKit
import Derived.OpenShut
import Derived.Deep.RegionHeld3
import Derived.Deep.RegionWith
import Derived.Deep.Cut
import Derived.Deep.CutBlock
import Derived.Deep.CutRange
import Derived.Deep.DeepCutAuto
import Derived.RegionTactic
namespace Go.Proofs.Ytikpoldmpmmpiab.phaseCycles
open Go.ChangeShapes Go.WideShapes Go.ChangeAt Go.WideElems Go.RowKit Go.Lib Fx Ho Ph
set_option linter.unusedVariables false

theorem own : ownKnob Try.prog.godebug = none := by kernel_rfl

theorem quB_false {ph : Int} {M : List Bool} (h : ph ≠ 1) : quB ph M = false := by
  unfold quB; rw [show (ph == 1) = false by simpa using h]; rfl
/-- The first j have said so. -/
def saidM (n j : Nat) : List Bool := List.replicate j true ++ List.replicate (n - j) false
theorem saidM_len {n j : Nat} (h : j ≤ n) : (saidM n j).length = n := by unfold saidM; simp; omega
theorem saidM_set {n j : Nat} (h : j < n) : (saidM n j).set j true = saidM n (j + 1) := by
  unfold saidM
  rw [List.set_append_right _ _ (by simp), List.length_replicate, Nat.sub_self, show n - j = (n - (j + 1)) + 1 by omega, List.replicate_succ, List.set_cons_zero, List.replicate_succ', List.append_assoc]; rfl
theorem saidM_quiet {n j : Nat} (h : j < n) : quB 1 (saidM n j) = false := by
  unfold quB saidM
  have : (List.replicate j true ++ List.replicate (n - j) false).contains false = true := by
    rw [List.contains_iff_mem, List.mem_append]; right; rw [List.mem_replicate]; exact ⟨by omega, rfl⟩
  rw [this]; rfl
theorem saidM_all (n : Nat) : quB 1 (saidM n n) = true := by
  unfold quB saidM
  have : (List.replicate n true ++ List.replicate (n - n) false).contains false = false := by
    rw [Nat.sub_self, List.replicate_zero, List.append_nil]
    cases h : (List.replicate n true).contains false with
    | false => rfl
    | true => rw [List.contains_iff_mem, List.mem_replicate] at h; exact absurd h.2 (by simp)
  rw [this]; rfl
set_option maxRecDepth 100000 in
set_option maxHeartbeats 4000000 in
theorem walk (a0 : Int) (a1 : Int) (w : World) (w0 : (Lit.int .i64 a0).wf = true) (w1 : (Lit.int .i64 a1).wf = true) :
    Calls Try.prog 5 #[.int .i64 a0, .int .i64 a1] w fun e w' => e = .returned (.bool true) ∧ Below w.heap.size w w' := by
  obtain ⟨Y, hY⟩ : ∃ Y : Int, IntKind.u64.wrap a0 = Y := ⟨_, rfl⟩
  have y0 : 0 ≤ Y := by rw [← hY, IntKind.wrap_u64]; omega
  obtain ⟨Z, hZ⟩ : ∃ Z : Int, IntKind.u64.wrap a1 = Z := ⟨_, rfl⟩
  have z0 : 0 ≤ Z := by rw [← hZ, IntKind.wrap_u64]; omega
  obtain ⟨n, hn⟩ : ∃ n : Nat, 1 + Y % 20 = (n : Int) := ⟨(1 + Y % 20).toNat, by omega⟩
  obtain ⟨k, hk⟩ : ∃ k : Nat, 1 + Z % 10 = (k : Int) := ⟨(1 + Z % 10).toNat, by omega⟩
  have n1 : 1 ≤ n := by omega
  have n2 : n ≤ 20 := by omega
  have k2 : k ≤ 10 := by omega
  have ct := fun w => told_any w
  have cn := se_new n w n1 (by omega)
  clear w0 w1
  go_enter Try.func5, Try.ntmps5
  go_wp2_with fail
  with_reducible refine Calls.mono (cn) ?_
  rintro e w1 ⟨p, g, rfl, h1⟩
  clear cn
  replace h1 : Hid (∃ M, M.length = n ∧ Se w w1 p g 0 ((0 : Nat) : Int) 0 M) := ⟨_, List.length_replicate, h1⟩
  go_wp2_with fail
  clear hY hZ hn hk y0 z0
  go_loopw [9] (fun c wr => ∃ q : Nat, c = .int .i64 ((q : Int) + 1) ∧ q ≤ k ∧ Hid (∃ M, M.length = n ∧ Se w wr p g 0 (q : Int) 0 M)) (fun c _ => (k + 1 - (RowKit.intOf c).toNat))
  case atStart => exact ⟨0, rfl, by omega, h1⟩
  case round =>
    obtain ⟨q, rfl, qk, hM⟩ := hrel
    clear h1
    by_cases hq : q < k
    · have i2 : (q : Int) + 1 ≤ (k : Int) := by omega
      obtain ⟨M, hl, h2⟩ := hM
      replace hl := Lib.hid hl
      have cc := goesA h2 (term_no h2.obj (quB_false (by omega)))
      clear h2
      go_wp2_with fail
      with_reducible refine Calls.mono (cc) ?_
      rintro e w2 ⟨rfl, g1⟩
      clear cc
      replace g1 : Se w w2 p g 0 (q : Int) 0 M := g1
      generalize w2 = w3 at *
      have cc := goesA g1 (sweep_no g1.obj (by omega))
      clear g1
      go_wp2_with fail
      with_reducible refine Calls.mono (cc) ?_
      rintro e w2 ⟨rfl, g2⟩
      clear cc
      replace g2 : Se w w2 p g 0 (q : Int) 0 M := g2
      generalize w2 = w3 at *
      have cc := goesA g2 (end_no g2.obj (by omega))
      clear g2
      go_wp2_with fail
      with_reducible refine Calls.mono (cc) ?_
      rintro e w2 ⟨rfl, g3⟩
      clear cc
      replace g3 : Se w w2 p g 0 (q : Int) 0 M := g3
      generalize w2 = w3 at *
      have cc := goesA g3 (say_state g3.obj 0 true false (by rw [hl.out]; omega) (by omega))
      clear g3
      go_wp2_with fail
      with_reducible refine Calls.mono (cc) ?_
      rintro e w2 ⟨rfl, g4⟩
      clear cc
      replace g4 : Se w w2 p g 0 (q : Int) 0 M := g4
      generalize w2 = w3 at *
      have cc := goesA g4 ((quB_false (ph := 0) (M := M) (by omega)) ▸ quiet_any g4.obj)
      clear g4
      go_wp2_with fail
      with_reducible refine Calls.mono (cc) ?_
      rintro e w2 ⟨rfl, g5⟩
      clear cc
      replace g5 : Se w w2 p g 0 (q : Int) 0 M := g5
      generalize w2 = w3 at *
      have hbg := goes g5 (begin_off g5.obj (by omega))
      rw [show List.replicate M.length false = saidM n 0 by rw [hl.out]; rfl] at hbg
      clear g5 hl
      go_wp2_with fail
      with_reducible refine Calls.mono (hbg) ?_
      rintro e w2 ⟨rfl, hb0⟩
      clear hbg
      generalize w2 = w3 at *
      have cc := goesA hb0 (begin_no hb0.obj (by omega))
      clear hb0
      go_wp2_with fail
      with_reducible refine Calls.mono (cc) ?_
      rintro e w2 ⟨rfl, g6⟩
      clear cc
      replace g6 : Se w w2 p g 1 ((q : Int) + 1) 0 (saidM n 0) := g6
      generalize w2 = w3 at *
      have cc := goesA g6 (cycle_any g6.obj)
      clear g6
      go_wp2_with fail
      with_reducible refine Calls.mono (cc) ?_
      rintro e w2 ⟨rfl, g7⟩
      clear cc
      replace g7 : Se w w2 p g 1 ((q : Int) + 1) 0 (saidM n 0) := g7
      generalize w2 = w3 at *
      have cc := goesA g7 (restarts_any g7.obj)
      clear g7
      go_wp2_with fail
      with_reducible refine Calls.mono (cc) ?_
      rintro e w2 ⟨rfl, g8⟩
      clear cc
      replace g8 : Se w w2 p g 1 ((q : Int) + 1) 0 (saidM n 0) := g8
      generalize w2 = w3 at *
      replace g8 := Lib.hid g8
      go_wp2_with fail
      go_loopw [10] (fun i wr => ∃ j : Nat, i = .int .i64 j ∧ j ≤ n ∧ Hid (Se w wr p g 1 ((q : Int) + 1) 0 (saidM n j))) (fun i _ => (n - (RowKit.intOf i).toNat))
      case atStart => exact ⟨0, rfl, by omega, g8⟩
      case round =>
        obtain ⟨j, rfl, jn, hS⟩ := hrel
        clear g8
        replace hS := hS.out
        by_cases hj : j < n
        · have i3 : (j : Int) < (n : Int) := by omega
          have cc := goesA hS ((saidM_quiet hj) ▸ quiet_any hS.obj)
          clear hS
          go_wp2_with fail
          with_reducible refine Calls.mono (cc) ?_
          rintro e w2 ⟨rfl, g9⟩
          clear cc
          replace g9 : Se w w2 p g 1 ((q : Int) + 1) 0 (saidM n j) := g9
          generalize w2 = w3 at *
          have cc := goesA g9 (term_no g9.obj (saidM_quiet hj))
          clear g9
          go_wp2_with fail
          with_reducible refine Calls.mono (cc) ?_
          rintro e w2 ⟨rfl, g10⟩
          clear cc
          replace g10 : Se w w2 p g 1 ((q : Int) + 1) 0 (saidM n j) := g10
          generalize w2 = w3 at *
          have hst := goes g10 (say_yes g10.obj j (by rw [saidM_len (by omega)]; exact hj))
          rw [saidM_set hj] at hst
          clear g10
          go_wp2_with fail
          with_reducible refine Calls.mono (hst) ?_
          rintro e w2 ⟨rfl, hn2⟩
          clear hst
          replace hn2 := Lib.hid hn2
          go_wp2_with fail
          go_roundw
          case rel => exact ⟨j + 1, by go_num, by omega, hn2⟩
          case measure => simp [RowKit.intOf]; omega
        · obtain rfl : j = n := by omega
          have i3 : ¬ (j : Int) < (j : Int) := by omega
          have cc := goesA hS ((saidM_all j) ▸ quiet_any hS.obj)
          clear hS
          go_wp2_with fail
          with_reducible refine Calls.mono (cc) ?_
          rintro e w2 ⟨rfl, g11⟩
          clear cc
          replace g11 : Se w w2 p g 1 ((q : Int) + 1) 0 (saidM j j) := g11
          generalize w2 = w3 at *
          have cc := goesA g11 (say_arg g11.obj j true false (Or.inr (by rw [saidM_len (Nat.le_refl _)]; exact Int.le_refl _)))
          clear g11
          go_wp2_with fail
          with_reducible refine Calls.mono (cc) ?_
          rintro e w2 ⟨rfl, g12⟩
          clear cc
          replace g12 : Se w w2 p g 1 ((q : Int) + 1) 0 (saidM j j) := g12
          generalize w2 = w3 at *
          have cc := goes g12 (term_yes g12.obj (saidM_all j))
          clear g12
          go_wp2_with fail
          with_reducible refine Calls.mono (cc) ?_
          rintro e w2 ⟨rfl, g13⟩
          clear cc
          replace g13 : Se w w2 p g 2 ((q : Int) + 1) 0 (saidM j j) := g13
          generalize w2 = w3 at *
          have cc := goesA g13 ((quB_false (ph := 2) (M := saidM j j) (by omega)) ▸ quiet_any g13.obj)
          clear g13
          go_wp2_with fail
          with_reducible refine Calls.mono (cc) ?_
          rintro e w2 ⟨rfl, g14⟩
          clear cc
          replace g14 : Se w w2 p g 2 ((q : Int) + 1) 0 (saidM j j) := g14
          generalize w2 = w3 at *
          have cc := goesA g14 (say_state g14.obj 0 false false (by rw [saidM_len (Nat.le_refl _)]; omega) (by omega))
          clear g14
          go_wp2_with fail
          with_reducible refine Calls.mono (cc) ?_
          rintro e w2 ⟨rfl, g15⟩
          clear cc
          replace g15 : Se w w2 p g 2 ((q : Int) + 1) 0 (saidM j j) := g15
          generalize w2 = w3 at *
          have cc := goes g15 (sweep_yes g15.obj)
          clear g15
          go_wp2_with fail
          with_reducible refine Calls.mono (cc) ?_
          rintro e w2 ⟨rfl, g16⟩
          clear cc
          replace g16 : Se w w2 p g 3 ((q : Int) + 1) 0 (saidM j j) := g16
          generalize w2 = w3 at *
          have cc := goesA g16 (phase_any g16.obj)
          clear g16
          go_wp2_with fail
          with_reducible refine Calls.mono (cc) ?_
          rintro e w2 ⟨rfl, g17⟩
          clear cc
          replace g17 : Se w w2 p g 3 ((q : Int) + 1) 0 (saidM j j) := g17
          generalize w2 = w3 at *
          have cc := goes g17 (end_yes g17.obj)
          clear g17
          go_wp2_with fail
          with_reducible refine Calls.mono (cc) ?_
          rintro e w2 ⟨rfl, g18⟩
          clear cc
          replace g18 : Se w w2 p g 0 ((q : Int) + 1) 0 (saidM j j) := g18
          generalize w2 = w3 at *
          have cc := goesA g18 (phase_any g18.obj)
          clear g18
          go_wp2_with fail
          with_reducible refine Calls.mono (cc) ?_
          rintro e w2 ⟨rfl, g19⟩
          clear cc
          replace g19 : Se w w2 p g 0 ((q : Int) + 1) 0 (saidM j j) := g19
          generalize w2 = w3 at *
          replace g19 : Hid (∃ M, M.length = j ∧ Se w w3 p g 0 ((q + 1 : Nat) : Int) 0 M) := ⟨_, saidM_len (Nat.le_refl _), by rw [Int.natCast_add]; exact g19⟩
          go_wp2_with fail
          go_roundw
          case rel => exact ⟨q + 1, by go_num, by omega, g19⟩
          case measure => simp [RowKit.intOf]; omega
    · obtain rfl : q = k := by omega
      obtain ⟨M, hl, h2⟩ := hM
      replace h2 := h2.below
      clear hl
      have i2 : ¬ (q : Int) + 1 ≤ (q : Int) := by omega
      have c1 := nil_begin
      have c2 := nil_phase
      have c3 := nil_cycle
      have c4 := nil_quiet
      go_wp2_with fail
      with_reducible refine Calls.mono (ct _) ?_
      rintro e w3 ⟨rfl, hb3⟩
      go_wp2_with fail
      with_reducible refine Calls.mono (c1 _) ?_
      rintro e w4 ⟨rfl, m4, rfl⟩
      go_wp2_with fail
      with_reducible refine Calls.mono (c2 _) ?_
      rintro e w5 ⟨rfl, m5, rfl⟩
      go_wp2_with fail
      with_reducible refine Calls.mono (c3 _) ?_
      rintro e w6 ⟨rfl, m6, rfl⟩
      go_wp2_with fail
      with_reducible refine Calls.mono (c4 _) ?_
      rintro e w7 ⟨rfl, m7, rfl⟩
      go_wp2_with fail
      go_ret
      exact ⟨rfl, (by repeat (first | assumption | exact Below.refl _ _ | refine below_drewN ?_ _ | refine below_alloc ?_ _ | refine below_then ?_ (by assumption)))⟩

set_option maxRecDepth 100000 in
theorem lifted (os : Os) (started : os.Started) (H : Type) (enc : TypeId × Value → H) :
    ReturnsInHanded {} Try.checked os 5 .any (Rows.phaseCyclesSpec.pre6 enc Try.prog Try.f5 Rows.phaseCyclesRow.domain false) (Rows.phaseCyclesSpec.post enc Try.prog Try.f5 false true false false) := by
  refine returnsInHanded_of_change (C := Try.checked) own started (by kernel_rfl) Try.func5
    (ChangeSpec.witness6 (enc := enc) (C := Try.checked) false ⟨#[], #[.int .i64 0, .int .i64 0], []⟩ 8 (by kernel_rfl) (by kernel_rfl) (by kernel_rfl) (by kernel_rfl)) ?_
  intro W base args ds gs before hval0 hW hcnd _
  have hval : ∀ (j : Nat) t v, Try.f5.params[j]? = some t → args[j]? = some v → Value.okWide Try.prog W .any base t v := hval0
  have hW' := hW
  obtain ⟨p, q, hA0, hV, rfl, hfz, hnd⟩ := hW
  have hA : DataW.TrodAll enc Try.prog W 0 (fun _ => true) true Try.f5.params.toList args.toList ds p := hA0
  rw [Try.params5] at hA hval
  obtain ⟨v0, vs0, d0, ds0, p0, q0, hargs, rfl, rfl, h0, r0⟩ := trodAll_cons hA
  obtain ⟨v1, vs1, d1, ds1, p1, q1, rfl, rfl, rfl, h1, r1⟩ := trodAll_cons r0
  obtain ⟨rfl, rfl, rfl⟩ := trodAll_nil r1
  obtain rfl : args = #[v0, v1] := by cases args; simp_all
  obtain ⟨rfl, rfl⟩ := trodVars_none hV
  obtain ⟨a0, rfl, rfl, rfl, w0⟩ := open_int Try.underlying3 (hval 0 3 v0 rfl rfl) h0
  obtain ⟨a1, rfl, rfl, rfl, w1⟩ := open_int Try.underlying3 (hval 1 3 v1 rfl rfl) h1
  clear hA0 hval0
  simp only [List.append_nil] at hW'
  refine (walk a0 a1 W w0 w1).mono fun e W' ⟨he, hg⟩ => ?_
  subst he
  exact ⟨_, rfl, post_of_kept (pa := _) (pv := []) hW' (fun _ _ _ => (trodAll_cons_mk (shut_bool Try.underlying4 _) trodAll_mk0)) (trodAll_cons_mk (shut_int Try.underlying3 w0) (trodAll_cons_mk (shut_int Try.underlying3 w1) trodAll_mk0)) (fun _ _ => rfl) (by simp) hg⟩

theorem over : Rows.phaseCyclesRow.holds Try.pinned (OpenSpec.ofChange Rows.phaseCyclesSpec) :=
  OpenClaim.holds_of_wide 5 Try.f5 rfl rfl rfl rfl rfl rfl rfl ⟨rfl, rfl, rfl, rfl, rfl⟩ rfl rfl rfl rfl rfl (by kernel_rfl) Try.func5 (by kernel_rfl)
    (of_decide_eq_true (by kernel_rfl)) (by unfold Func.isWrapper; first | (rw [if_pos (by decide +kernel)]; kernel_rfl) | (rw [if_neg (by decide +kernel)]; exact ⟨rfl, rfl⟩))
    (fun os started H enc _ => lifted os started H enc)

theorem proved : Rows.PhaseCyclesSaid :=
  over
#print axioms proved
end Go.Proofs.Ytikpoldmpmmpiab.phaseCycles
