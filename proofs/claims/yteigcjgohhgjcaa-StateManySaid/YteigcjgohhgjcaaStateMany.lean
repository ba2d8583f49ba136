/- For any two whole numbers the statement StateMany answers true and leaves its arguments as they were: of 1,020 to 1,030 goroutines that are begun, every so many brought to their end at once, the first 1,024 have their numbers in order, the others are told that there is no room; the dead are counted. No condition. -/
import Derived.Test.YteigcjgohhgjcaaStatesMore
import Derived.WalkKit
import Derived.ProofKit
import Derived.OpenShut
import Derived.Deep.RegionHeld3
import Derived.Deep.RegionWith
import Derived.Deep.Cut
import Derived.Deep.CutBlock
import Derived.Deep.CutRange
import Derived.Deep.DeepCutAuto
import Derived.RegionTactic
namespace Go.Proofs.Yteigcjgohhgjcaa.stateMany
open Go.ChangeShapes Go.WideShapes Go.ChangeAt Go.WideElems Go.RowKit Go.Lib Fx Ho St
set_option linter.unusedVariables false

theorem own : ownKnob Try.prog.godebug = none := by kernel_rfl

/-- n goroutines, every so-manieth of them dead. -/
def manyL (e : Nat) : Nat → List Int
  | 0 => []
  | n + 1 => manyL e n ++ [if n % e = 0 then 5 else 1]
theorem many_len (e : Nat) : ∀ n, (manyL e n).length = n
  | 0 => rfl
  | n + 1 => by show (manyL e n ++ _).length = _; rw [List.length_append, many_len e n]; rfl
theorem many_cnt (s : Nat) (hs : s ≤ 8) : ∀ n, cnt (manyL (s + 1) n) 5 = (((n + s) / (s + 1) : Nat) : Int)
  | 0 => by
    rw [show (0 + s) / (s + 1) = 0 from Nat.div_eq_of_lt (by omega)]; rfl
  | n + 1 => by
    have e1 : cnt (manyL (s + 1) (n + 1)) 5 = cnt (manyL (s + 1) n) 5 + (if n % (s + 1) = 0 then 1 else 0) := by
      show cnt (manyL (s + 1) n ++ _) 5 = _
      rw [cnt_app]
      by_cases h : n % (s + 1) = 0 <;> simp [cnt, h]
    rw [e1, many_cnt s hs n]
    have e2 : (n + 1 + s) / (s + 1) = (n + s) / (s + 1) + (if n % (s + 1) = 0 then 1 else 0) := by
      rcases (show s = 0 ∨ s = 1 ∨ s = 2 ∨ s = 3 ∨ s = 4 ∨ s = 5 ∨ s = 6 ∨ s = 7 ∨ s = 8 by omega) with rfl | rfl | rfl | rfl | rfl | rfl | rfl | rfl | rfl
      all_goals (split <;> omega)
    rw [e2]
    split <;> omega
theorem get_last (L : List Int) (x : Int) {i : Nat} (h : L.length = i) : (L ++ [x]).getD i 0 = x := by
  subst h; simp
theorem set_last (L : List Int) (x y : Int) {i : Nat} (h : L.length = i) : (L ++ [x]).set i y = L ++ [y] := by
  subst h; rw [List.set_append_right _ _ (Nat.le_refl _)]; simp
set_option maxRecDepth 100000 in
set_option maxHeartbeats 4000000 in
theorem walk (a0 : Int) (a1 : Int) (w : World) (w0 : (Lit.int .i64 a0).wf = true) (w1 : (Lit.int .i64 a1).wf = true) :
    Calls Try.prog 13 #[.int .i64 a0, .int .i64 a1] w fun e w' => e = .returned (.bool true) ∧ Below w.heap.size w w' := by
  have ct := fun w => told_any w
  have cn := ss_new w
  obtain ⟨p, hp⟩ : ∃ p, w.heap.size = p := ⟨_, rfl⟩
  rw [hp] at cn
  clear hp
  obtain ⟨Y, hY⟩ : ∃ Y : Int, IntKind.u64.wrap a0 = Y := ⟨_, rfl⟩
  obtain ⟨Z, hZ⟩ : ∃ Z : Int, IntKind.u64.wrap a1 = Z := ⟨_, rfl⟩
  have y0 : 0 ≤ Y := by rw [← hY, IntKind.wrap_u64]; omega
  have z0 : 0 ≤ Z := by rw [← hZ, IntKind.wrap_u64]; omega
  obtain ⟨q, hq⟩ : ∃ q : Nat, Y % 11 = (q : Int) := ⟨(Y % 11).toNat, by omega⟩
  obtain ⟨s, hs⟩ : ∃ s : Nat, Z % 9 = (s : Int) := ⟨(Z % 9).toNat, by omega⟩
  have q1 : q ≤ 10 := by omega
  have s1 : s ≤ 8 := by omega
  go_enter Try.func13, Try.ntmps13
  go_wp2_with fail
  with_reducible refine Calls.mono (cn) ?_
  rintro e w1 ⟨rfl, hs1⟩
  replace hs1 := Lib.hid hs1
  clear cn
  go_wp2_with fail
  clear hY hZ hq hs
  go_loopw [8] (fun i wr => ∃ k : Nat, i = .int .i64 k ∧ k ≤ 1020 + q ∧ ∃ v, Hid (Ss w wr p v (manyL (s + 1) (min k 1024)))) (fun i _ => (1020 + q - (intOf i).toNat))
  case atStart => exact ⟨0, rfl, by omega, _, hs1⟩
  case round =>
    obtain ⟨i, rfl, i1, v, hS⟩ := hrel
    clear hs1
    by_cases hi : i < 1020 + q
    · have i2 : (i : Int) < 1020 + (q : Int) := by omega
      by_cases h4 : i < 1024
      · have hm : min i 1024 = i := by omega
        have hl := many_len (s + 1) i
        rw [hm] at hS
        have cs := ss_spawn hS.out (by omega)
        rw [hl] at cs
        have d4 : decide ((i : Int) < 1024) = true := decide_eq_true (by omega)
        have d5 : decide (1024 ≤ (i : Int)) = false := decide_eq_false (by omega)
        replace hl := Lib.hid hl
        by_cases hd : i % (s + 1) = 0
        · have hd2 : (i : Int) % (1 + (s : Int)) = 0 := by
            have : ((i % (s + 1) : Nat) : Int) = 0 := by rw [hd]; rfl
            rw [Int.natCast_emod] at this
            rw [show (1 : Int) + (s : Int) = ((s + 1 : Nat) : Int) by omega]; exact this
          have hnx : Hid (manyL (s + 1) (min (i + 1) 1024) = manyL (s + 1) i ++ [5]) := by
            rw [show min (i + 1) 1024 = i + 1 by omega]; show manyL (s + 1) i ++ _ = _; rw [if_pos hd]
          replace hd := Lib.hid hd
          clear hm hS h4
          go_wp2_with fail
          with_reducible refine Calls.mono (cs) ?_
          rintro e w2 ⟨rfl, v2, hs2⟩
          clear cs
          have cs := ss_move i 2 hs2 (by rw [List.length_append, hl.out]; simp) (by rw [get_last _ _ hl.out]; decide)
          rw [set_last _ _ _ hl.out] at cs
          go_wp2_with fail
          with_reducible refine Calls.mono (cs) ?_
          rintro e w3 ⟨rfl, v3, hs3⟩
          clear cs hs2
          have cs := ss_move i 5 hs3 (by rw [List.length_append, hl.out]; simp) (by rw [get_last _ _ hl.out]; decide)
          rw [set_last _ _ _ hl.out] at cs
          go_wp2_with fail
          with_reducible refine Calls.mono (cs) ?_
          rintro e w4 ⟨rfl, v4, hs4⟩
          rw [← hnx.out] at hs4
          replace hs4 := Lib.hid hs4
          clear cs hs3 hnx
          go_wp2_with fail
          go_roundw
          case rel => exact ⟨i + 1, by go_num, by omega, _, hs4⟩
          case measure => simp [intOf]; omega
        · have hd2 : ((i : Int) % (1 + (s : Int)) == 0) = false := by
            rw [beq_eq_false_iff_ne]; intro h0
            rw [show (1 : Int) + (s : Int) = ((s + 1 : Nat) : Int) by omega, ← Int.natCast_emod] at h0
            omega
          have hnx : Hid (manyL (s + 1) (min (i + 1) 1024) = manyL (s + 1) i ++ [1]) := by
            rw [show min (i + 1) 1024 = i + 1 by omega]; show manyL (s + 1) i ++ _ = _; rw [if_neg hd]
          replace hd := Lib.hid hd
          clear hm hS h4
          go_wp2_with fail
          with_reducible refine Calls.mono (cs) ?_
          rintro e w2 ⟨rfl, v2, hs2⟩
          rw [← hnx.out] at hs2
          replace hs2 := Lib.hid hs2
          clear cs hnx
          go_wp2_with fail
          go_roundw
          case rel => exact ⟨i + 1, by go_num, by omega, _, hs2⟩
          case measure => simp [intOf]; omega
      · have hm : min i 1024 = 1024 := by omega
        have hnx : min (i + 1) 1024 = 1024 := by omega
        have hl := many_len (s + 1) 1024
        rw [hm] at hS
        have cs := ss_full hS.out hl
        have d4 : decide ((i : Int) < 1024) = false := decide_eq_false (by omega)
        have d5 : decide (1024 ≤ (i : Int)) = true := decide_eq_true (by omega)
        replace hl := Lib.hid hl
        replace hnx := Lib.hid hnx
        clear hm hS h4
        go_wp2_with fail
        with_reducible refine Calls.mono (cs) ?_
        rintro e w2 ⟨rfl, hs2⟩
        replace hs2 := Lib.hid hs2
        clear cs
        go_wp2_with fail
        go_roundw
        case rel => exact ⟨i + 1, by go_num, by omega, _, by rw [hnx.out]; exact hs2⟩
        case measure => simp [intOf]; omega
    · obtain rfl : i = 1020 + q := by omega
      have ce := spawn_nil wr
      have hl := many_len (s + 1) (min (1020 + q) 1024)
      have hc := many_cnt s s1 (min (1020 + q) 1024)
      have c1 : Hid (∀ W p v, Ss w W p v (manyL (s + 1) (min (1020 + q) 1024)) → Calls Try.prog 43 #[.pointer (some ⟨p, 0, none⟩)] W (Still (.int .i64 ((min (1020 + q) 1024 : Nat) : Int)) W)) := fun W p v h => by
        have := len_any W h.st; rwa [hl] at this
      have c2 : Hid (∀ W p v, Ss w W p v (manyL (s + 1) (min (1020 + q) 1024)) → Calls Try.prog 42 #[.pointer (some ⟨p, 0, none⟩), .int .i64 5] W (Still (.int .i64 (((min (1020 + q) 1024 + s) / (s + 1) : Nat) : Int)) W)) := fun W p v h => by
        have := count_yes 5 (by decide) W h.st; rwa [hc] at this
      have c3 := fun W => of_nil 0 W
      have c4 := fun W => len_nil W
      obtain ⟨M, hM⟩ : ∃ M : Nat, min (1020 + q) 1024 = M := ⟨_, rfl⟩
      have hM2 : (if (1024 : Int) < 1020 + (q : Int) then (1024 : Int) else 1020 + (q : Int)) = (M : Int) := by split <;> omega
      have hM3 : M ≤ 1024 := by omega
      have hQ : ((M : Int) + (1 + (s : Int)) - 1) / (1 + (s : Int)) = (((M + s) / (s + 1) : Nat) : Int) := by
        rw [Int.natCast_ediv, show (M : Int) + (1 + (s : Int)) - 1 = ((M + s : Nat) : Int) by omega, show (1 : Int) + (s : Int) = ((s + 1 : Nat) : Int) by omega]
      have hy : ¬ (1 + (s : Int)) = 0 := by omega
      have hy2 : ((1 + (s : Int)) == 0) = false := by rw [beq_eq_false_iff_ne]; omega
      have hy3 : (0 : Int) ≤ (M : Int) + (1 + (s : Int)) - 1 := by omega
      have hy4 : (0 : Int) < 1 + (s : Int) := by omega
      have hQ2 : IntKind.i64.wrap ((IntKind.i64.wrap (IntKind.i64.wrap ((M : Int) + (1 + (s : Int))) - 1)).tdiv (1 + (s : Int))) = (((M + s) / (s + 1) : Nat) : Int) := by
        rw [IntWalk.i64_in ((M : Int) + (1 + (s : Int))) ⟨by omega, by omega⟩, IntWalk.i64_in ((M : Int) + (1 + (s : Int)) - 1) ⟨by omega, by omega⟩, Int.tdiv_eq_ediv_of_nonneg hy3, hQ]
        have : (M + s) / (s + 1) ≤ M + s := Nat.div_le_self _ _
        generalize (M + s) / (s + 1) = D at this ⊢
        exact IntWalk.i64_in _ ⟨by omega, by omega⟩
      clear hQ
      rw [hM] at c1 c2 hl hc hS
      clear hl hc hM
      generalize manyL (s + 1) M = ML at *
      generalize (((M + s) / (s + 1) : Nat) : Int) = QQ at *
      go_wp2_with fail
      with_reducible refine Calls.mono (ce) ?_
      rintro e w2 ⟨rfl, rfl⟩
      go_wp2_with fail
      go_region_held3 (fun W' => Ss w W' p v ML) (first | exact hS.out.below (Below.refl _ _).drew | assumption | exact Ss.below (by assumption) (by assumption)) (first | (go_at_call 45; ((with_reducible refine (ct _).mono ?_); rintro e w' ⟨rfl, hb⟩)) | (go_at_call 43; ((with_reducible refine (c1.out _ _ _ (by assumption)).mono ?_); rintro e w' ⟨rfl, rfl⟩)) | (go_at_call 43; ((with_reducible refine (c4 _).mono ?_); rintro e w' ⟨rfl, rfl⟩)) | (go_at_call 42; ((with_reducible refine (c2.out _ _ _ (by assumption)).mono ?_); rintro e w' ⟨rfl, rfl⟩)) | (go_at_call 44; ((with_reducible refine (c3 _).mono ?_); rintro e w' ⟨rfl, rfl⟩)))
      all_goals go_wp2_with fail
      all_goals go_ret
      all_goals exact ⟨rfl, Ss.bel (by assumption)⟩

set_option maxRecDepth 100000 in
theorem lifted (os : Os) (started : os.Started) (H : Type) (enc : TypeId × Value → H) :
    ReturnsInHanded {} Try.checked os 13 .any (Rows.stateManySpec.pre6 enc Try.prog Try.f13 Rows.stateManyRow.domain false) (Rows.stateManySpec.post enc Try.prog Try.f13 false true false false) := by
  refine returnsInHanded_of_change (C := Try.checked) own started (by kernel_rfl) Try.func13
    (ChangeSpec.witness6 (enc := enc) (C := Try.checked) false ⟨#[], #[.int .i64 0, .int .i64 0], []⟩ 8 (by kernel_rfl) (by kernel_rfl) (by kernel_rfl) (by kernel_rfl)) ?_
  intro W base args ds gs before hval0 hW hcnd _
  have hval : ∀ (j : Nat) t v, Try.f13.params[j]? = some t → args[j]? = some v → Value.okWide Try.prog W .any base t v := hval0
  have hW' := hW
  obtain ⟨p, q, hA0, hV, rfl, hfz, hnd⟩ := hW
  have hA : DataW.TrodAll enc Try.prog W 0 (fun _ => true) true Try.f13.params.toList args.toList ds p := hA0
  rw [Try.params13] at hA hval
  obtain ⟨v0, vs0, d0, ds0, p0, q0, hargs, rfl, rfl, h0, r0⟩ := trodAll_cons hA
  obtain ⟨v1, vs1, d1, ds1, p1, q1, rfl, rfl, rfl, h1, r1⟩ := trodAll_cons r0
  obtain ⟨rfl, rfl, rfl⟩ := trodAll_nil r1
  obtain rfl : args = #[v0, v1] := by cases args; simp_all
  obtain ⟨rfl, rfl⟩ := trodVars_none hV
  obtain ⟨a0, rfl, rfl, rfl, w0⟩ := open_int Try.underlying3 (hval 0 3 v0 rfl rfl) h0
  obtain ⟨a1, rfl, rfl, rfl, w1⟩ := open_int Try.underlying3 (hval 1 3 v1 rfl rfl) h1
  clear hA0 hval0
  simp only [List.append_nil] at hW'
  refine (walk a0 a1 W w0 w1).mono fun e W' ⟨he, hg⟩ => ?_
  subst he
  exact ⟨_, rfl, post_of_kept (pa := _) (pv := []) hW' (fun _ _ _ => (trodAll_cons_mk (shut_bool Try.underlying4 _) trodAll_mk0)) (trodAll_cons_mk (shut_int Try.underlying3 w0) (trodAll_cons_mk (shut_int Try.underlying3 w1) trodAll_mk0)) (fun _ _ => rfl) (by simp) hg⟩

theorem over : Rows.stateManyRow.holds Try.pinned (OpenSpec.ofChange Rows.stateManySpec) :=
  OpenClaim.holds_of_wide 13 Try.f13 rfl rfl rfl rfl rfl rfl rfl ⟨rfl, rfl, rfl, rfl, rfl⟩ rfl rfl rfl rfl rfl (by kernel_rfl) Try.func13 (by kernel_rfl)
    (of_decide_eq_true (by kernel_rfl)) (by unfold Func.isWrapper; first | (rw [if_pos (by decide +kernel)]; kernel_rfl) | (rw [if_neg (by decide +kernel)]; exact ⟨rfl, rfl⟩))
    (fun os started H enc _ => lifted os started H enc)

theorem proved : Rows.StateManySaid :=
  over
#print axioms proved
end Go.Proofs.Yteigcjgohhgjcaa.stateMany
