/- For any three whole numbers the statement QueueFair answers true and leaves its arguments as they were: of up to 500 goroutines that are put one by one, each answer tells the next ones in their order, at most a P's part and one, at most what was asked, at most 128; at the end all were told and nothing is left. No condition. -/
import Derived.Test.YteigcjgohhgjcaaQueueMore
import Derived.Test.YteigcjgohhgjcaaQueueTold
import Derived.WalkKit
import Derived.ProofKit
import Derived.OpenShut
import Derived.Deep.RegionHeld3
import Derived.Deep.RegionWith
import Derived.Deep.Cut
import Derived.Deep.CutBlock
import Derived.Deep.CutRange
import Derived.Deep.DeepCutAuto
import Derived.RegionTactic
namespace Go.Proofs.Yteigcjgohhgjcaa.queueFair
open Go.ChangeShapes Go.WideShapes Go.ChangeAt Go.WideElems Go.RowKit Go.Lib Fx Ho Qu Qu
set_option linter.unusedVariables false

theorem own : ownKnob Try.prog.godebug = none := by kernel_rfl

/-- t, t + 1, .. : r numbers. -/
def up : Nat → Nat → List Int
  | _, 0 => []
  | t, r + 1 => (t : Int) :: up (t + 1) r
theorem up_len : ∀ t r, (up t r).length = r
  | _, 0 => rfl
  | t, r + 1 => by show (up (t + 1) r).length + 1 = _; rw [up_len]
theorem up_get : ∀ t r i, i < r → (up t r).getD i 0 = ((t + i : Nat) : Int)
  | _, 0, i, h => by omega
  | t, r + 1, 0, _ => rfl
  | t, r + 1, i + 1, h => by
    show (up (t + 1) r).getD i 0 = _
    rw [up_get (t + 1) r i (by omega), show t + 1 + i = t + (i + 1) by omega]
theorem up_drop : ∀ n t r, n ≤ r → (up t r).drop n = up (t + n) (r - n)
  | 0, t, r, _ => rfl
  | n + 1, t, 0, h => by omega
  | n + 1, t, r + 1, h => by
    show (up (t + 1) r).drop n = _
    rw [up_drop n (t + 1) r (by omega), show t + 1 + n = t + (n + 1) by omega, show r + 1 - (n + 1) = r - n by omega]
theorem up_take : ∀ n t r, n ≤ r → (up t r).take n = up t n
  | 0, t, r, _ => by simp [up]
  | n + 1, t, 0, h => by omega
  | n + 1, t, r + 1, h => by
    show (t : Int) :: (up (t + 1) r).take n = _
    rw [up_take n (t + 1) r (by omega)]; rfl
theorem up_snoc : ∀ t r, up t r ++ [((t + r : Nat) : Int)] = up t (r + 1)
  | t, 0 => rfl
  | t, r + 1 => by
    show (t : Int) :: (up (t + 1) r ++ [((t + (r + 1) : Nat) : Int)]) = (t : Int) :: up (t + 1) (r + 1)
    rw [← up_snoc (t + 1) r, show t + 1 + r = t + (r + 1) by omega]
set_option maxRecDepth 100000 in
set_option maxHeartbeats 4000000 in
theorem walk (a0 : Int) (a1 : Int) (a2 : Int) (w : World) (w0 : (Lit.int .i64 a0).wf = true) (w1 : (Lit.int .i64 a1).wf = true) (w2 : (Lit.int .i64 a2).wf = true) :
    Calls Try.prog 9 #[.int .i64 a0, .int .i64 a1, .int .i64 a2] w fun e w' => e = .returned (.bool true) ∧ Below w.heap.size w w' := by
  have ct := fun w => told_any w
  have cn := qs_new w
  obtain ⟨p, hp⟩ : ∃ p, w.heap.size = p := ⟨_, rfl⟩
  rw [hp] at cn
  clear hp
  obtain ⟨Y, hY⟩ : ∃ Y : Int, IntKind.u64.wrap a0 = Y := ⟨_, rfl⟩
  obtain ⟨Z, hZ⟩ : ∃ Z : Int, IntKind.u64.wrap a1 = Z := ⟨_, rfl⟩
  obtain ⟨V, hV⟩ : ∃ V : Int, IntKind.u64.wrap a2 = V := ⟨_, rfl⟩
  have y0 : 0 ≤ Y := by rw [← hY, IntKind.wrap_u64]; omega
  have z0 : 0 ≤ Z := by rw [← hZ, IntKind.wrap_u64]; omega
  have v0 : 0 ≤ V := by rw [← hV, IntKind.wrap_u64]; omega
  obtain ⟨k, hk⟩ : ∃ k : Nat, Y % 501 = (k : Int) := ⟨(Y % 501).toNat, by omega⟩
  obtain ⟨q, hq⟩ : ∃ q : Nat, Z % 64 = (q : Int) := ⟨(Z % 64).toNat, by omega⟩
  obtain ⟨m, hm⟩ : ∃ m : Nat, V % 200 = (m : Int) := ⟨(V % 200).toNat, by omega⟩
  have k1 : k ≤ 500 := by omega
  have q1 : q ≤ 63 := by omega
  have m1 : m ≤ 199 := by omega
  go_enter Try.func9, Try.ntmps9
  go_wp2_with fail
  with_reducible refine Calls.mono (cn) ?_
  rintro e w1 ⟨rfl, hs1⟩
  replace hs1 := Lib.hid hs1
  clear cn
  go_wp2_with fail
  clear hY hZ hV hk hq hm
  obtain ⟨P, hP⟩ : ∃ P : Nat, 1 + (q : Int) = (P : Int) := ⟨1 + q, by omega⟩
  obtain ⟨M, hM⟩ : ∃ M : Nat, 1 + (m : Int) = (M : Int) := ⟨1 + m, by omega⟩
  have P1 : 1 ≤ P := by omega
  have P2 : P ≤ 64 := by omega
  have M1 : 1 ≤ M := by omega
  have M2 : M ≤ 200 := by omega
  rw [hP, hM]
  clear hP hM
  go_loopw [11] (fun i wr => ∃ j : Nat, i = .int .i64 j ∧ j ≤ k ∧ Hid (Qs w wr p (up 0 j))) (fun i _ => (k - (intOf i).toNat))
  case atStart => exact ⟨0, rfl, by omega, hs1⟩
  case round =>
    obtain ⟨j, rfl, j1, hS⟩ := hrel
    clear hs1
    by_cases hj : j < k
    · have i2 : (j : Int) < (k : Int) := by omega
      have cs := qs_put1 hS.out (j : Int) (by rw [up_len]; omega)
      have hup : Hid (up 0 j ++ [(j : Int)] = up 0 (j + 1)) := by
        show _ = _
        rw [← up_snoc, Nat.zero_add]
      go_wp2_with fail
      with_reducible refine Calls.mono (cs) ?_
      rintro e w2 ⟨rfl, hs2⟩
      have hs3 : Hid (Qs w w2 p (up 0 (j + 1))) := by
        have := hs2
        rw [hup.out] at this
        exact this
      clear cs hS hs2 hup
      go_wp2_with fail
      go_roundw
      case rel => exact ⟨j + 1, by go_num, by omega, hs3⟩
      case measure => simp [intOf]; omega
    · obtain rfl : j = k := by omega
      clear hj j1
      go_wp2_with fail
      go_loopw [12] (fun i wr => ∃ t r : Nat, i = .int .i64 t ∧ t + r = j ∧ Hid (Qs w wr p (up t r))) (fun i _ => (j - (intOf i).toNat))
      case atStart => exact ⟨0, j, rfl, by omega, hS⟩
      case round =>
        obtain ⟨t, r, rfl, t1, hS2⟩ := hrel
        clear hS
        have cl : ∀ W, Qs w W p (up t r) → Calls Try.prog 36 #[.pointer (some ⟨p, 0, none⟩)] W (Still (.int .i64 (r : Int)) W) := fun W h => by
          have := qs_len h
          rwa [up_len] at this
        by_cases hr : 0 < r
        · have i3 : (0 : Int) < (r : Int) := by omega
          have c1 := cl _ hS2.out
          go_wp2_with fail
          with_reducible refine Calls.mono (c1) ?_
          rintro e w3 ⟨rfl, rfl⟩
          go_wp2_with fail
          with_reducible refine Calls.mono (c1) ?_
          rintro e w3 ⟨rfl, rfl⟩
          obtain ⟨n, hn⟩ : ∃ n, n = min (min (min (r / P + 1) M) 128) r := ⟨_, rfl⟩
          obtain ⟨d, hd⟩ : ∃ d, r / P = d := ⟨_, rfl⟩
          have cg := qs_get (n := n) hS2.out P1 (by omega) (m := M) (by omega) (by rw [up_len]; omega) (by rw [up_len]; exact hn)
          have hdd : (r : Int).tdiv (P : Int) = (d : Int) := by
            rw [Int.tdiv_eq_ediv_of_nonneg (by omega)]; omega
          rw [hd] at hn
          have hdr : d ≤ r := by rw [← hd]; exact Nat.div_le_self _ _
          have n1 : 1 ≤ n := by omega
          have n2 : n ≤ r := by omega
          have hnr : Hid (n ≤ r) := n2
          have g1 : ¬ ((n : Int) < 1) := by omega
          have g2 : ¬ ((M : Int) < (n : Int)) := by omega
          have g3 : ¬ ((d : Int) + 1 < (n : Int)) := by omega
          have g4 : ¬ ((128 : Int) < (n : Int)) := by omega
          have g5 : ((P : Int) == 0) = false := by rw [beq_eq_false_iff_ne]; omega
          clear hn hd cl c1
          go_wp2_with fail
          with_reducible refine Calls.mono (cg) ?_
          rintro e w4 ⟨r4, rfl, hs4, ho4⟩
          have hs5 : Hid (Qs w w4 p (up (t + n) (r - n))) := by
            have := hs4
            rw [up_drop n t r hnr.out] at this
            exact this
          have ho5 : Hid (w4.ownsRow 0 3 1 r4 n (cells (up t n))) := by
            have := ho4
            rw [up_take n t r hnr.out] at this
            exact this.mono (Nat.zero_le _)
          clear hs4 cg hS2
          obtain ⟨rs, rc, rfl⟩ := own_slice ho4
          clear ho4
          go_wp2_with fail
          clear g1 g2 g3 g4 g5 hdd n1 i3
          go_loopw [12, 15] (fun x i wr => ∃ s : Nat, i = .int .i64 s ∧ x = .int .i64 ((t + s : Nat) : Int) ∧ s ≤ n ∧ Hid (wr.ownsRow 0 3 1 (.slice rs n rc) n (cells (up t n))) ∧ Hid (Qs w wr p (up (t + n) (r - n)))) (fun _ i _ => (n - (intOf i).toNat))
          case atStart => exact ⟨0, rfl, rfl, by omega, ho5, hs5⟩
          case round =>
            obtain ⟨s, rfl, rfl, s1, ho6, hs6⟩ := hrel
            clear ho5 hs5
            by_cases hs : s < n
            · have i4 : (s : Int) < (n : Int) := by omega
              have i5 : (0 : Int) ≤ (s : Int) := by omega
              obtain ⟨b, cap, hv, b1, b2, b3, b4⟩ := own_at ho6.out hs
              obtain ⟨rfl, rfl⟩ : rs = some ⟨b, 0, none⟩ ∧ rc = cap := by simpa using hv
              have hx := up_get t n s hs
              rw [hx] at b3
              clear hv b4 hx
              go_wp2_with fail
              go_roundw
              case rel => exact ⟨s + 1, by go_num, by rw [show ((t + (s + 1) : Nat) : Int) = (t : Int) + (s : Int) + 1 by omega], by omega, ho6, hs6⟩
              case measure => simp [intOf]; omega
            · obtain rfl : s = n := by omega
              go_wp2_with fail
              go_roundw
              case rel => exact ⟨t + s, r - s, rfl, by omega, hs6⟩
              case measure => simp [intOf]; omega
        · obtain rfl : r = 0 := by omega
          obtain rfl : t = j := by omega
          have c1 := cl _ hS2.out
          go_wp2_with fail
          with_reducible refine Calls.mono (c1) ?_
          rintro e w3 ⟨rfl, rfl⟩
          clear cl c1
          go_wp2_with fail
          with_reducible refine Calls.mono (ct _) ?_
          rintro e w4 ⟨rfl, hb4⟩
          have hs4 := Lib.hid (hS2.out.below hb4)
          have cg := qs_get (n := 0) hs4.out P1 (by omega) (m := M) (by omega) (by rw [up_len]; omega) (by rw [up_len]; simp)
          clear hS2 hb4
          go_wp2_with fail
          with_reducible refine Calls.mono (cg) ?_
          rintro e w5 ⟨r5, rfl, hs5, ho5⟩
          have hfin := Lib.hid hs5.bel
          obtain ⟨rs, rc, rfl⟩ := own_slice ho5
          clear cg hs4 hs5 ho5
          go_wp2_with fail
          go_ret
          exact ⟨rfl, hfin.out⟩

set_option maxRecDepth 100000 in
theorem lifted (os : Os) (started : os.Started) (H : Type) (enc : TypeId × Value → H) :
    ReturnsInHanded {} Try.checked os 9 .any (Rows.queueFairSpec.pre6 enc Try.prog Try.f9 Rows.queueFairRow.domain false) (Rows.queueFairSpec.post enc Try.prog Try.f9 false true false false) := by
  refine returnsInHanded_of_change (C := Try.checked) own started (by kernel_rfl) Try.func9
    (ChangeSpec.witness6 (enc := enc) (C := Try.checked) false ⟨#[], #[.int .i64 0, .int .i64 0, .int .i64 0], []⟩ 8 (by kernel_rfl) (by kernel_rfl) (by kernel_rfl) (by kernel_rfl)) ?_
  intro W base args ds gs before hval0 hW hcnd _
  have hval : ∀ (j : Nat) t v, Try.f9.params[j]? = some t → args[j]? = some v → Value.okWide Try.prog W .any base t v := hval0
  have hW' := hW
  obtain ⟨p, q, hA0, hV, rfl, hfz, hnd⟩ := hW
  have hA : DataW.TrodAll enc Try.prog W 0 (fun _ => true) true Try.f9.params.toList args.toList ds p := hA0
  rw [Try.params9] at hA hval
  obtain ⟨v0, vs0, d0, ds0, p0, q0, hargs, rfl, rfl, h0, r0⟩ := trodAll_cons hA
  obtain ⟨v1, vs1, d1, ds1, p1, q1, rfl, rfl, rfl, h1, r1⟩ := trodAll_cons r0
  obtain ⟨v2, vs2, d2, ds2, p2, q2, rfl, rfl, rfl, h2, r2⟩ := trodAll_cons r1
  obtain ⟨rfl, rfl, rfl⟩ := trodAll_nil r2
  obtain rfl : args = #[v0, v1, v2] := by cases args; simp_all
  obtain ⟨rfl, rfl⟩ := trodVars_none hV
  obtain ⟨a0, rfl, rfl, rfl, w0⟩ := open_int Try.underlying3 (hval 0 3 v0 rfl rfl) h0
  obtain ⟨a1, rfl, rfl, rfl, w1⟩ := open_int Try.underlying3 (hval 1 3 v1 rfl rfl) h1
  obtain ⟨a2, rfl, rfl, rfl, w2⟩ := open_int Try.underlying3 (hval 2 3 v2 rfl rfl) h2
  clear hA0 hval0
  simp only [List.append_nil] at hW'
  refine (walk a0 a1 a2 W w0 w1 w2).mono fun e W' ⟨he, hg⟩ => ?_
  subst he
  exact ⟨_, rfl, post_of_kept (pa := _) (pv := []) hW' (fun _ _ _ => (trodAll_cons_mk (shut_bool Try.underlying4 _) trodAll_mk0)) (trodAll_cons_mk (shut_int Try.underlying3 w0) (trodAll_cons_mk (shut_int Try.underlying3 w1) (trodAll_cons_mk (shut_int Try.underlying3 w2) trodAll_mk0))) (fun _ _ => rfl) (by simp) hg⟩

theorem over : Rows.queueFairRow.holds Try.pinned (OpenSpec.ofChange Rows.queueFairSpec) :=
  OpenClaim.holds_of_wide 9 Try.f9 rfl rfl rfl rfl rfl rfl rfl ⟨rfl, rfl, rfl, rfl, rfl⟩ rfl rfl rfl rfl rfl (by kernel_rfl) Try.func9 (by kernel_rfl)
    (of_decide_eq_true (by kernel_rfl)) (by unfold Func.isWrapper; first | (rw [if_pos (by decide +kernel)]; kernel_rfl) | (rw [if_neg (by decide +kernel)]; exact ⟨rfl, rfl⟩))
    (fun os started H enc _ => lifted os started H enc)

theorem proved : Rows.QueueFairSaid :=
  over
#print axioms proved
end Go.Proofs.Yteigcjgohhgjcaa.queueFair
