/- For any two whole numbers the statement SchedCommon answers true and leaves its arguments as they were: the common queue is not starved, each 61st pick looks there first. No condition. -/
import Derived.Test.YtkpmifkdnndccaaHome
import Derived.Test.YtkpmifkdnndccaaSchedTold
import Derived.WalkKit
import Derived.ProofKit
import Derived.OpenShut
import Derived.Deep.RegionHeld3
import Derived.Deep.RegionWith
import Derived.Deep.Cut
import Derived.Deep.CutBlock
import Derived.Deep.CutRange
import Derived.Deep.LoopGhost
import Derived.Deep.DeepCutAuto
import Derived.RegionTactic
import Derived.StillTailTactics
namespace Go.Proofs.Ytkpmifkdnndccaa.schedCommon
open Go.ChangeShapes Go.WideShapes Go.ChangeAt Go.WideElems Go.RowKit Go.Lib Fx Ho Sd Rw
set_option linter.unusedVariables false

theorem own : ownKnob Try.prog.godebug = none := by kernel_rfl

theorem put1 {L : List Int} {nx : Option Int} (g : Int) (h : L.length < 256) : rPut (nx, L) g false = ((nx, L ++ [g]), []) := by
  show rRow nx L g = _
  unfold rRow; rw [if_pos h]
theorem pick_turn {L : List Int} {t : Int} (h0 : t ≠ 0) (h1 : t.tmod 61 = 0) : pickS [(none, L)] [9999] 0 t 0 = (some 9999, [(none, L)], []) := by
  have e : turnS [(none, L)] [9999] 0 t = (some 9999, [(none, L)], []) := by
    unfold turnS
    rw [if_neg (fun h => h.elim h0 (fun h => h h1))]
    have hq : qN [9999] 1 1 = 1 := by decide
    unfold takeS
    rw [show ([(none, L)] : List Rg).length = 1 from rfl, hq]
    rfl
  unfold pickS; rw [e]
theorem pick_own {x : Int} {L : List Int} {t : Int} (h1 : t.tmod 61 ≠ 0) : pickS [(none, x :: L)] [9999] 0 t 0 = (some x, [(none, L)], [9999]) := by
  have e : turnS [(none, x :: L)] [9999] 0 t = (none, [(none, x :: L)], [9999]) := if_pos (.inr h1)
  unfold pickS; rw [e]; rfl
set_option maxRecDepth 100000 in
set_option maxHeartbeats 4000000 in
theorem walk (a0 : Int) (a1 : Int) (w : World) (w0 : (Lit.int .i64 a0).wf = true) (w1 : (Lit.int .i64 a1).wf = true) :
    Calls Try.prog 12 #[.int .i64 a0, .int .i64 a1] w fun e w' => e = .returned (.bool true) ∧ Below w.heap.size w w' := by
  obtain ⟨Z, hZ⟩ : ∃ Z : Int, IntKind.u64.wrap a0 = Z := ⟨_, rfl⟩
  obtain ⟨Y, hY⟩ : ∃ Y : Int, IntKind.u64.wrap a1 = Y := ⟨_, rfl⟩
  have z1 : 0 ≤ Z := by rw [← hZ, IntKind.wrap_u64]; omega
  have y1 : 0 ≤ Y := by rw [← hY, IntKind.wrap_u64]; omega
  obtain ⟨k, hk⟩ : ∃ k : Nat, 1 + Y % 100 = (k : Int) := ⟨(1 + Y % 100).toNat, by omega⟩
  obtain ⟨t, ht⟩ : ∃ t : Nat, 1 + Z % 10000 = (t : Int) := ⟨(1 + Z % 10000).toNat, by omega⟩
  have k0 : 1 ≤ k := by omega
  have k1 : k ≤ 100 := by omega
  have t0 : 1 ≤ t := by omega
  have t1 : t ≤ 10000 := by omega
  have cn := new_any 1 (by omega) (by omega) w
  go_enter Try.func12, Try.ntmps12
  go_wp2_with fail
  with_reducible refine Calls.mono (cn) ?_
  rintro e w1 ⟨p, H, rfl, hs⟩
  replace hs : Hid (Ss w w1 p H [(none, seqI 0 0)] []) := hs
  clear cn
  go_wp2_with fail
  have hZt := Lib.hid (And.intro hZ ht)
  clear hY y1 hk hZ ht
  go_loopw [8] (fun x wr => ∃ (i : Nat) (H : Home), x = .int .i64 i ∧ i ≤ k ∧ Hid (Ss w wr p H [(none, seqI 0 i)] [])) (fun x _ => (k - (RowKit.intOf x).toNat))
  case atStart => exact ⟨0, H, rfl, by omega, hs⟩
  case round =>
    clear hs
    obtain ⟨i, H, rfl, i1, hs⟩ := hrel
    by_cases hi : i < k
    · have i2 : (i : Int) < (k : Int) := by omega
      have cy := ready_in hs.out (i := 0) (by simp) (i : Int) false (by simp)
      replace cy : Calls Try.prog 35 #[.pointer (some ⟨p, 0, none⟩), .int .i64 0, .int .i64 i, .bool false] wr (Step (.int .i64 0) w wr p H [(none, seqI 0 (i + 1))] []) := by
        have e : rPut (([(none, seqI 0 i)] : List Rg).getD 0 rg0) (i : Int) false = ((none, seqI 0 i ++ [(i : Int)]), []) := put1 _ (by rw [seq_len]; omega)
        rw [e] at cy
        have e2 : seqI 0 (i + 1) = seqI 0 i ++ [(i : Int)] := by show _ ++ [0 + (i : Int)] = _; rw [Int.zero_add]
        rw [e2]
        exact cy
      clear hs
      go_wp2_with fail
      with_reducible refine Calls.mono cy ?_
      rintro e w2 ⟨rfl, H2, -, hs⟩
      replace hs := Lib.hid hs
      clear cy
      go_wp2_with fail
      go_roundw
      case rel => exact ⟨i + 1, H2, by go_num, by omega, hs⟩
      case measure => simp [RowKit.intOf]; omega
    · obtain rfl : i = k := by omega
      have i2 : ¬ ((i : Int) < (i : Int)) := by omega
      have cg := global_any hs.out 9999 (by simp)
      clear hs
      go_wp2_with fail
      with_reducible refine Calls.mono cg ?_
      rintro e w2 ⟨rfl, H2, -, hs⟩
      replace hs : Hid (Ss w w2 p H2 [(none, seqI 0 i)] [9999]) := hs
      clear cg
      obtain ⟨hZ, ht⟩ := hZt.out
      go_wp2_with fail
      clear hZ ht hZt z1
      have hL : Hid ((seqI 0 i).length = i ∧ ∀ x ∈ seqI 0 i, x ≠ 9999) := Lib.hid ⟨seq_len _ _, fun x hx e => by
        obtain ⟨j, hj, e2⟩ := List.getElem_of_mem hx
        rw [seq_len] at hj
        have := seq_get 0 i j hj
        rw [List.getD_eq_getElem?_getD, List.getElem?_eq_getElem (by rw [seq_len]; exact hj)] at this
        simp at this
        omega⟩
      generalize seqI 0 i = L0 at *
      go_loopw [10] (fun x wr => ∃ (j : Nat) (H : Home) (L : List Int), x = .int .i64 j ∧ j ≤ 61 ∧ Hid (L.length = i ∧ ∀ x ∈ L, x ≠ 9999) ∧ Hid (∀ q, q < j → (t + q) % 61 ≠ 0) ∧ Hid (Ss w wr p H [(none, L)] [9999])) (fun x _ => (61 - (RowKit.intOf x).toNat))
      case atStart => exact ⟨0, H2, L0, rfl, by omega, hL, Lib.hid fun q hq => by omega, hs⟩
      case round =>
        clear hs hL
        obtain ⟨j, H, L, rfl, j1, hL, hno, hs⟩ := hrel
        have hj : j < 61 := by
          rcases Nat.lt_or_ge j 61 with h | h
          · exact h
          · exact absurd (by omega : (t + (61 - t % 61) % 61) % 61 = 0) (hno.out _ (by omega))
        have j2 : (j : Int) < 61 := by omega
        obtain ⟨s, hs'⟩ : ∃ s : Nat, t + j = s := ⟨_, rfl⟩
        have hsI : (t : Int) + (j : Int) = (s : Int) := by omega
        have s0 : (s : Int) ≠ 0 := by omega
        by_cases hm : s % 61 = 0
        · have cp := pick_in hs.out (i := 0) (by simp) (s : Int) 0 (by simp) (by simp)
          have hmi : (s : Int).tmod 61 = 0 := by rw [Int.tmod_eq_emod_of_nonneg (by omega)]; omega
          rw [pick_turn s0 hmi, ← hsI] at cp
          replace cp : Calls Try.prog 36 #[.pointer (some ⟨p, 0, none⟩), .int .i64 0, .int .i64 ((t : Int) + (j : Int)), .int .i64 0] wr (Step (.tuple #[.int .i64 9999, .bool true]) w wr p H [(none, L)] []) := cp
          have hmm : ((t : Int) + (j : Int)) % 61 = 0 := by omega
          clear hs hno hL hsI hs' s0 hmi
          go_wp2_with fail
          with_reducible refine Calls.mono cp ?_
          rintro e w4 ⟨rfl, H4, -, hs⟩
          have hb := hs.out
          have ct := told_any w4
          clear cp hs
          go_wp2_with fail
          with_reducible refine Calls.mono ct ?_
          rintro e w5 ⟨rfl, hb5⟩
          have hb := hb.trans (hb5.mono hb.size)
          clear ct hb5
          go_wp2_with fail
          go_ret
          exact ⟨rfl, hb⟩
        · obtain ⟨y, T, rfl⟩ : ∃ y T, L = y :: T := by
            cases L with
            | nil => have := hL.out.1; simp at this; omega
            | cons y T => exact ⟨y, T, rfl⟩
          have cp := pick_in hs.out (i := 0) (by simp) (s : Int) 0 (by simp) (by simp)
          have hmi : (s : Int).tmod 61 ≠ 0 := by rw [Int.tmod_eq_emod_of_nonneg (by omega)]; omega
          rw [pick_own hmi, ← hsI] at cp
          replace cp : Calls Try.prog 36 #[.pointer (some ⟨p, 0, none⟩), .int .i64 0, .int .i64 ((t : Int) + (j : Int)), .int .i64 0] wr (Step (.tuple #[.int .i64 y, .bool true]) w wr p H [(none, T)] [9999]) := cp
          have hy : (y == 9999) = false := by rw [beq_eq_false_iff_ne]; exact hL.out.2 y (List.mem_cons_self ..)
          have hlt : T.length < 256 := by have := hL.out.1; simp at this; omega
          have hL2 : Hid ((T ++ [y]).length = i ∧ ∀ x ∈ T ++ [y], x ≠ 9999) := Lib.hid ⟨by have := hL.out.1; simp at this ⊢; omega, fun x hx => by
            rcases List.mem_append.1 hx with hx | hx
            · exact hL.out.2 x (List.mem_cons_of_mem _ hx)
            · obtain rfl : x = y := by simpa using hx
              exact hL.out.2 x (List.mem_cons_self ..)⟩
          have hno2 : Hid (∀ q, q < j + 1 → (t + q) % 61 ≠ 0) := Lib.hid fun q hq => by
            by_cases e : q = j
            · subst e; rw [hs']; exact hm
            · exact hno.out q (by omega)
          clear hs hno hL hs' s0 hmi hsI hm
          go_wp2_with fail
          with_reducible refine Calls.mono cp ?_
          rintro e w4 ⟨rfl, H4, -, hs⟩
          have cy := ready_in hs (i := 0) (by simp) y false (by simp)
          replace cy : Calls Try.prog 35 #[.pointer (some ⟨p, 0, none⟩), .int .i64 0, .int .i64 y, .bool false] w4 (Step (.int .i64 0) w w4 p H4 [(none, T ++ [y])] [9999]) := by
            have e : rPut (([(none, T)] : List Rg).getD 0 rg0) y false = ((none, T ++ [y]), []) := put1 _ hlt
            rw [e] at cy
            exact cy
          clear cp hs hlt
          go_wp2_with fail
          with_reducible refine Calls.mono cy ?_
          rintro e w5 ⟨rfl, H5, -, hs⟩
          replace hs := Lib.hid hs
          clear cy
          go_wp2_with fail
          go_roundw
          case rel => exact ⟨j + 1, H5, T ++ [y], by go_num, by omega, hL2, hno2, hs⟩
          case measure => simp [RowKit.intOf]; omega

set_option maxRecDepth 100000 in
theorem lifted (os : Os) (started : os.Started) (H : Type) (enc : TypeId × Value → H) :
    ReturnsInHanded {} Try.checked os 12 .any (Rows.schedCommonSpec.pre6 enc Try.prog Try.f12 Rows.schedCommonRow.domain false) (Rows.schedCommonSpec.post enc Try.prog Try.f12 false true false false) := by
  refine returnsInHanded_of_change (C := Try.checked) own started (by kernel_rfl) Try.func12
    (ChangeSpec.witness6 (enc := enc) (C := Try.checked) false ⟨#[], #[.int .i64 0, .int .i64 0], []⟩ 8 (by kernel_rfl) (by kernel_rfl) (by kernel_rfl) (by kernel_rfl)) ?_
  intro W base args ds gs before hval0 hW hcnd _
  have hval : ∀ (j : Nat) t v, Try.f12.params[j]? = some t → args[j]? = some v → Value.okWide Try.prog W .any base t v := hval0
  have hW' := hW
  obtain ⟨p, q, hA0, hV, rfl, hfz, hnd⟩ := hW
  have hA : DataW.TrodAll enc Try.prog W 0 (fun _ => true) true Try.f12.params.toList args.toList ds p := hA0
  rw [Try.params12] at hA hval
  obtain ⟨v0, vs0, d0, ds0, p0, q0, hargs, rfl, rfl, h0, r0⟩ := trodAll_cons hA
  obtain ⟨v1, vs1, d1, ds1, p1, q1, rfl, rfl, rfl, h1, r1⟩ := trodAll_cons r0
  obtain ⟨rfl, rfl, rfl⟩ := trodAll_nil r1
  obtain rfl : args = #[v0, v1] := by cases args; simp_all
  obtain ⟨rfl, rfl⟩ := trodVars_none hV
  obtain ⟨a0, rfl, rfl, rfl, w0⟩ := open_int Try.underlying3 (hval 0 3 v0 rfl rfl) h0
  obtain ⟨a1, rfl, rfl, rfl, w1⟩ := open_int Try.underlying3 (hval 1 3 v1 rfl rfl) h1
  clear hA0 hval0
  simp only [List.append_nil] at hW'
  refine (walk a0 a1 W w0 w1).mono fun e W' ⟨he, hg⟩ => ?_
  subst he
  exact ⟨_, rfl, post_of_kept (pa := _) (pv := []) hW' (fun _ _ _ => (trodAll_cons_mk (shut_bool Try.underlying4 _) trodAll_mk0)) (trodAll_cons_mk (shut_int Try.underlying3 w0) (trodAll_cons_mk (shut_int Try.underlying3 w1) trodAll_mk0)) (fun _ _ => rfl) (by simp) hg⟩

theorem over : Rows.schedCommonRow.holds Try.pinned (OpenSpec.ofChange Rows.schedCommonSpec) :=
  OpenClaim.holds_of_wide 12 Try.f12 rfl rfl rfl rfl rfl rfl rfl ⟨rfl, rfl, rfl, rfl, rfl⟩ rfl rfl rfl rfl rfl (by kernel_rfl) Try.func12 (by kernel_rfl)
    (of_decide_eq_true (by kernel_rfl)) (by unfold Func.isWrapper; first | (rw [if_pos (by decide +kernel)]; kernel_rfl) | (rw [if_neg (by decide +kernel)]; exact ⟨rfl, rfl⟩))
    (fun os started H enc _ => lifted os started H enc)

theorem proved : Rows.SchedCommonSaid :=
  over
#print axioms proved
end Go.Proofs.Ytkpmifkdnndccaa.schedCommon
