/- For any two whole numbers the statement RingDels answers true and leaves its arguments as they were: of 1 to 200 goroutines in the row and one next, whoever is taken out is gone, once; the others stay in their order. No condition. -/
import Derived.Test.YteigcjgohhgjcaaRingDel
import Derived.WalkKit
import Derived.ProofKit
import Derived.OpenShut
import Derived.Deep.RegionHeld3
import Derived.Deep.RegionWith
import Derived.Deep.Cut
import Derived.Deep.CutBlock
import Derived.Deep.CutRange
import Derived.Deep.DeepCutAuto
import Derived.RegionTactic
namespace Go.Proofs.Yteigcjgohhgjcaa.ringDels
open Go.ChangeShapes Go.WideShapes Go.ChangeAt Go.WideElems Go.RowKit Go.Lib Fx Ho Ri
set_option linter.unusedVariables false

theorem own : ownKnob Try.prog.godebug = none := by kernel_rfl

set_option maxRecDepth 100000 in
set_option maxHeartbeats 4000000 in
theorem walk (a0 : Int) (a1 : Int) (w : World) (w0 : (Lit.int .i64 a0).wf = true) (w1 : (Lit.int .i64 a1).wf = true) :
    Calls Try.prog 7 #[.int .i64 a0, .int .i64 a1] w fun e w' => e = .returned (.bool true) ∧ Below w.heap.size w w' := by
  have ct := fun w => told_any w
  have cn := rs_new w
  obtain ⟨p, hp⟩ : ∃ p, w.heap.size = p := ⟨_, rfl⟩
  rw [hp] at cn
  clear hp
  obtain ⟨Y, hY⟩ : ∃ Y : Int, IntKind.u64.wrap a0 = Y := ⟨_, rfl⟩
  obtain ⟨Z, hZ⟩ : ∃ Z : Int, IntKind.u64.wrap a1 = Z := ⟨_, rfl⟩
  have y0 : 0 ≤ Y := by rw [← hY, IntKind.wrap_u64]; omega
  have z0 : 0 ≤ Z := by rw [← hZ, IntKind.wrap_u64]; omega
  obtain ⟨q, hq⟩ : ∃ q : Nat, Y % 200 = (q : Int) := ⟨(Y % 200).toNat, by omega⟩
  have q1 : q ≤ 199 := by omega
  have hD : 0 < 1 + (q : Int) + 1 := by omega
  have hx1 := Int.emod_nonneg Z (show 1 + (q : Int) + 1 ≠ 0 by omega)
  have hx2 := Int.emod_lt_of_pos Z hD
  obtain ⟨x, hx⟩ : ∃ x : Nat, Z % (1 + (q : Int) + 1) = (x : Int) := ⟨(Z % (1 + (q : Int) + 1)).toNat, by omega⟩
  rw [hx] at hx1 hx2
  have x1 : x ≤ 1 + q := by omega
  clear hx1 hx2
  go_enter Try.func7, Try.ntmps7
  go_wp2_with fail
  with_reducible refine Calls.mono (cn) ?_
  rintro e w1 ⟨rfl, hs1⟩
  replace hs1 := Lib.hid hs1
  clear cn
  go_wp2_with fail
  clear hY hq
  replace hx := Lib.hid hx
  replace hZ := Lib.hid hZ
  go_loopw [7] (fun i wr => ∃ k : Nat, i = .int .i64 k ∧ 1 ≤ k ∧ k ≤ 2 + q ∧ Hid (Rs w wr p none (seqL 1 (k - 1)))) (fun i _ => (2 + q - (intOf i).toNat))
  case atStart => exact ⟨1, rfl, by omega, by omega, hs1⟩
  case round =>
    obtain ⟨k, rfl, k0, k1, hS⟩ := hrel
    clear hs1
    by_cases hk : k ≤ 1 + q
    · have i2 : (k : Int) ≤ 1 + (q : Int) := by omega
      have cs := rs_put (k : Int) hS.out (by rw [seq_len]; omega)
      have hnx : Hid (seqL 1 (k - 1) ++ [(k : Int)] = seqL 1 (k + 1 - 1)) := by
        obtain ⟨m, rfl⟩ : ∃ m, k = m + 1 := ⟨k - 1, by omega⟩
        show seqL 1 m ++ _ = seqL 1 m ++ [1 + (m : Int)]
        rw [show ((m + 1 : Nat) : Int) = 1 + (m : Int) by omega]
      go_wp2_with fail
      with_reducible refine Calls.mono (cs) ?_
      rintro e w2 ⟨rfl, hs2, _⟩
      rw [hnx.out] at hs2
      replace hs2 := Lib.hid hs2
      clear cs hS
      go_wp2_with fail
      go_roundw
      case rel => exact ⟨k + 1, by go_num, by omega, by omega, hs2⟩
      case measure => simp [intOf]; omega
    · obtain rfl : k = 2 + q := by omega
      rw [show 2 + q - 1 = 1 + q by omega] at hS
      rw [show ((2 + q : Nat) : Int) = 2 + (q : Int) by omega]
      clear hk k0 k1
      have i2 : ¬ (2 + (q : Int)) ≤ 1 + (q : Int) := by omega
      have cs := rs_first 0 hS.out
      go_wp2_with fail
      with_reducible refine Calls.mono (cs) ?_
      rintro e w2 ⟨rfl, hs2, _⟩
      clear cs hS
      have hw1 : IntKind.u64.wrap (1 + (q : Int) + 1) = 1 + (q : Int) + 1 := by rw [IntKind.wrap_u64]; omega
      have hx2 := hx.out
      have hZ2 := hZ.out
      have hlist : ∃ nx L, Hid (allOf nx L = remL x 0 (2 + q)) ∧ Calls Try.prog 23 #[.pointer (some ⟨p, 0, none⟩), .int .i64 x] w2 fun e w' => e = .returned (.bool true) ∧ Hid (Rs w w' p nx L) := by
        rcases Nat.eq_zero_or_pos x with rfl | hpos
        · refine ⟨none, seqL 1 (1 + q), ?_, rs_del_next 0 hs2⟩
          show seqL ((1 : Nat) : Int) (1 + q) = _
          rw [seq_up, show 2 + q = (1 + q) + 1 by omega]
          exact (rem_up 0 (1 + q) 1 (by omega)).symm
        · refine ⟨some 0, (seqL 1 (1 + q)).eraseIdx (x - 1), ?_, rs_del_row (x : Int) (x - 1) (by intro e; have := Option.some.inj e; omega) (by rw [seq_len]; omega) (by rw [seq_get _ _ _ (by omega)]; omega) (fun j hj => by rw [seq_get _ _ _ (by omega)]; omega) hs2⟩
          show (0 : Int) :: (seqL ((1 : Nat) : Int) (1 + q)).eraseIdx (x - 1) = _
          rw [seq_up, erase_up _ _ _ (by omega), show 2 + q = (1 + q) + 1 by omega, show 1 + (x - 1) = x by omega]
          show _ = (if 0 = x then [] else [((0 : Nat) : Int)]) ++ remL x (0 + 1) (1 + q)
          rw [if_neg (by omega)]; rfl
      obtain ⟨nx, L, hL, cd⟩ := hlist
      have hnot1 : Hid ((x : Int) ∉ allOf nx L) := fun h => by
        rw [hL.out] at h
        obtain ⟨t, h1, _, _, h4⟩ := mem_rem h
        omega
      have hnot2 : Hid ((1 + (q : Int) + 5) ∉ allOf nx L) := fun h => by
        rw [hL.out] at h
        obtain ⟨t, h1, _, h3, _⟩ := mem_rem h
        omega
      have hlen0 : ((allOf nx L).length : Int) = 1 + (q : Int) := by
        have := rem_len x (2 + q) 0 (by omega) (by omega)
        rw [hL.out]; omega
      have hlen := Lib.hid hlen0
      clear hlen0
      clear hs2
      go_wp2_with fail
      with_reducible refine Calls.mono (cd) ?_
      rintro e w3 ⟨rfl, hs3⟩
      have cd2 := rs_del_not (x : Int) hs3.out hnot1.out
      clear cd hx2 hZ2 hw1
      go_wp2_with fail
      with_reducible refine Calls.mono (cd2) ?_
      rintro e w4 ⟨rfl, hs4⟩
      have cd3 := rs_del_not (1 + (q : Int) + 5) hs4 hnot2.out
      clear cd2 hs3 hnot1
      go_wp2_with fail
      with_reducible refine Calls.mono (cd3) ?_
      rintro e w5 ⟨rfl, hs5⟩
      have cl := rs_len hs5
      rw [hlen.out] at cl
      replace hs5 := Lib.hid hs5
      clear cd3 hs4 hnot2
      go_wp2_with fail
      with_reducible refine Calls.mono (cl) ?_
      rintro e w6 ⟨rfl, rfl⟩
      clear cl
      go_wp2_with fail
      go_loopw [9] (fun i wr => ∃ k : Nat, i = .int .i64 k ∧ k ≤ 2 + q ∧ ∃ nx L, Hid (Rs w wr p nx L) ∧ Hid (allOf nx L = remL x k (2 + q - k))) (fun i _ => (2 + q - (intOf i).toNat))
      case atStart => exact ⟨0, rfl, by omega, _, _, hs5, hL⟩
      case round =>
        obtain ⟨k, rfl, k1, nx2, L2, hS, hL2⟩ := hrel
        clear hs5 hL hlen
        by_cases hk : k ≤ 1 + q
        · have i3 : (k : Int) ≤ 1 + (q : Int) := by omega
          obtain ⟨d, hd⟩ : ∃ d, 2 + q - k = d + 1 := ⟨1 + q - k, by omega⟩
          have hd2 : 2 + q - (k + 1) = d := by omega
          rw [hd] at hL2
          by_cases hkx : k = x
          · have e1 : ((k : Int) == (x : Int)) = true := by rw [beq_iff_eq]; omega
            have hL3 : Hid (allOf nx2 L2 = remL x (k + 1) (2 + q - (k + 1))) := by
              rw [hd2, hL2.out]
              show (if k = x then [] else [(k : Int)]) ++ remL x (k + 1) d = _
              rw [if_pos hkx]; rfl
            replace hkx := Lib.hid hkx
            clear hd hd2
            go_wp2_with fail
            go_roundw
            case rel => exact ⟨k + 1, by go_num, by omega, _, _, hS, hL3⟩
            case measure => simp [intOf]; omega
          · have e1 : ((k : Int) == (x : Int)) = false := by rw [beq_eq_false_iff_ne]; omega
            have hz : allOf nx2 L2 = (k : Int) :: remL x (k + 1) d := by
              rw [hL2.out]
              show (if k = x then [] else [(k : Int)]) ++ remL x (k + 1) d = _
              rw [if_neg hkx]; rfl
            have cg := rs_get hS.out hz
            have hL3 : Hid (allOf none (remL x (k + 1) d) = remL x (k + 1) (2 + q - (k + 1))) := by rw [hd2]; rfl
            replace hkx := Lib.hid hkx
            clear hz hd hd2 hL2
            go_wp2_with fail
            with_reducible refine Calls.mono (cg) ?_
            rintro e wB ⟨rfl, hsB, _⟩
            replace hsB := Lib.hid hsB
            clear cg hS
            go_wp2_with fail
            go_roundw
            case rel => exact ⟨k + 1, by go_num, by omega, _, _, hsB, hL3⟩
            case measure => simp [intOf]; omega
        · obtain rfl : k = 2 + q := by omega
          have hz : allOf nx2 L2 = [] := by rw [hL2.out, Nat.sub_self]; rfl
          have i3 : ¬ (2 + (q : Int)) ≤ 1 + (q : Int) := by omega
          rw [show ((2 + q : Nat) : Int) = 2 + (q : Int) by omega]
          have cg := get_nil wr
          have cln := fun w => len_nil w
          have cdn := fun w => del_nil 1 w
          clear hk k1 hL2
          go_wp2_with fail
          with_reducible refine Calls.mono (cg) ?_
          rintro e wB ⟨rfl, rfl⟩
          clear cg
          go_wp2_with fail
          with_reducible refine Calls.mono (ct _) ?_
          rintro e wC ⟨rfl, hbC⟩
          have hsC := hS.out.below hbC
          have cl := rs_len hsC
          rw [hz] at cl
          have hfin := Lib.hid hsC.bel
          replace hz := Lib.hid hz
          clear hS hbC hsC
          go_wp2_with fail
          with_reducible refine Calls.mono (cl) ?_
          rintro e wD ⟨rfl, rfl⟩
          go_wp2_with fail
          with_reducible refine Calls.mono (cln _) ?_
          rintro e wE ⟨rfl, rfl⟩
          go_wp2_with fail
          with_reducible refine Calls.mono (cdn _) ?_
          rintro e wF ⟨rfl, rfl⟩
          go_wp2_with fail
          go_ret
          exact ⟨rfl, hfin.out⟩

set_option maxRecDepth 100000 in
theorem lifted (os : Os) (started : os.Started) (H : Type) (enc : TypeId × Value → H) :
    ReturnsInHanded {} Try.checked os 7 .any (Rows.ringDelsSpec.pre6 enc Try.prog Try.f7 Rows.ringDelsRow.domain false) (Rows.ringDelsSpec.post enc Try.prog Try.f7 false true false false) := by
  refine returnsInHanded_of_change (C := Try.checked) own started (by kernel_rfl) Try.func7
    (ChangeSpec.witness6 (enc := enc) (C := Try.checked) false ⟨#[], #[.int .i64 0, .int .i64 0], []⟩ 8 (by kernel_rfl) (by kernel_rfl) (by kernel_rfl) (by kernel_rfl)) ?_
  intro W base args ds gs before hval0 hW hcnd _
  have hval : ∀ (j : Nat) t v, Try.f7.params[j]? = some t → args[j]? = some v → Value.okWide Try.prog W .any base t v := hval0
  have hW' := hW
  obtain ⟨p, q, hA0, hV, rfl, hfz, hnd⟩ := hW
  have hA : DataW.TrodAll enc Try.prog W 0 (fun _ => true) true Try.f7.params.toList args.toList ds p := hA0
  rw [Try.params7] at hA hval
  obtain ⟨v0, vs0, d0, ds0, p0, q0, hargs, rfl, rfl, h0, r0⟩ := trodAll_cons hA
  obtain ⟨v1, vs1, d1, ds1, p1, q1, rfl, rfl, rfl, h1, r1⟩ := trodAll_cons r0
  obtain ⟨rfl, rfl, rfl⟩ := trodAll_nil r1
  obtain rfl : args = #[v0, v1] := by cases args; simp_all
  obtain ⟨rfl, rfl⟩ := trodVars_none hV
  obtain ⟨a0, rfl, rfl, rfl, w0⟩ := open_int Try.underlying3 (hval 0 3 v0 rfl rfl) h0
  obtain ⟨a1, rfl, rfl, rfl, w1⟩ := open_int Try.underlying3 (hval 1 3 v1 rfl rfl) h1
  clear hA0 hval0
  simp only [List.append_nil] at hW'
  refine (walk a0 a1 W w0 w1).mono fun e W' ⟨he, hg⟩ => ?_
  subst he
  exact ⟨_, rfl, post_of_kept (pa := _) (pv := []) hW' (fun _ _ _ => (trodAll_cons_mk (shut_bool Try.underlying4 _) trodAll_mk0)) (trodAll_cons_mk (shut_int Try.underlying3 w0) (trodAll_cons_mk (shut_int Try.underlying3 w1) trodAll_mk0)) (fun _ _ => rfl) (by simp) hg⟩

theorem over : Rows.ringDelsRow.holds Try.pinned (OpenSpec.ofChange Rows.ringDelsSpec) :=
  OpenClaim.holds_of_wide 7 Try.f7 rfl rfl rfl rfl rfl rfl rfl ⟨rfl, rfl, rfl, rfl, rfl⟩ rfl rfl rfl rfl rfl (by kernel_rfl) Try.func7 (by kernel_rfl)
    (of_decide_eq_true (by kernel_rfl)) (by unfold Func.isWrapper; first | (rw [if_pos (by decide +kernel)]; kernel_rfl) | (rw [if_neg (by decide +kernel)]; exact ⟨rfl, rfl⟩))
    (fun os started H enc _ => lifted os started H enc)

theorem proved : Rows.RingDelsSaid :=
  over
#print axioms proved
end Go.Proofs.Yteigcjgohhgjcaa.ringDels
