/- For any two whole numbers the statement RingNexts answers true and leaves its arguments as they were: of 1 to 100 goroutines that are put next one by one, with up to 100 in the row ahead, the last one goes first, the others stand behind the row in their time. No condition. -/
import Derived.Test.YteigcjgohhgjcaaRingMore
import Derived.WalkKit
import Derived.ProofKit
import Derived.OpenShut
import Derived.Deep.RegionHeld3
import Derived.Deep.RegionWith
import Derived.Deep.Cut
import Derived.Deep.CutBlock
import Derived.Deep.CutRange
import Derived.Deep.DeepCutAuto
import Derived.RegionTactic
namespace Go.Proofs.Yteigcjgohhgjcaa.ringNexts
open Go.ChangeShapes Go.WideShapes Go.ChangeAt Go.WideElems Go.RowKit Go.Lib Fx Ho Ri
set_option linter.unusedVariables false

theorem own : ownKnob Try.prog.godebug = none := by kernel_rfl

/-- Who is next once i were put next. -/
def nextOf : Nat → Option Int
  | 0 => none
  | i + 1 => some (i : Int)
set_option maxRecDepth 100000 in
set_option maxHeartbeats 4000000 in
theorem walk (a0 : Int) (a1 : Int) (w : World) (w0 : (Lit.int .i64 a0).wf = true) (w1 : (Lit.int .i64 a1).wf = true) :
    Calls Try.prog 6 #[.int .i64 a0, .int .i64 a1] w fun e w' => e = .returned (.bool true) ∧ Below w.heap.size w w' := by
  have ct := fun w => told_any w
  have cn := rs_new w
  obtain ⟨i0, hi, hz0, hz1, hz2⟩ := info_parts infoI
  obtain ⟨p, hp⟩ : ∃ p, w.heap.size = p := ⟨_, rfl⟩
  rw [hp] at cn
  clear hp
  obtain ⟨Y, hY⟩ : ∃ Y : Int, IntKind.u64.wrap a0 = Y := ⟨_, rfl⟩
  obtain ⟨Z, hZ⟩ : ∃ Z : Int, IntKind.u64.wrap a1 = Z := ⟨_, rfl⟩
  have y0 : 0 ≤ Y := by rw [← hY, IntKind.wrap_u64]; omega
  have z0 : 0 ≤ Z := by rw [← hZ, IntKind.wrap_u64]; omega
  obtain ⟨q, hq⟩ : ∃ q : Nat, Y % 100 = (q : Int) := ⟨(Y % 100).toNat, by omega⟩
  obtain ⟨s, hs⟩ : ∃ s : Nat, Z % 101 = (s : Int) := ⟨(Z % 101).toNat, by omega⟩
  have q1 : q ≤ 99 := by omega
  have s1 : s ≤ 100 := by omega
  go_enter Try.func6, Try.ntmps6
  go_wp2_with fail
  with_reducible refine Calls.mono (cn) ?_
  rintro e w1 ⟨rfl, hs1⟩
  replace hs1 := Lib.hid hs1
  clear cn
  go_wp2_with fail
  clear hY hZ hq hs
  go_loopw [8] (fun i wr => ∃ k : Nat, i = .int .i64 k ∧ k ≤ s ∧ Hid (Rs w wr p none (seqL 1000 k))) (fun i _ => (s - (intOf i).toNat))
  case atStart => exact ⟨0, rfl, by omega, hs1⟩
  case round =>
    obtain ⟨k, rfl, k1, hS⟩ := hrel
    clear hs1
    by_cases hk : k < s
    · have i2 : (k : Int) < (s : Int) := by omega
      have cs := rs_put (1000 + (k : Int)) hS.out (by rw [seq_len]; omega)
      go_wp2_with fail
      with_reducible refine Calls.mono (cs) ?_
      rintro e w2 ⟨rfl, hs2, _⟩
      replace hs2 := Lib.hid hs2
      clear cs hS
      go_wp2_with fail
      go_roundw
      case rel => exact ⟨k + 1, by go_num, by omega, hs2⟩
      case measure => simp [intOf]; omega
    · obtain rfl : k = s := by omega
      clear hk k1
      go_wp2_with fail
      go_loopw [9] (fun i wr => ∃ j : Nat, i = .int .i64 j ∧ j ≤ 1 + q ∧ Hid (Rs w wr p (nextOf j) (seqL 1000 k ++ seqL 0 (j - 1)))) (fun i _ => (1 + q - (intOf i).toNat))
      case atStart => exact ⟨0, rfl, by omega, by rw [show seqL 1000 k ++ seqL 0 (0 - 1) = seqL 1000 k from List.append_nil _]; exact hS⟩
      case round =>
        obtain ⟨j, rfl, j1, hS2⟩ := hrel
        clear hS
        by_cases hj : j < 1 + q
        · have i2 : (j : Int) < 1 + (q : Int) := by omega
          have cs : Calls Try.prog 17 #[.pointer (some ⟨p, 0, none⟩), .int .i64 j, .bool true] wr fun e w' => e = .returned (.slice none 0 0) ∧ Hid (Rs w w' p (nextOf (j + 1)) (seqL 1000 k ++ seqL 0 (j + 1 - 1))) := by
            cases j with
            | zero =>
              have h := hS2.out
              exact (rs_first 0 h).mono fun _ _ ⟨he, h2, _⟩ => ⟨he, h2⟩
            | succ j =>
              have h := hS2.out
              have hl : (seqL 1000 k ++ seqL 0 (j + 1 - 1)).length < 256 := by rw [List.length_append, seq_len, seq_len]; omega
              refine (rs_next (o := (j : Int)) ((j + 1 : Nat) : Int) h hl).mono fun _ _ ⟨he, h2, _⟩ => ⟨he, ?_⟩
              have e1 : seqL 1000 k ++ seqL 0 (j + 1 - 1) ++ [(j : Int)] = seqL 1000 k ++ seqL 0 (j + 1 + 1 - 1) := by
                rw [List.append_assoc]
                show _ = seqL 1000 k ++ (seqL 0 j ++ [0 + (j : Int)])
                rw [Int.zero_add]; rfl
              rw [← e1]; exact h2
          go_wp2_with fail
          with_reducible refine Calls.mono (cs) ?_
          rintro e w2 ⟨rfl, hs2⟩
          clear cs hS2
          go_wp2_with fail
          go_roundw
          case rel => exact ⟨j + 1, by go_num, by omega, hs2⟩
          case measure => simp [intOf]; omega
        · obtain rfl : j = 1 + q := by omega
          rw [show ((1 + q : Nat) : Int) = 1 + (q : Int) by omega]
          have hS3 : Hid (Rs w wr p (some (q : Int)) (seqL 1000 k ++ seqL 0 q)) := by
            have := hS2.out
            rw [show 1 + q - 1 = q by omega, show nextOf (1 + q) = some (q : Int) by rw [Nat.add_comm]; rfl] at this
            exact this
          have hsz := hS3.out.r.lt
          clear hS2 hj j1
          have hA : Below wr.heap.size wr (wr.alloc (.cells #[.int .i64 (1 + (q : Int) - 1)] 3)) := below_alloc (Below.refl _ _) _
          have hS4 := Lib.hid (hS3.out.below hA)
          have hr0 : Hid ((wr.alloc (.cells #[.int .i64 (1 + (q : Int) - 1)] 3)).ownsRow (p + 1) 3 1 (.slice (some ⟨wr.heap.size, 0, none⟩) 1 1) (1 + 0) (cells ([(q : Int)] ++ seqL 1000 0))) := by
            rw [show 1 + (q : Int) - 1 = (q : Int) by omega]
            exact World.ownsRow_lit wr #[.int .i64 (q : Int)] 1 (by omega) (by unfold maxLen; omega) rfl
          clear hA
          go_wp2_with fail
          clear hS3
          go_loopw [10, 11] (fun u i wr => ∃ j : Nat, i = .int .i64 j ∧ j ≤ k ∧ Hid (wr.ownsRow (p + 1) 3 1 u (1 + j) (cells ([(q : Int)] ++ seqL 1000 j))) ∧ Hid (Rs w wr p (some (q : Int)) (seqL 1000 k ++ seqL 0 q))) (fun _ i _ => (k - (intOf i).toNat))
          case atStart => exact ⟨0, rfl, by omega, hr0, hS4⟩
          case round =>
            obtain ⟨j, rfl, j1, hr, hS5⟩ := hrel
            clear hr0 hS4 hsz
            have hsz := hS5.out.r.lt
            by_cases hj : j < k
            · have i3 : (j : Int) < (k : Int) := by omega
              obtain ⟨sp1, cap1, rfl⟩ := own_slice hr.out
              have hmore : Hid (∀ (W : World) (v' : Value), W.ownsRow (p + 1) 3 1 v' (1 + j + 1) (cells ([(q : Int)] ++ seqL 1000 j) ++ [.int .i64 (1000 + (j : Int))]) → (wr.alloc (.cells #[.int .i64 (1000 + (j : Int))] 3)).grownBy W (Value.slice sp1 (1 + j) cap1).ownBlock → Hid (W.ownsRow (p + 1) 3 1 v' (1 + (j + 1)) (cells ([(q : Int)] ++ seqL 1000 (j + 1)))) ∧ Hid (Rs w W p (some (q : Int)) (seqL 1000 k ++ seqL 0 q))) := fun W v' h1 h2 => by
                have h3 := row_more hr.out h1 h2 hsz
                refine ⟨?_, hS5.out.above h3.2⟩
                have e : [(q : Int)] ++ seqL 1000 (j + 1) = [(q : Int)] ++ seqL 1000 j ++ [1000 + (j : Int)] := by
                  rw [List.append_assoc]; rfl
                rw [e]
                exact h3.1
              clear hS5
              generalize cells ([(q : Int)] ++ seqL 1000 j) = CA at *
              go_wp2_with (at_builtin; refine wpList_append_own _ rfl _ _ 26 rfl (p + 1) 3 i0 (.int .i64 0) 1 8 Try.underlying26 hi hz0 hz1 hz2 rfl (by decide) _ (1 + j) CA rfl (hr.out.alloc _) ⟨wr.heap.size, 0, none⟩ 1 1 [.int .i64 (1000 + (j : Int))] rfl rfl (news_one wr (.int .i64 (1000 + (j : Int))) 3) (fun x hx => by simp at hx; subst hx; rfl) (by unfold maxLen; omega) (by omega) (by show _ ≤ (wr.heap.push _).size; rw [Array.size_push]; omega) ?_; intro v' w3 hown3 hgrow hnil; clear hnil; have hm := hmore.out _ _ hown3 hgrow; clear hgrow hown3; obtain ⟨m1, m2⟩ := hm)
              go_roundw
              case rel => exact ⟨j + 1, by go_num, by omega, m1, m2⟩
              case measure => simp [intOf]; omega
            · obtain rfl : j = k := by omega
              clear hj j1
              go_wp2_with fail
              go_loopw [10, 12] (fun u i wr => ∃ m : Nat, i = .int .i64 m ∧ m ≤ q ∧ Hid (wr.ownsRow (p + 1) 3 1 u (1 + j + m) (cells ([(q : Int)] ++ seqL 1000 j ++ seqL 0 m))) ∧ Hid (Rs w wr p (some (q : Int)) (seqL 1000 j ++ seqL 0 q))) (fun _ i _ => (q - (intOf i).toNat))
              case atStart => exact ⟨0, rfl, by omega, by rw [show [(q : Int)] ++ seqL 1000 j ++ seqL 0 0 = [(q : Int)] ++ seqL 1000 j from List.append_nil _]; exact hr, hS5⟩
              case round =>
                obtain ⟨m, rfl, m1, hr6, hS6⟩ := hrel
                clear hr hS5 hsz
                have hsz := hS6.out.r.lt
                by_cases hm : m < q
                · have i4 : (m : Int) < (q : Int) := by omega
                  obtain ⟨sp1, cap1, rfl⟩ := own_slice hr6.out
                  have hmore : Hid (∀ (W : World) (v' : Value), W.ownsRow (p + 1) 3 1 v' (1 + j + m + 1) (cells ([(q : Int)] ++ seqL 1000 j ++ seqL 0 m) ++ [.int .i64 (m : Int)]) → (wr.alloc (.cells #[.int .i64 (m : Int)] 3)).grownBy W (Value.slice sp1 (1 + j + m) cap1).ownBlock → Hid (W.ownsRow (p + 1) 3 1 v' (1 + j + (m + 1)) (cells ([(q : Int)] ++ seqL 1000 j ++ seqL 0 (m + 1)))) ∧ Hid (Rs w W p (some (q : Int)) (seqL 1000 j ++ seqL 0 q))) := fun W v' h1 h2 => by
                    have h3 := row_more hr6.out h1 h2 hsz
                    refine ⟨?_, hS6.out.above h3.2⟩
                    have e : [(q : Int)] ++ seqL 1000 j ++ seqL 0 (m + 1) = [(q : Int)] ++ seqL 1000 j ++ seqL 0 m ++ [(m : Int)] := by
                      rw [List.append_assoc _ (seqL 0 m)]
                      show _ ++ (seqL 0 m ++ [0 + (m : Int)]) = _
                      rw [Int.zero_add]
                    rw [e]
                    exact h3.1
                  clear hS6
                  generalize cells ([(q : Int)] ++ seqL 1000 j ++ seqL 0 m) = CA at *
                  go_wp2_with (at_builtin; refine wpList_append_own _ rfl _ _ 26 rfl (p + 1) 3 i0 (.int .i64 0) 1 8 Try.underlying26 hi hz0 hz1 hz2 rfl (by decide) _ (1 + j + m) CA rfl (hr6.out.alloc _) ⟨wr.heap.size, 0, none⟩ 1 1 [.int .i64 (m : Int)] rfl rfl (news_one wr (.int .i64 (m : Int)) 3) (fun x hx => by simp at hx; subst hx; rfl) (by unfold maxLen; omega) (by omega) (by show _ ≤ (wr.heap.push _).size; rw [Array.size_push]; omega) ?_; intro v' w3 hown3 hgrow hnil; clear hnil; have hm2 := hmore.out _ _ hown3 hgrow; clear hgrow hown3; obtain ⟨n1, n2⟩ := hm2)
                  go_roundw
                  case rel => exact ⟨m + 1, by go_num, by omega, n1, n2⟩
                  case measure => simp [intOf]; omega
                · obtain rfl : m = q := by omega
                  clear hm m1
                  obtain ⟨sp7, cap7, rfl⟩ := own_slice hr6.out
                  obtain ⟨n, hn⟩ : ∃ n, 1 + j + m = n := ⟨_, rfl⟩
                  obtain ⟨WL, hWL⟩ : ∃ WL, [(m : Int)] ++ seqL 1000 j ++ seqL 0 m = WL := ⟨_, rfl⟩
                  have hWn : WL.length = n := by rw [← hWL, List.length_append, List.length_append, seq_len, seq_len, ← hn]; rfl
                  have hall : allOf (some (m : Int)) (seqL 1000 j ++ seqL 0 m) = WL := by rw [← hWL, List.append_assoc]; rfl
                  rw [hn, hWL] at hr6
                  have hn1 : 1 ≤ n := by omega
                  have hn2 : n ≤ 300 := by omega
                  have hlow := hS6.out.r.lt
                  have ca := rs_all hS6.out
                  rw [hall] at ca
                  have hcl : Hid (∀ W, Rs w W p (some (m : Int)) (seqL 1000 j ++ seqL 0 m) → Calls Try.prog 25 #[.pointer (some ⟨p, 0, none⟩)] W (Still (.int .i64 (n : Int)) W)) := fun W h => by
                    have := rs_len h
                    rwa [hall, hWn] at this
                  replace hall := Lib.hid hall
                  replace hWn := Lib.hid hWn
                  replace hn := Lib.hid hn
                  clear hWL hS6 hsz
                  rw [hn.out]
                  go_wp2_with fail
                  with_reducible refine Calls.mono (ca) ?_
                  rintro e w7 ⟨v7, rfl, hs7, hi7, hb7⟩
                  have hr7 := row_below hr6.out hb7
                  obtain ⟨hr8, hi8⟩ : Hid (w7.ownsRow (p + 1) 3 1 (.slice sp7 n cap7) n (cells WL)) ∧ Hid (Ints w7 (fun _ => True) (.slice sp7 n cap7) WL) := ⟨hr7, (ints_of_owns hr7).wider (fun _ _ _ => trivial)⟩
                  have ci := ints_any hi7 hi8.out
                  obtain ⟨sp8, cap8, rfl, _⟩ := hi7
                  replace hs7 := Lib.hid hs7
                  clear ca hr6 hr7 hb7 hi8
                  go_wp2_with fail
                  with_reducible refine Calls.mono (ci) ?_
                  rintro e w8 ⟨rfl, c8, rfl⟩
                  have hbd : Below w7.heap.size w7 (w7.drewN c8) := below_drewN (Below.refl _ _) c8
                  have hs8 := Lib.hid (hs7.out.below hbd)
                  have hr9 := Lib.hid (row_below hr8.out hbd)
                  have cl := hcl.out _ hs8.out
                  clear ci hs7 hr8 hbd hcl
                  go_wp2_with fail
                  with_reducible refine Calls.mono (cl) ?_
                  rintro e w9 ⟨rfl, rfl⟩
                  clear cl
                  go_wp2_with fail
                  go_loopw [13] (fun i wr => ∃ t : Nat, i = .int .i64 t ∧ t ≤ n ∧ Hid (wr.ownsRow (p + 1) 3 1 (.slice sp7 n cap7) n (cells WL)) ∧ ∃ nx L, Hid (Rs w wr p nx L) ∧ Hid (allOf nx L = WL.drop t)) (fun i _ => (n - (intOf i).toNat))
                  case atStart => exact ⟨0, rfl, by omega, hr9, _, _, hs8, hall⟩
                  case round =>
                    obtain ⟨t, rfl, t1, hrA, nx, LL, hSA, hLA⟩ := hrel
                    clear hr9 hs8
                    by_cases hT : t < n
                    · have i5 : (t : Int) < (n : Int) := by omega
                      have i6 : (0 : Int) ≤ (t : Int) := by omega
                      have hd := drop_at WL (i := t) (by rw [hWn.out]; exact hT)
                      have cg := rs_get hSA.out (hLA.out.trans hd)
                      have hkeep : Hid (∀ W, Wrote (at_ p) wr (at_ p) W → Hid (W.ownsRow (p + 1) 3 1 (.slice sp7 n cap7) n (cells WL))) := fun W ht => row_stays hrA.out ht
                      clear hd hrA hSA hLA
                      go_wp2_with fail
                      with_reducible refine Calls.mono (cg) ?_
                      rintro e wB ⟨rfl, hsB, htB⟩
                      have hrB := hkeep.out _ htB
                      obtain ⟨b, cap, hv, b1, b2, b3, b4⟩ := own_at hrB.out hT
                      obtain ⟨rfl, rfl⟩ : sp7 = some ⟨b, 0, none⟩ ∧ cap7 = cap := by simpa using hv
                      have hsB2 : Hid (Rs w wB p none (WL.drop (t + 1))) := hsB
                      have hLB : Hid (allOf none (WL.drop (t + 1)) = WL.drop (t + 1)) := rfl
                      generalize WL.getD t 0 = x at *
                      clear cg hkeep hv htB hsB b4
                      go_wp2_with fail
                      go_roundw
                      case rel => exact ⟨t + 1, by go_num, by omega, hrB, _, _, hsB2, hLB⟩
                      case measure => simp [intOf]; omega
                    · obtain rfl : t = n := by omega
                      have cg := rs_no hSA.out (hLA.out.trans (by rw [List.drop_eq_nil_iff]; rw [hWn.out]; exact Nat.le_refl _))
                      clear hrA
                      go_wp2_with fail
                      with_reducible refine Calls.mono (cg) ?_
                      rintro e wB ⟨rfl, rfl⟩
                      clear cg
                      go_wp2_with fail
                      with_reducible refine Calls.mono (ct _) ?_
                      rintro e wC ⟨rfl, hbC⟩
                      have hfin := Lib.hid (hSA.out.below hbC).bel
                      clear hSA hbC
                      go_wp2_with fail
                      go_ret
                      exact ⟨rfl, hfin.out⟩

set_option maxRecDepth 100000 in
theorem lifted (os : Os) (started : os.Started) (H : Type) (enc : TypeId × Value → H) :
    ReturnsInHanded {} Try.checked os 6 .any (Rows.ringNextsSpec.pre6 enc Try.prog Try.f6 Rows.ringNextsRow.domain false) (Rows.ringNextsSpec.post enc Try.prog Try.f6 false true false false) := by
  refine returnsInHanded_of_change (C := Try.checked) own started (by kernel_rfl) Try.func6
    (ChangeSpec.witness6 (enc := enc) (C := Try.checked) false ⟨#[], #[.int .i64 0, .int .i64 0], []⟩ 8 (by kernel_rfl) (by kernel_rfl) (by kernel_rfl) (by kernel_rfl)) ?_
  intro W base args ds gs before hval0 hW hcnd _
  have hval : ∀ (j : Nat) t v, Try.f6.params[j]? = some t → args[j]? = some v → Value.okWide Try.prog W .any base t v := hval0
  have hW' := hW
  obtain ⟨p, q, hA0, hV, rfl, hfz, hnd⟩ := hW
  have hA : DataW.TrodAll enc Try.prog W 0 (fun _ => true) true Try.f6.params.toList args.toList ds p := hA0
  rw [Try.params6] at hA hval
  obtain ⟨v0, vs0, d0, ds0, p0, q0, hargs, rfl, rfl, h0, r0⟩ := trodAll_cons hA
  obtain ⟨v1, vs1, d1, ds1, p1, q1, rfl, rfl, rfl, h1, r1⟩ := trodAll_cons r0
  obtain ⟨rfl, rfl, rfl⟩ := trodAll_nil r1
  obtain rfl : args = #[v0, v1] := by cases args; simp_all
  obtain ⟨rfl, rfl⟩ := trodVars_none hV
  obtain ⟨a0, rfl, rfl, rfl, w0⟩ := open_int Try.underlying3 (hval 0 3 v0 rfl rfl) h0
  obtain ⟨a1, rfl, rfl, rfl, w1⟩ := open_int Try.underlying3 (hval 1 3 v1 rfl rfl) h1
  clear hA0 hval0
  simp only [List.append_nil] at hW'
  refine (walk a0 a1 W w0 w1).mono fun e W' ⟨he, hg⟩ => ?_
  subst he
  exact ⟨_, rfl, post_of_kept (pa := _) (pv := []) hW' (fun _ _ _ => (trodAll_cons_mk (shut_bool Try.underlying4 _) trodAll_mk0)) (trodAll_cons_mk (shut_int Try.underlying3 w0) (trodAll_cons_mk (shut_int Try.underlying3 w1) trodAll_mk0)) (fun _ _ => rfl) (by simp) hg⟩

theorem over : Rows.ringNextsRow.holds Try.pinned (OpenSpec.ofChange Rows.ringNextsSpec) :=
  OpenClaim.holds_of_wide 6 Try.f6 rfl rfl rfl rfl rfl rfl rfl ⟨rfl, rfl, rfl, rfl, rfl⟩ rfl rfl rfl rfl rfl (by kernel_rfl) Try.func6 (by kernel_rfl)
    (of_decide_eq_true (by kernel_rfl)) (by unfold Func.isWrapper; first | (rw [if_pos (by decide +kernel)]; kernel_rfl) | (rw [if_neg (by decide +kernel)]; exact ⟨rfl, rfl⟩))
    (fun os started H enc _ => lifted os started H enc)

theorem proved : Rows.RingNextsSaid :=
  over
#print axioms proved
end Go.Proofs.Yteigcjgohhgjcaa.ringNexts
