/- An id that is taken out is nowhere, wherever it stood, and may be put again: any of some ids in any of the rows; no conditions. -/
import Derived.Test.YtejijddhmckgiaaHome
import Derived.Test.YtejijddhmckgiaaCenTot
import Derived.WalkKit
import Derived.ProofKit
import Derived.OpenShut
import Derived.Deep.RegionHeld3
import Derived.Deep.RegionWith
import Derived.Deep.Cut
import Derived.Deep.CutBlock
import Derived.Deep.CutRange
import Derived.Deep.LoopGhost
import Derived.Deep.DeepCutAuto
import Derived.RegionTactic
import Derived.StillTailTactics
namespace Go.Proofs.Ytejijddhmckgiaa.centralDels
open Go.ChangeShapes Go.WideShapes Go.ChangeAt Go.WideElems Go.RowKit Go.Lib Fx Ho Ce Rw
set_option linter.unusedVariables false

theorem own : ownKnob Try.prog.godebug = none := by kernel_rfl

/-- The ids that stand there are those from 0 to m - 1; u of them unswept, s swept. -/
def Dq (m u s : Nat) (Q : Ce.Rows) : Prop := Apart Q ∧ (∀ y, inQ Q y = true ↔ 0 ≤ y ∧ y < (m : Int)) ∧ uns Q 32 = u ∧ msum Q 32 = s
theorem dq_put {m r : Nat} {Q : Ce.Rows} (h : Dq m 0 m Q) (hr : r % 4 < 2) (hr2 : r < 64) : Dq (m + 1) 0 (m + 1) (putQ Q r (m : Int)) := by
  obtain ⟨h1, h2, h3, h4⟩ := h
  have hno : inQ Q (m : Int) = false := by
    rw [Bool.eq_false_iff]; intro e
    have := (h2 _).1 e; omega
  refine ⟨apart_put h1 hr2 _, fun y => ?_, ?_, ?_⟩
  · rw [in_put h1 hr2, h2]; omega
  · rw [uns_put hr, del_not h1 hno, h3]
  · rw [msum_put hr hr2, del_not h1 hno, h4]
theorem dq_beg {m : Nat} {Q : Ce.Rows} (h : Dq m 0 m Q) (hA : Apart (begQ Q)) : Dq m m 0 (begQ Q) := by
  obtain ⟨h1, h2, h3, h4⟩ := h
  exact ⟨hA, fun y => by rw [in_beg h1, h2], by rw [uns_beg 32 (by omega), h3, h4]; omega, msum_beg 32 (by omega)⟩
theorem uns_le_del {Q : Ce.Rows} (h : Apart Q) (x : Int) (hi : inQ Q x = true) (h0 : uns Q 32 = 0) : uns (delQ Q x) 32 = 0 := by
  obtain ⟨r, hr, hm⟩ := inQ_at hi
  have := uns_del h hm 32
  omega
theorem uns_del_all {Q : Ce.Rows} (h : Apart Q) (x : Int) (hi : inQ Q x = true) (h0 : msum Q 32 = 0) : uns (delQ Q x) 32 = uns Q 32 - 1 := by
  have := tot_del h hi
  obtain ⟨r, hr, hm⟩ := inQ_at hi
  have h2 := msum_del h hm 32
  omega
set_option maxRecDepth 100000 in
set_option maxHeartbeats 4000000 in
theorem walk (a0 : Int) (a1 : Int) (a2 : Bool) (a3 : Bool) (w : World) (w0 : (Lit.int .i64 a0).wf = true) (w1 : (Lit.int .i64 a1).wf = true) :
    Calls Try.prog 4 #[.int .i64 a0, .int .i64 a1, .bool a2, .bool a3] w fun e w' => e = .returned (.bool true) ∧ Below w.heap.size w w' := by
  obtain ⟨U, hU⟩ : ∃ U : Int, IntKind.u64.wrap a0 = U := ⟨_, rfl⟩
  have U0 : 0 ≤ U := by rw [← hU, IntKind.wrap_u64]; omega
  obtain ⟨Y, hY⟩ : ∃ Y : Int, IntKind.u64.wrap a1 = Y := ⟨_, rfl⟩
  have Y0 : 0 ≤ Y := by rw [← hY, IntKind.wrap_u64]; omega
  obtain ⟨k, hk⟩ : ∃ k : Nat, 1 + U % 20 = (k : Int) := ⟨(1 + U % 20).toNat, by omega⟩
  have k0 : 1 ≤ k := by omega
  have k1 : k ≤ 20 := by omega
  have hu : IntKind.u64.wrap (k : Int) = (k : Int) := by rw [IntKind.wrap_u64]; omega
  have cn := x_new w
  go_enter Try.func4, Try.ntmps4
  clear w0 w1
  go_wp2_with fail
  with_reducible refine Calls.mono (cn) ?_
  rintro e wa ⟨p, rfl, h1⟩
  have hst : Hid (∃ Q, Dq 0 0 0 Q ∧ Cx w wa p 0 Q) := Lib.hid ⟨_, ⟨apart_nil, fun y => ⟨fun h => (by obtain ⟨r, _, hm⟩ := inQ_at h; cases hm), fun h => (by omega)⟩, uns_nil 32, msum_nil 32⟩, h1⟩
  clear cn h1
  go_wp2_with fail
  replace hY := Lib.hid hY
  replace hu := Lib.hid hu
  clear hk hU U0
  go_loopw [11] (fun v wr => ∃ i : Nat, v = .int .i64 i ∧ i ≤ k ∧ Hid (∃ Q, Dq i 0 i Q ∧ Cx w wr p i Q)) (fun v _ => (k - (RowKit.intOf v).toNat))
  case atStart => exact ⟨0, rfl, by omega, hst⟩
  case round =>
    clear hst
    obtain ⟨i, rfl, i1, hC⟩ := hrel
    by_cases hi : i < k
    · have i2 : (i : Int) < (k : Int) := by omega
      have i0 : (0 : Int) ≤ (i : Int) := by omega
      have i3 : (i : Int) ≤ 20 := by omega
      obtain ⟨Q, hQ, hc⟩ := hC.out
      obtain ⟨q, hq⟩ : ∃ q : Nat, (i : Int) % 16 = (q : Int) := ⟨i % 16, by omega⟩
      have q1 : q < 16 := by omega
      have cp := x_put (k := q) hc (by omega) q1 (wf_of (x := (i : Int)) (by omega)) a2
      have hnx : Hid (∀ W, Cx w W p (i + 1) (putQ Q (q * 4 + cond a2 1 0) (i : Int)) → ∃ Q, Dq (i + 1) 0 (i + 1) Q ∧ Cx w W p (i + 1) Q) := Lib.hid fun W h => ⟨_, dq_put hQ (by cases a2 <;> simp <;> omega) (by cases a2 <;> simp <;> omega), h⟩
      clear hC hQ hc
      go_wp2_with fail
      with_reducible refine Calls.mono (cp) ?_
      rintro e wb ⟨rfl, hC⟩
      have hC2 := Lib.hid (hnx.out wb hC)
      clear cp hnx hC hq q1
      go_wp2_with fail
      go_roundw
      case rel => exact ⟨i + 1, by go_num, by omega, hC2⟩
      case measure => simp [RowKit.intOf]; omega
    · obtain rfl : k = i := by omega
      have i2 : ¬ (k : Int) < (k : Int) := by omega
      obtain ⟨x, hx⟩ : ∃ x : Nat, Y % (k : Int) = (x : Int) := ⟨(Y % (k : Int)).toNat, by have := Int.emod_nonneg Y (show (k : Int) ≠ 0 by omega); omega⟩
      have xk : x < k := by have := Int.emod_lt_of_pos Y (show (0 : Int) < (k : Int) by omega); omega
      have hY2 := hY.out
      have hx2 : Y.tmod (k : Int) = (x : Int) := by rw [Int.tmod_eq_emod_of_nonneg Y0]; exact hx
      have hx3 : wrap64 (x : Int) = (x : Int) := by unfold wrap64; omega
      have hu2 := hu.out
      obtain ⟨q, hq⟩ : ∃ q : Nat, (x : Int) % 16 = (q : Int) := ⟨x % 16, by omega⟩
      have q1 : q < 16 := by omega
      have x0 : (0 : Int) ≤ (x : Int) := by omega
      have x1 : (x : Int) ≤ 20 := by omega
      have k2 : (k : Int) ≤ 20 := by omega
      have k3 : (0 : Int) ≤ (k : Int) := by omega
      have hk1 : (((k : Int) - 1) != ((k : Int) - 1)) = false := by simp
      obtain ⟨Q, hQ, hc⟩ := hC.out
      clear hC hY hu
      cases a3 with
      | true =>
        have cb := x_begin hc (by rw [hQ.2.2.2]; omega)
        rw [hQ.2.2.2] at cb
        have hnx : Hid (∀ W, Cx w W p (k + k) (begQ Q) → Dq k k 0 (begQ Q) ∧ Cx w W p (k + k) (begQ Q)) := Lib.hid fun W h => ⟨dq_beg hQ h.apart, h⟩
        clear hQ hc
        generalize begQ Q = Q0 at *
        go_wp2_with fail
        with_reducible refine Calls.mono (cb) ?_
        rintro e wc ⟨rfl, h1⟩
        obtain ⟨hQ, hc⟩ := hnx.out wc h1
        clear cb hnx h1
        obtain ⟨n, hn⟩ : ∃ n, k + k = n := ⟨_, rfl⟩
        rw [hn] at hc
        have hn2 : n ≤ 40 := by omega
        clear hn
        obtain ⟨Q1, hQ1⟩ : ∃ Q1, delQ Q0 (x : Int) = Q1 := ⟨_, rfl⟩
        have hin : inQ Q0 (x : Int) = true := (hQ.2.1 _).2 (by omega)
        have huv : uns Q1 32 = k - 1 := by rw [← hQ1, uns_del_all hQ.1 _ hin hQ.2.2.2, hQ.2.2.1]
        have hno : inQ Q1 (x : Int) = false := by rw [← hQ1, Bool.eq_false_iff]; intro e; exact ((in_del hQ.1).1 e).1 rfl
        have hA1 : Apart Q1 := by rw [← hQ1]; exact apart_del hQ.1 _
        have hsame : delQ Q1 (x : Int) = Q1 := del_not hA1 hno
        have hno7 : inQ Q1 ((k : Int) + 7) = false := by
          rw [← hQ1, Bool.eq_false_iff]; intro e
          have := (hQ.2.1 _).1 ((in_del hQ.1).1 e).2
          omega
        have hsame7 : delQ Q1 ((k : Int) + 7) = Q1 := del_not hA1 hno7
        have f1 : Calls Try.prog 22 #[.pointer (some ⟨p, 0, none⟩), .int .i64 x] wc (Xs (.bool true) w p n Q1) := by
          have := x_del hc (by omega) (wf_of (x := (x : Int)) (by omega))
          rw [hin, hQ1] at this; exact this
        have f2 : Hid (∀ W n, n ≤ 1000 → Cx w W p n Q1 → Calls Try.prog 22 #[.pointer (some ⟨p, 0, none⟩), .int .i64 x] W (Xs (.bool false) w p n Q1)) := Lib.hid fun W n hn h => by
          have := x_del h (by omega) (wf_of (x := (x : Int)) (by omega))
          rw [hno, hsame] at this; exact this
        have f7 : Hid (∀ W n, n ≤ 1000 → Cx w W p n Q1 → Calls Try.prog 22 #[.pointer (some ⟨p, 0, none⟩), .int .i64 ((k : Int) + 7)] W (Xs (.bool false) w p n Q1)) := Lib.hid fun W n hn h => by
          have := x_del h (by omega) (wf_of (x := (k : Int) + 7) (by omega))
          rw [hno7, hsame7] at this; exact this
        have f3 : Hid (∀ W, Cx w W p n Q1 → Calls Try.prog 23 #[.pointer (some ⟨p, 0, none⟩)] W (Still (.int .i64 ((k : Int) - 1)) W)) := Lib.hid fun W h => by
          have := x_uns h (by omega)
          rw [huv, show ((k - 1 : Nat) : Int) = (k : Int) - 1 by omega] at this; exact this
        have f4 : Hid (∀ W, Cx w W p n Q1 → Calls Try.prog 20 #[.pointer (some ⟨p, 0, none⟩), .int .i64 q, .int .i64 x, .bool false] W (Xs (.tuple #[]) w p (n + 1) (putQ Q1 (q * 4) (x : Int)))) := Lib.hid fun W h => x_put h (by omega) q1 (wf_of (x := (x : Int)) (by omega)) false
        have f5 : Hid (∀ W, Cx w W p (n + 1) (putQ Q1 (q * 4) (x : Int)) → Calls Try.prog 24 #[.pointer (some ⟨p, 0, none⟩), .int .i64 q] W (Xs (.tuple #[.int .i64 x, .bool false, .bool true]) w p (n + 1) Q1)) := Lib.hid fun W h => x_take h (by omega) q1 (take_put q (x : Int)).1 (by rw [(take_put q (x : Int)).2, hsame])
        clear hc hQ hQ1 hno hA1 hsame hno7 hsame7 hin huv
        generalize putQ Q1 (q * 4) (x : Int) = Q2 at *
        go_wp2_with fail
        with_reducible refine Calls.mono f1 ?_
        rintro e wd ⟨rfl, h1⟩
        clear f1
        have g2 := f2.out _ _ (by omega) h1
        clear h1
        go_wp2_with fail
        with_reducible refine Calls.mono g2 ?_
        rintro e we ⟨rfl, h1⟩
        clear g2
        have g3 := f3.out _ h1
        have g4 := f4.out _ h1
        clear h1 f3 f4
        go_wp2_with fail
        with_reducible refine Calls.mono g3 ?_
        rintro e wf ⟨rfl, ew⟩
        subst ew
        clear g3
        go_wp2_with fail
        with_reducible refine Calls.mono g4 ?_
        rintro e wg ⟨rfl, h1⟩
        clear g4
        have g5 := f5.out _ h1
        clear f5 h1
        go_wp2_with fail
        with_reducible refine Calls.mono g5 ?_
        rintro e wh ⟨rfl, h1⟩
        clear g5
        replace h1 := Lib.hid h1
        have gn := take_nil 0 wh
        go_wp2_with fail
        with_reducible refine Calls.mono gn ?_
        rintro e wi ⟨rfl, ew⟩
        subst ew
        clear gn
        have gt := told_any wh
        go_wp2_with fail
        with_reducible refine Calls.mono gt ?_
        rintro e wj ⟨rfl, hb⟩
        clear gt
        have h2 := h1.out.below hb
        have g6 := f2.out _ _ (by omega) h2
        clear h1 h2 hb f2
        go_wp2_with fail
        with_reducible refine Calls.mono g6 ?_
        rintro e wk ⟨rfl, h1⟩
        clear g6
        have g7 := f7.out _ _ (by omega) h1
        clear f7 h1
        go_wp2_with fail
        with_reducible refine Calls.mono g7 ?_
        rintro e wl ⟨rfl, h1⟩
        clear g7
        have hbel := Lib.hid h1.bel
        clear h1
        have gu := unswept_nil wl
        go_wp2_with fail
        with_reducible refine Calls.mono gu ?_
        rintro e wm ⟨rfl, ew⟩
        subst ew
        clear gu
        have gd := del_nil 0 wl
        go_wp2_with fail
        with_reducible refine Calls.mono gd ?_
        rintro e wn ⟨rfl, ew⟩
        subst ew
        clear gd
        go_wp2_with fail
        go_ret
        exact ⟨rfl, hbel.out⟩
      | false =>
        obtain ⟨n, hn⟩ : ∃ n, k = n := ⟨_, rfl⟩
        have hn2 : n ≤ 40 := by omega
        have hc : Cx w wr p n Q := hn ▸ hc
        clear hn
        obtain ⟨Q1, hQ1⟩ : ∃ Q1, delQ Q (x : Int) = Q1 := ⟨_, rfl⟩
        have hin : inQ Q (x : Int) = true := (hQ.2.1 _).2 (by omega)
        have huv : uns Q1 32 = 0 := by rw [← hQ1]; exact uns_le_del hQ.1 _ hin hQ.2.2.1
        have hno : inQ Q1 (x : Int) = false := by rw [← hQ1, Bool.eq_false_iff]; intro e; exact ((in_del hQ.1).1 e).1 rfl
        have hA1 : Apart Q1 := by rw [← hQ1]; exact apart_del hQ.1 _
        have hsame : delQ Q1 (x : Int) = Q1 := del_not hA1 hno
        have hno7 : inQ Q1 ((k : Int) + 7) = false := by
          rw [← hQ1, Bool.eq_false_iff]; intro e
          have := (hQ.2.1 _).1 ((in_del hQ.1).1 e).2
          omega
        have hsame7 : delQ Q1 ((k : Int) + 7) = Q1 := del_not hA1 hno7
        have f1 : Calls Try.prog 22 #[.pointer (some ⟨p, 0, none⟩), .int .i64 x] wr (Xs (.bool true) w p n Q1) := by
          have := x_del hc (by omega) (wf_of (x := (x : Int)) (by omega))
          rw [hin, hQ1] at this; exact this
        have f2 : Hid (∀ W n, n ≤ 1000 → Cx w W p n Q1 → Calls Try.prog 22 #[.pointer (some ⟨p, 0, none⟩), .int .i64 x] W (Xs (.bool false) w p n Q1)) := Lib.hid fun W n hn h => by
          have := x_del h (by omega) (wf_of (x := (x : Int)) (by omega))
          rw [hno, hsame] at this; exact this
        have f7 : Hid (∀ W n, n ≤ 1000 → Cx w W p n Q1 → Calls Try.prog 22 #[.pointer (some ⟨p, 0, none⟩), .int .i64 ((k : Int) + 7)] W (Xs (.bool false) w p n Q1)) := Lib.hid fun W n hn h => by
          have := x_del h (by omega) (wf_of (x := (k : Int) + 7) (by omega))
          rw [hno7, hsame7] at this; exact this
        have f3 : Hid (∀ W, Cx w W p n Q1 → Calls Try.prog 23 #[.pointer (some ⟨p, 0, none⟩)] W (Still (.int .i64 0) W)) := Lib.hid fun W h => by
          have := x_uns h (by omega)
          rw [huv] at this; exact this
        have f4 : Hid (∀ W, Cx w W p n Q1 → Calls Try.prog 20 #[.pointer (some ⟨p, 0, none⟩), .int .i64 q, .int .i64 x, .bool false] W (Xs (.tuple #[]) w p (n + 1) (putQ Q1 (q * 4) (x : Int)))) := Lib.hid fun W h => x_put h (by omega) q1 (wf_of (x := (x : Int)) (by omega)) false
        have f5 : Hid (∀ W, Cx w W p (n + 1) (putQ Q1 (q * 4) (x : Int)) → Calls Try.prog 24 #[.pointer (some ⟨p, 0, none⟩), .int .i64 q] W (Xs (.tuple #[.int .i64 x, .bool false, .bool true]) w p (n + 1) Q1)) := Lib.hid fun W h => x_take h (by omega) q1 (take_put q (x : Int)).1 (by rw [(take_put q (x : Int)).2, hsame])
        clear hc hQ hQ1 hno hA1 hsame hno7 hsame7 hin huv
        generalize putQ Q1 (q * 4) (x : Int) = Q2 at *
        go_wp2_with fail
        with_reducible refine Calls.mono f1 ?_
        rintro e wd ⟨rfl, h1⟩
        clear f1
        have g2 := f2.out _ _ (by omega) h1
        clear h1
        go_wp2_with fail
        with_reducible refine Calls.mono g2 ?_
        rintro e we ⟨rfl, h1⟩
        clear g2
        have g3 := f3.out _ h1
        have g4 := f4.out _ h1
        clear h1 f3 f4
        go_wp2_with fail
        with_reducible refine Calls.mono g3 ?_
        rintro e wf ⟨rfl, ew⟩
        subst ew
        clear g3
        go_wp2_with fail
        with_reducible refine Calls.mono g4 ?_
        rintro e wg ⟨rfl, h1⟩
        clear g4
        have g5 := f5.out _ h1
        clear f5 h1
        go_wp2_with fail
        with_reducible refine Calls.mono g5 ?_
        rintro e wh ⟨rfl, h1⟩
        clear g5
        replace h1 := Lib.hid h1
        have gn := take_nil 0 wh
        go_wp2_with fail
        with_reducible refine Calls.mono gn ?_
        rintro e wi ⟨rfl, ew⟩
        subst ew
        clear gn
        have gt := told_any wh
        go_wp2_with fail
        with_reducible refine Calls.mono gt ?_
        rintro e wj ⟨rfl, hb⟩
        clear gt
        have h2 := h1.out.below hb
        have g6 := f2.out _ _ (by omega) h2
        clear h1 h2 hb f2
        go_wp2_with fail
        with_reducible refine Calls.mono g6 ?_
        rintro e wk ⟨rfl, h1⟩
        clear g6
        have g7 := f7.out _ _ (by omega) h1
        clear f7 h1
        go_wp2_with fail
        with_reducible refine Calls.mono g7 ?_
        rintro e wl ⟨rfl, h1⟩
        clear g7
        have hbel := Lib.hid h1.bel
        clear h1
        have gu := unswept_nil wl
        go_wp2_with fail
        with_reducible refine Calls.mono gu ?_
        rintro e wm ⟨rfl, ew⟩
        subst ew
        clear gu
        have gd := del_nil 0 wl
        go_wp2_with fail
        with_reducible refine Calls.mono gd ?_
        rintro e wn ⟨rfl, ew⟩
        subst ew
        clear gd
        go_wp2_with fail
        go_ret
        exact ⟨rfl, hbel.out⟩

set_option maxRecDepth 100000 in
theorem lifted (os : Os) (started : os.Started) (H : Type) (enc : TypeId × Value → H) :
    ReturnsInHanded {} Try.checked os 4 .any (Rows.centralDelsSpec.pre6 enc Try.prog Try.f4 Rows.centralDelsRow.domain false) (Rows.centralDelsSpec.post enc Try.prog Try.f4 false true false false) := by
  refine returnsInHanded_of_change (C := Try.checked) own started (by kernel_rfl) Try.func4
    (ChangeSpec.witness6 (enc := enc) (C := Try.checked) false ⟨#[], #[.int .i64 0, .int .i64 0, .bool false, .bool false], []⟩ 8 (by kernel_rfl) (by kernel_rfl) (by kernel_rfl) (by kernel_rfl)) ?_
  intro W base args ds gs before hval0 hW hcnd _
  have hval : ∀ (j : Nat) t v, Try.f4.params[j]? = some t → args[j]? = some v → Value.okWide Try.prog W .any base t v := hval0
  have hW' := hW
  obtain ⟨p, q, hA0, hV, rfl, hfz, hnd⟩ := hW
  have hA : DataW.TrodAll enc Try.prog W 0 (fun _ => true) true Try.f4.params.toList args.toList ds p := hA0
  rw [Try.params4] at hA hval
  obtain ⟨v0, vs0, d0, ds0, p0, q0, hargs, rfl, rfl, h0, r0⟩ := trodAll_cons hA
  obtain ⟨v1, vs1, d1, ds1, p1, q1, rfl, rfl, rfl, h1, r1⟩ := trodAll_cons r0
  obtain ⟨v2, vs2, d2, ds2, p2, q2, rfl, rfl, rfl, h2, r2⟩ := trodAll_cons r1
  obtain ⟨v3, vs3, d3, ds3, p3, q3, rfl, rfl, rfl, h3, r3⟩ := trodAll_cons r2
  obtain ⟨rfl, rfl, rfl⟩ := trodAll_nil r3
  obtain rfl : args = #[v0, v1, v2, v3] := by cases args; simp_all
  obtain ⟨rfl, rfl⟩ := trodVars_none hV
  obtain ⟨a0, rfl, rfl, rfl, w0⟩ := open_int Try.underlying3 (hval 0 3 v0 rfl rfl) h0
  obtain ⟨a1, rfl, rfl, rfl, w1⟩ := open_int Try.underlying3 (hval 1 3 v1 rfl rfl) h1
  obtain ⟨a2, rfl, rfl, rfl⟩ := open_bool Try.underlying4 (hval 2 4 v2 rfl rfl) h2
  obtain ⟨a3, rfl, rfl, rfl⟩ := open_bool Try.underlying4 (hval 3 4 v3 rfl rfl) h3
  clear hA0 hval0
  simp only [List.append_nil] at hW'
  refine (walk a0 a1 a2 a3 W w0 w1).mono fun e W' ⟨he, hg⟩ => ?_
  subst he
  exact ⟨_, rfl, post_of_kept (pa := _) (pv := []) hW' (fun _ _ _ => (trodAll_cons_mk (shut_bool Try.underlying4 _) trodAll_mk0)) (trodAll_cons_mk (shut_int Try.underlying3 w0) (trodAll_cons_mk (shut_int Try.underlying3 w1) (trodAll_cons_mk (shut_bool Try.underlying4 _) (trodAll_cons_mk (shut_bool Try.underlying4 _) trodAll_mk0)))) (fun _ _ => rfl) (by simp) hg⟩

theorem over : Rows.centralDelsRow.holds Try.pinned (OpenSpec.ofChange Rows.centralDelsSpec) :=
  OpenClaim.holds_of_wide 4 Try.f4 rfl rfl rfl rfl rfl rfl rfl ⟨rfl, rfl, rfl, rfl, rfl⟩ rfl rfl rfl rfl rfl (by kernel_rfl) Try.func4 (by kernel_rfl)
    (of_decide_eq_true (by kernel_rfl)) (by unfold Func.isWrapper; first | (rw [if_pos (by decide +kernel)]; kernel_rfl) | (rw [if_neg (by decide +kernel)]; exact ⟨rfl, rfl⟩))
    (fun os started H enc _ => lifted os started H enc)

theorem proved : Rows.CentralDelsSaid :=
  over
#print axioms proved
end Go.Proofs.Ytejijddhmckgiaa.centralDels
