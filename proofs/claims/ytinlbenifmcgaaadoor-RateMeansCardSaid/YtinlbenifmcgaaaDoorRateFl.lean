/- Mean, Least and the document's own Mean, Less, Least, Same over floats, by their places. -/
import Derived.Test.YtinlbenifmcgaaaDoorRateOps
namespace Go.Proofs.YtinlbenifmcgaaaDoor
open Go.RowKit Go.Lib Fx Ho Gr
set_option linter.unusedVariables false
namespace Pr
open Fk Fl Ieee
variable {w w' : World} {x y r : Nat} {v : Value} {zs : List Nat}
theorem four_add : four .add := Or.inl rfl
theorem four_quo : four .quo := Or.inr (Or.inr (Or.inr rfl))
theorem mean_fin {o : Option Nat} {y : Nat} (h : St o y) (c : Nat) : floatBits .quo .f64 y (floatOfInt .f64 (c : Int)) = o.bind fun r => floatBits .quo .f64 r (floatOfInt .f64 (c : Int)) := h.op .quo _
set_option maxRecDepth 100000 in
theorem mean_any (h : Fls w v zs) (hz : zs.length ≤ 1000) : Calls Tryd.prog 15 #[v] w (Fa (meanO zs) w) := by
  obtain ⟨⟨sp, cap, rfl, _, hi⟩, hw⟩ := h
  obtain ⟨n, hn⟩ : ∃ n, zs.length = n := ⟨_, rfl⟩
  rw [hn] at hi hz ⊢
  replace hn := Lib.hid hn
  replace hi := Lib.hid hi
  replace hw := Lib.hid hw
  have st : Hid (sumM (zs.take 0) = (some 0, 0) ∧ St (some 0) 0) := Lib.hid ⟨rfl, by unfold Wf; omega, rfl, fun r hr => by cases hr; rfl⟩
  go_enter Tryd.func15, Tryd.ntmps15
  go_wp2_with fail
  go_loopw [3, 4, 9] (fun s c x wr => ∃ (i y cc k : Nat), s = .float .f64 y ∧ c = .int .i64 cc ∧ x = .int .i64 i ∧ i ≤ n ∧ cc ≤ i ∧ wr = w.drewN k ∧ Hid ((sumM (zs.take i)).2 = cc ∧ St (sumM (zs.take i)).1 y)) (fun _ _ x _ => (n - (RowKit.intOf x).toNat))
  case atStart => exact ⟨0, 0, 0, 0, rfl, rfl, rfl, by omega, by omega, rfl, Lib.hid ⟨by rw [st.out.1], by rw [st.out.1]; exact st.out.2⟩⟩
  case round =>
    clear st
    obtain ⟨i, y, cc, k, rfl, rfl, rfl, h1, h2, rfl, hst⟩ := hrel
    by_cases hin : i < n
    · obtain ⟨b, off, rfl, hb, hc⟩ := hi.out i (by omega)
      obtain ⟨x, hx⟩ : ∃ x, zs.getD i 0 = x := ⟨_, rfl⟩
      rw [hx] at hc
      have hwx : Wf x := by rw [← hx]; exact wf_get hw.out i
      have hs := sumM_take (zs := zs) (i := i) (by rw [hn.out]; exact hin)
      rw [hx] at hs
      cases nx : isN x with
      | true =>
        have o1 := ord_no nx
        have hnx : Hid ((sumM (zs.take (i + 1))).2 = cc ∧ St (sumM (zs.take (i + 1))).1 y) := Lib.hid (by rw [hs]; unfold stepM; rw [if_pos nx]; exact hst.out)
        clear hx hs hst hwx nx
        go_wp2_with fail
        go_roundw
        case rel => exact ⟨i + 1, y, cc, _, rfl, rfl, by go_num, by omega, by omega, rfl, hnx⟩
        case measure => simp [RowKit.intOf]; omega
      | false =>
        have o1 := ord_self hwx nx
        obtain ⟨g, d, hr, hg⟩ := op_any four_add y x
        have hq := fun w => hr Tryd.prog 23 w
        have hnx : Hid (∀ W, (sumM (zs.take (i + 1))).2 = cc + 1 ∧ St (sumM (zs.take (i + 1))).1 (g W)) := Lib.hid fun W => by
          rw [hs]; unfold stepM; rw [if_neg (by rw [nx]; decide)]
          refine ⟨by rw [hst.out.1], ?_⟩
          have := hg W
          rw [hst.out.2.op .add x] at this
          exact this
        clear hx hs hst hwx nx hr hg
        go_wp2_with fail
        go_roundw
        case rel => exact ⟨i + 1, _, cc + 1, _, rfl, by go_num, by go_num, by omega, by omega, rfl, Lib.hid (hnx.out _)⟩
        case measure => simp [RowKit.intOf]; omega
    · obtain rfl : i = n := by omega
      obtain ⟨g, d, hr, hg⟩ := op_any four_quo y (floatOfInt .f64 (cc : Int))
      have hq := fun w => hr Tryd.prog 23 w
      have hfin : Hid (∀ W, St (meanO zs) (g W)) := Lib.hid fun W => by
        have := hg W
        rw [List.take_of_length_le (by rw [hn.out]; omega)] at hst
        rw [mean_fin hst.out.2, ← hst.out.1] at this
        exact this
      clear hr hg hst
      go_wp2_with fail
      go_ret
      exact ⟨_, _, rfl, rfl, hfin.out _⟩
set_option maxRecDepth 100000 in
theorem rmean_any (h : Fls w v zs) (hz : zs.length ≤ 1000) : Calls Tryd.prog 16 #[v] w (Fa (meanO zs) w) := by
  obtain ⟨⟨sp, cap, rfl, _, hi⟩, hw⟩ := h
  obtain ⟨n, hn⟩ : ∃ n, zs.length = n := ⟨_, rfl⟩
  rw [hn] at hi hz ⊢
  replace hn := Lib.hid hn
  replace hi := Lib.hid hi
  replace hw := Lib.hid hw
  have st : Hid (sumM (zs.take 0) = (some 0, 0) ∧ St (some 0) 0) := Lib.hid ⟨rfl, by unfold Wf; omega, rfl, fun r hr => by cases hr; rfl⟩
  go_enter Tryd.func16, Tryd.ntmps16
  go_wp2_with fail
  go_loopw [3, 4, 5] (fun s c x wr => ∃ (i y cc k : Nat), s = .float .f64 y ∧ c = .int .i64 cc ∧ x = .int .i64 i ∧ i ≤ n ∧ cc ≤ i ∧ wr = w.drewN k ∧ Hid ((sumM (zs.take i)).2 = cc ∧ St (sumM (zs.take i)).1 y)) (fun _ _ x _ => (n - (RowKit.intOf x).toNat))
  case atStart => exact ⟨0, 0, 0, 0, rfl, rfl, rfl, by omega, by omega, rfl, Lib.hid ⟨by rw [st.out.1], by rw [st.out.1]; exact st.out.2⟩⟩
  case round =>
    clear st
    obtain ⟨i, y, cc, k, rfl, rfl, rfl, h1, h2, rfl, hst⟩ := hrel
    by_cases hin : i < n
    · obtain ⟨b, off, rfl, hb, hc⟩ := hi.out i (by omega)
      obtain ⟨x, hx⟩ : ∃ x, zs.getD i 0 = x := ⟨_, rfl⟩
      rw [hx] at hc
      have hwx : Wf x := by rw [← hx]; exact wf_get hw.out i
      have hs := sumM_take (zs := zs) (i := i) (by rw [hn.out]; exact hin)
      rw [hx] at hs
      cases nx : isN x with
      | true =>
        have o1 := ord_no nx
        have hnx : Hid ((sumM (zs.take (i + 1))).2 = cc ∧ St (sumM (zs.take (i + 1))).1 y) := Lib.hid (by rw [hs]; unfold stepM; rw [if_pos nx]; exact hst.out)
        clear hx hs hst hwx nx
        go_wp2_with fail
        go_quiet (fail)
        go_wp2_with fail
        go_roundw
        case rel => exact ⟨i + 1, y, cc, _, rfl, rfl, by go_num, by omega, by omega, rfl, hnx⟩
        case measure => simp [RowKit.intOf]; omega
      | false =>
        have o1 := ord_self hwx nx
        obtain ⟨g, d, hr, hg⟩ := op_any four_add y x
        have hq := fun w => hr Tryd.prog 23 w
        have hnx : Hid (∀ W, (sumM (zs.take (i + 1))).2 = cc + 1 ∧ St (sumM (zs.take (i + 1))).1 (g W)) := Lib.hid fun W => by
          rw [hs]; unfold stepM; rw [if_neg (by rw [nx]; decide)]
          refine ⟨by rw [hst.out.1], ?_⟩
          have := hg W
          rw [hst.out.2.op .add x] at this
          exact this
        clear hx hs hst hwx nx hr hg
        go_wp2_with fail
        go_quiet (fail)
        go_wp2_with fail
        go_roundw
        case rel => exact ⟨i + 1, _, cc + 1, _, rfl, by go_num, by go_num, by omega, by omega, rfl, Lib.hid (hnx.out _)⟩
        case measure => simp [RowKit.intOf]; omega
    · obtain rfl : i = n := by omega
      obtain ⟨g, d, hr, hg⟩ := op_any four_quo y (floatOfInt .f64 (cc : Int))
      have hq := fun w => hr Tryd.prog 23 w
      have hfin : Hid (∀ W, St (meanO zs) (g W)) := Lib.hid fun W => by
        have := hg W
        rw [List.take_of_length_le (by rw [hn.out]; omega)] at hst
        rw [mean_fin hst.out.2, ← hst.out.1] at this
        exact this
      clear hr hg hst
      go_wp2_with fail
      go_ret
      exact ⟨_, _, rfl, rfl, hfin.out _⟩
end Pr
end Go.Proofs.YtinlbenifmcgaaaDoor
