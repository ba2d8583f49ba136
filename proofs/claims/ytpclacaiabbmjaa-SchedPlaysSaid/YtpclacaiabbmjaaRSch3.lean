/- The document's own Sched: what Where and Drop answer and make; one ring's Get. -/
import Derived.Test.YtpclacaiabbmjaaRSch2
namespace Go.Proofs.Ytpclacaiabbmjaa
open Go.RowKit Go.Lib Fx Ho Gr Rw
set_option linter.unusedVariables false
namespace Dx
open Sd (Rg rg0 rAll ptrs ptrs_len ptrs_at rPut rRow rGet rSteal findR whereV find_some find_none)
variable {S S' : Home} {w w' w1 W : World} {x i n : Nat} {rv rv' lv lv' v : Value} {A A' : List Nat} {R R' : List Rg} {C C' : List Int} {H H' : Home} {g : Int} {zs : List Int}
theorem set_self {R : List Rg} {i : Nat} (hi : i < R.length) : R.set i (R.getD i rg0) = R := by
  rw [List.getD_eq_getElem?_getD, List.getElem?_eq_getElem hi]; simp
set_option maxRecDepth 100000 in
set_option maxHeartbeats 1000000 in
theorem where_any (h : IsX S w x rv lv A R C) (g : Int) (hn : R.length ≤ 64) (hl : C.length ≤ 900000) : Calls Try.prog 23 #[.pointer (some ⟨x, 0, none⟩), .int .i64 g] w fun e w' => e = .returned (whereV R C g) ∧ Below w.heap.size w w' := by
  have hc : Hid (∀ W, Below w.heap.size w W → W.cell? ⟨x, 0, none⟩ = some rv ∧ W.cell? ⟨x, 1, none⟩ = some lv ∧ Calls Try.prog 54 #[lv, .int .i64 g] W (Still (.bool (decide (g ∈ C))) W) ∧ ∀ i, i < R.length → ∃ b off cap, rv = .slice (some ⟨b, off, none⟩) R.length cap ∧ ∃ a, W.cell? ⟨b, off + i, none⟩ = some (.pointer (some ⟨a, 0, none⟩)) ∧ Calls Try.prog 28 #[.pointer (some ⟨a, 0, none⟩)] W fun e w1 => ∃ s n c, e = .returned (.slice s n c) ∧ Hid (Below w.heap.size w w1) ∧ Calls Try.prog 54 #[.slice s n c, .int .i64 g] w1 (Still (.bool (decide (g ∈ rAll (R.getD i rg0)))) w1)) := Lib.hid fun W hb => ⟨(h.below hb).cs.1, (h.below hb).cs.2.1, has_any g (h.below hb).com, fun i hi => by
    obtain ⟨b, off, cap, e, _, _, c2, _⟩ := (h.below hb).place hi
    refine ⟨b, off, cap, e, _, c2, (ring_all h hi hb).mono fun e w1 ⟨v', he, ho, hlo, hb1⟩ => ?_⟩
    have hh := has_any g ho.ints
    obtain ⟨s, c, e2⟩ := ho.slice
    subst e2
    exact ⟨s, _, c, he, Lib.hid (hb.trans (hb1.mono hb.size)), hh⟩⟩
  have hyes : Hid (∀ k, k < R.length → findR R g k = none → g ∈ rAll (R.getD k rg0) → whereV R C g = .tuple #[.int .i64 k, .bool true]) := Lib.hid fun k hk hn hm => by
    have h1 : findR R g (k + 1) = some k := by show (match findR R g k with | some i => some i | none => if g ∈ rAll (R.getD k rg0) then some k else none) = _; rw [hn]; exact if_pos hm
    have h2 := Sd.find_more h1 (n := R.length) (by omega)
    unfold whereV; rw [h2]
  have hno : Hid (findR R g R.length = none → whereV R C g = if g ∈ C then .tuple #[.int .i64 (-1), .bool true] else .tuple #[.int .i64 0, .bool false]) := Lib.hid fun hn => by unfold whereV; rw [hn]
  have hstep : Hid (∀ k, findR R g k = none → g ∉ rAll (R.getD k rg0) → findR R g (k + 1) = none) := Lib.hid fun k hn hm => by show (match findR R g k with | some i => some i | none => if g ∈ rAll (R.getD k rg0) then some k else none) = _; rw [hn]; exact if_neg hm
  obtain ⟨s1, k1, e1⟩ := h.row.slice
  subst e1
  obtain ⟨s, c, e, _⟩ := id h.com
  subst e
  clear h
  generalize whereV R C g = ans at *
  obtain ⟨m, hm⟩ : ∃ m, R.length = m := ⟨_, rfl⟩
  rw [hm] at hc hyes hno hn
  clear hm
  go_enter Try.func23, Try.ntmps23
  go_wp2_with fail
  go_loopw [6] (fun v wr => ∃ k : Nat, v = .int .i64 k ∧ k ≤ m ∧ Hid (findR R g k = none) ∧ Hid (Below w.heap.size w wr)) (fun v _ => (m - (RowKit.intOf v).toNat))
  case atStart => exact ⟨0, rfl, by omega, Lib.hid rfl, Lib.hid (Below.refl _ _)⟩
  case round =>
    obtain ⟨k, rfl, k1, hF, hB⟩ := hrel
    obtain ⟨c0, c1, ch, hcs⟩ := hc.out wr hB.out
    have i0 : (0 : Int) ≤ (k : Int) := by omega
    by_cases hk : k < m
    · obtain ⟨b, off, cap, e, a, c2, ca⟩ := hcs k hk
      have i2 : (k : Int) < (m : Int) := by omega
      cases e
      have hy := hyes.out k hk hF.out
      have hs2 := hstep.out k hF.out
      obtain ⟨bb, hbb⟩ : ∃ bb, decide (g ∈ rAll (R.getD k rg0)) = bb := ⟨_, rfl⟩
      rw [hbb] at ca
      replace hy : Hid (bb = true → ans = .tuple #[.int .i64 k, .bool true]) := Lib.hid fun e => hy (of_decide_eq_true (by rw [hbb, e]))
      replace hs2 : Hid (bb = false → findR R g (k + 1) = none) := Lib.hid fun e => hs2 (of_decide_eq_false (by rw [hbb, e]))
      clear hcs hbb hF ch hyes hno hstep hc
      go_wp2_with fail
      with_reducible refine Calls.mono ca ?_
      rintro e w2 ⟨s3, n3, c3, rfl, hB2, ch2⟩
      clear ca c2 c0 c1 hB
      go_wp2_with fail
      with_reducible refine Calls.mono ch2 ?_
      rintro e w3 ⟨rfl, ew⟩
      subst ew
      clear ch2
      cases bb with
      | true =>
        have hy2 := hy.out rfl
        subst hy2
        clear hy hs2
        go_wp2_with fail
        go_ret2
        exact ⟨rfl, hB2.out⟩
      | false =>
        have hs3 := Lib.hid (hs2.out rfl)
        clear hy hs2
        go_wp2_with fail
        go_roundw
        case rel => exact ⟨k + 1, by go_num, by omega, hs3, hB2⟩
        case measure => simp [RowKit.intOf]; omega
    · obtain rfl : m = k := by omega
      have i2 : ¬ (m : Int) < (m : Int) := by omega
      have hno2 := hno.out hF.out
      clear hc hyes hno hstep hcs hF
      by_cases hm : g ∈ C
      · rw [decide_eq_true hm] at ch
        rw [if_pos hm] at hno2
        subst hno2
        clear hm
        go_wp2_with fail
        with_reducible refine Calls.mono ch ?_
        rintro e w3 ⟨rfl, ew⟩
        subst ew
        clear ch
        go_wp2_with fail
        go_ret2
        exact ⟨rfl, hB.out⟩
      · rw [decide_eq_false hm] at ch
        rw [if_neg hm] at hno2
        subst hno2
        clear hm
        go_wp2_with fail
        with_reducible refine Calls.mono ch ?_
        rintro e w3 ⟨rfl, ew⟩
        subst ew
        clear ch
        go_wp2_with fail
        go_ret2
        exact ⟨rfl, hB.out⟩
/-- One ring gets. -/
theorem ring_get (h : IsX S w x rv lv A R C) (hi : i < R.length) : Calls Try.prog 67 #[.pointer (some ⟨A.getD i 0, 0, none⟩)] w (XS S (Sd.getV (rGet (R.getD i rg0)).1) w x rv A (R.set i (rGet (R.getD i rg0)).2) C) := by
  obtain ⟨nv, kv, hr⟩ := h.rg i hi
  have hsm := h.sm i hi
  obtain ⟨r, hrr⟩ : ∃ r, R.getD i rg0 = r := ⟨_, rfl⟩
  have key : ∀ {T : List Int} {v : Value} {e : Ending} {w1 : World}, T.length ≤ 256 → Rr.Turned S v w (A.getD i 0) none T e w1 → XS S v w x rv A (R.set i (none, T)) C e w1 := fun {T v e w1} hT ⟨nv', kv', he, hw, hr2⟩ => by
    obtain ⟨h1, h2⟩ := h.ring hi (none, T) hT hw hr2
    exact ⟨he, S, rv, lv, A, fun k hk => .inl hk, h2, h1⟩
  rw [hrr] at hr hsm ⊢
  obtain ⟨nx, L⟩ := r
  cases nx with
  | some y => exact (Rr.rget_next hr (h.sa i hi)).mono fun e w1 ht => key hsm ht
  | none =>
    cases L with
    | cons y T => exact (Rr.rget_row hr (h.sa i hi)).mono fun e w1 ht => key (by simp at hsm; omega) ht
    | nil =>
      refine (Rr.rget_none hr).mono fun e w1 ⟨he, hw⟩ => ?_
      subst hw
      have e2 : R.set i (none, []) = R := by
        have := set_self (R := R) hi
        rw [hrr] at this; exact this
      show XS S (.tuple #[.int .i64 0, .bool false]) w x rv A (R.set i (none, [])) C e w
      rw [e2, he]; exact xs_still h
end Dx
end Go.Proofs.Ytpclacaiabbmjaa
