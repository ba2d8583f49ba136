/- The document's own Sched: what Ready, Len and Where answer and make. -/
import Derived.Test.YtpclacaiabbmjaaRSch
import Derived.Test.YtpclacaiabbmjaaRefRing4
import Derived.Test.YtpclacaiabbmjaaSchedDo
namespace Go.Proofs.Ytpclacaiabbmjaa
open Go.RowKit Go.Lib Fx Ho Gr Rw
set_option linter.unusedVariables false
namespace Dx
open Sd (Rg rg0 rAll ptrs ptrs_len ptrs_at rPut rRow rGet rSteal)
variable {S S' : Home} {w w' w1 W : World} {x i n : Nat} {rv rv' lv lv' v : Value} {A A' : List Nat} {R R' : List Rg} {C C' : List Int} {H H' : Home} {g : Int} {zs : List Int}
theorem put_eq (r : Rg) (g : Int) (b : Bool) : rPut r g b = ((Ri.putN r.1 g b, Ri.putL r.2 (Ri.putG r.1 g b)), Ri.putO r.2 (Ri.putG r.1 g b)) := by
  obtain ⟨nx, L⟩ := r
  cases b with
  | false =>
    show rRow nx L g = _
    unfold rRow Ri.putN Ri.putG Ri.putL Ri.putO
    simp only [Bool.false_eq_true, if_false]
    by_cases h : L.length < 256
    · rw [if_pos h, if_pos h, if_pos h]
    · rw [if_neg h, if_neg h, if_neg h]
  | true =>
    cases nx with
    | none => rfl
    | some o =>
      show rRow (some g) L o = _
      unfold rRow Ri.putN Ri.putG Ri.putL Ri.putO
      simp only [if_true]
      by_cases h : L.length < 256
      · rw [if_pos h, if_pos h, if_pos h]
      · rw [if_neg h, if_neg h, if_neg h]
theorem put_small (r : Rg) (g : Int) (b : Bool) (h : r.2.length ≤ 256) : (rPut r g b).1.2.length ≤ 256 ∧ (rPut r g b).2.length ≤ 129 := by
  have key : ∀ nx L o, L.length ≤ 256 → (rRow nx L o).1.2.length ≤ 256 ∧ (rRow nx L o).2.length ≤ 129 := fun nx L o hl => by
    unfold rRow
    by_cases h : L.length < 256
    · rw [if_pos h]; simp; omega
    · rw [if_neg h]; simp; omega
  obtain ⟨nx, L⟩ := r
  cases b with
  | false => exact key nx L g h
  | true =>
    cases nx with
    | none => exact ⟨h, by show ([] : List Int).length ≤ 129; simp⟩
    | some o => exact key (some g) L o h
theorem all_eq (r : Rg) : rAll r = r.1.toList ++ r.2 := by obtain ⟨nx, L⟩ := r; cases nx <;> rfl
/-- One ring puts. -/
theorem ring_put (h : IsX S w x rv lv A R C) (hi : i < R.length) (g : Int) (b : Bool) : Calls Try.prog 62 #[.pointer (some ⟨A.getD i 0, 0, none⟩), .int .i64 g, .bool b] w fun e w1 => ∃ v', e = .returned v' ∧ Wrote (home x rv A) w (home x rv A) w1 ∧ IsX (nS S w) w1 x rv lv A (R.set i (rPut (R.getD i rg0) g b).1) C ∧ Ints w1 (nS S w) v' (rPut (R.getD i rg0) g b).2 := by
  have hu := h.up
  obtain ⟨nv, kv, hr⟩ := hu.rg i hi
  have hsm := h.sm i hi
  have hps := put_small (R.getD i rg0) g b hsm
  refine (Rr.rput_any g b hr hsm (hu.sa i hi) (fun k hk => .inr hk)).mono fun e w1 ⟨v', nv', kv', he, hw, hr2, hi2⟩ => ?_
  rw [put_eq] at hps ⊢
  obtain ⟨h1, h2⟩ := hu.ring hi (Ri.putN (R.getD i rg0).1 g b, Ri.putL (R.getD i rg0).2 (Ri.putG (R.getD i rg0).1 g b)) hps.1 hw hr2
  exact ⟨v', he, h2, h1, hi2⟩
set_option maxRecDepth 100000 in
set_option maxHeartbeats 1000000 in
theorem ready_in (h : IsX S w x rv lv A R C) (hi : i < R.length) (hn : R.length ≤ 64) (g : Int) (b : Bool) (hl : C.length ≤ 800000) : Calls Try.prog 15 #[.pointer (some ⟨x, 0, none⟩), .int .i64 i, .int .i64 g, .bool b] w (XS S (.int .i64 0) w x rv A (R.set i (rPut (R.getD i rg0) g b).1) (C ++ (rPut (R.getD i rg0) g b).2)) := by
  have cp := ring_put h hi g b
  have hps := (put_small (R.getD i rg0) g b (h.sm i hi)).2
  have hnx : Hid (∀ w1 v', Wrote (home x rv A) w (home x rv A) w1 → IsX (nS S w) w1 x rv lv A (R.set i (rPut (R.getD i rg0) g b).1) C → Ints w1 (nS S w) v' (rPut (R.getD i rg0) g b).2 → Calls Try.prog 17 #[.pointer (some ⟨x, 0, none⟩), v'] w1 fun e w2 => e = .returned (.tuple #[]) ∧ Hid (XS S (.int .i64 0) w x rv A (R.set i (rPut (R.getD i rg0) g b).1) (C ++ (rPut (R.getD i rg0) g b).2) (.returned (.int .i64 0)) w2)) := Lib.hid fun w1 v' h1 h2 h3 => (global_any h2 h3 (by omega)).mono fun e w2 ⟨he, S2, rv2, lv2, A2, h6, h4, h5⟩ => ⟨he, Lib.hid ⟨rfl, S2, rv2, lv2, A2, ns_then (fun k hk => hk) h1.size h6, h1.trans h4, h5⟩⟩
  obtain ⟨c0, _, _⟩ := h.cs
  obtain ⟨bb, off, cap, rfl, h1, h2, c2, _⟩ := h.place hi
  have i0 : (0 : Int) ≤ (i : Int) := by omega
  have i1 : ¬ (i : Int) < 0 := by omega
  have i2 : (i : Int) < (R.length : Int) := by omega
  have i3 : ¬ (R.length : Int) ≤ (i : Int) := by omega
  clear h hps h1 h2
  generalize rPut (R.getD i rg0) g b = q at *
  generalize A.getD i 0 = a at *
  generalize hm : R.length = m at *
  clear hm
  go_enter Try.func15, Try.ntmps15
  go_wp2_with fail
  with_reducible refine Calls.mono cp ?_
  rintro e w1 ⟨v', rfl, g1, g2, g3⟩
  have cg := hnx.out w1 v' g1 g2 g3
  obtain ⟨s9, c9, e9, _⟩ := id g3
  subst e9
  clear cp hnx g1 g2 g3
  go_wp2_with fail
  with_reducible refine Calls.mono cg ?_
  rintro e w2 ⟨rfl, hgo⟩
  clear cg
  go_wp2_with fail
  go_ret
  exact hgo.out
set_option maxRecDepth 100000 in
theorem ready_out (h : IsX S w x rv lv A R C) (hi : g < 0 ∨ (R.length : Int) ≤ g) (k : Int) (b : Bool) : Calls Try.prog 15 #[.pointer (some ⟨x, 0, none⟩), .int .i64 g, .int .i64 k, .bool b] w (XS S (.int .i64 1) w x rv A R C) := by
  obtain ⟨c0, _, _⟩ := h.cs
  have hgo := Lib.hid (xs_still (v := .int .i64 1) h)
  obtain ⟨s, c, e⟩ := h.row.slice
  subst e
  clear h
  by_cases h0 : g < 0
  · go_enter Try.func15, Try.ntmps15
    go_wp2_with fail
    go_ret
    exact hgo.out
  · have h1 : (R.length : Int) ≤ g := by omega
    go_enter Try.func15, Try.ntmps15
    go_wp2_with fail
    go_ret
    exact hgo.out
/-- All of one ring. -/
theorem ring_all (h : IsX S w x rv lv A R C) (hi : i < R.length) (hb : Below w.heap.size w w1) : Calls Try.prog 28 #[.pointer (some ⟨A.getD i 0, 0, none⟩)] w1 (Rr.Made w1 (rAll (R.getD i rg0))) := by
  obtain ⟨nv, kv, hr⟩ := (h.below hb).rg i hi
  have := Rr.rall_any hr (by have := h.sm i hi; omega)
  rw [← all_eq] at this; exact this
set_option maxRecDepth 100000 in
set_option maxHeartbeats 1000000 in
theorem len_any (h : IsX S w x rv lv A R C) (hn : R.length ≤ 64) (hl : C.length ≤ 900000) : Calls Try.prog 25 #[.pointer (some ⟨x, 0, none⟩)] w fun e w' => e = .returned (.int .i64 ((C.length + Sd.sumR R R.length : Nat) : Int)) ∧ Below w.heap.size w w' := by
  have hc : Hid (∀ W, Below w.heap.size w W → W.cell? ⟨x, 0, none⟩ = some rv ∧ ∀ i, i < R.length → ∃ b off cap, rv = .slice (some ⟨b, off, none⟩) R.length cap ∧ ∃ a, W.cell? ⟨b, off + i, none⟩ = some (.pointer (some ⟨a, 0, none⟩)) ∧ Calls Try.prog 28 #[.pointer (some ⟨a, 0, none⟩)] W (Rr.Made W (rAll (R.getD i rg0))) ∧ (rAll (R.getD i rg0)).length ≤ 257) := Lib.hid fun W hb => ⟨(h.below hb).cs.1, fun i hi => by
    obtain ⟨b, off, cap, e, _, _, c2, _⟩ := (h.below hb).place hi
    refine ⟨b, off, cap, e, _, c2, ring_all h hi hb, ?_⟩
    rw [all_eq, List.length_append]
    have := h.sm i hi
    have h2 : (R.getD i rg0).1.toList.length ≤ 1 := by cases (R.getD i rg0).1 <;> simp
    omega⟩
  have hsum : Hid (∀ k, k ≤ R.length → Sd.sumR R k ≤ 20000) := Lib.hid fun k hk => by
    have := Sd.sum_le (R := R) h.sm k hk
    have h2 : k * 257 ≤ 64 * 257 := Nat.mul_le_mul_right _ (by omega)
    omega
  have hstep : Hid (∀ k, k < R.length → Sd.sumR R (k + 1) = Sd.sumR R k + (rAll (R.getD k rg0)).length) := Lib.hid fun k hk => by rfl
  obtain ⟨c0, c1, _⟩ := h.cs
  obtain ⟨s, c, e, _⟩ := id h.com
  subst e
  obtain ⟨s1, k1, e1⟩ := h.row.slice
  subst e1
  clear h
  have l0 : (0 : Int) ≤ (C.length : Int) := by omega
  have l1 : (C.length : Int) ≤ 900000 := by omega
  obtain ⟨m, hm⟩ : ∃ m, R.length = m := ⟨_, rfl⟩
  rw [hm] at hc hsum hstep hn ⊢
  have hst : Hid (((C.length + Sd.sumR R 0 : Nat) : Int) = (C.length : Int)) := Lib.hid rfl
  generalize C.length = cl at *
  clear c0 hm
  go_enter Try.func25, Try.ntmps25
  go_wp2_with fail
  clear c1
  go_loopw [3, 4] (fun u v wr => ∃ k : Nat, u = .int .i64 ((cl + Sd.sumR R k : Nat) : Int) ∧ v = .int .i64 k ∧ k ≤ m ∧ Hid (Below w.heap.size w wr)) (fun _ v _ => (m - (RowKit.intOf v).toNat))
  case atStart => exact ⟨0, by rw [hst.out], rfl, by omega, Lib.hid (Below.refl _ _)⟩
  case round =>
    clear hst
    obtain ⟨k, rfl, rfl, k1, hB⟩ := hrel
    obtain ⟨c0, hcs⟩ := hc.out wr hB.out
    have hsk := hsum.out k k1
    have i0 : (0 : Int) ≤ (k : Int) := by omega
    by_cases hk : k < m
    · obtain ⟨b, off, cap, e, a, c2, ca, h257⟩ := hcs k hk
      have i2 : (k : Int) < (m : Int) := by omega
      have hs2 := hstep.out k hk
      obtain ⟨q, hq⟩ : ∃ q, (rAll (R.getD k rg0)).length = q := ⟨_, rfl⟩
      have hmade : Hid (∀ e w', Rr.Made wr (rAll (R.getD k rg0)) e w' → ∃ s c, e = .returned (.slice s q c) ∧ Hid (Below w.heap.size w w')) := Lib.hid fun e w' ⟨v', he, ho, hlo, hb⟩ => by
        obtain ⟨s, c, e2⟩ := ho.slice
        exact ⟨s, c, by rw [he, e2, hq], Lib.hid (hB.out.trans (hb.mono hB.out.size))⟩
      rw [hq] at hs2 h257
      have hs3 : Hid ((cl : Int) + (Sd.sumR R k : Int) + (q : Int) = ((cl + Sd.sumR R (k + 1) : Nat) : Int)) := Lib.hid (by omega)
      have q0 : (0 : Int) ≤ (q : Int) := by omega
      have q1 : (q : Int) ≤ 257 := by omega
      generalize Sd.sumR R k = sk at *
      have sk0 : (0 : Int) ≤ (sk : Int) := by omega
      have sk1 : (sk : Int) ≤ 20000 := by omega
      cases e
      clear hcs hs2 hq hB
      push_cast
      go_wp2_with fail
      with_reducible refine Calls.mono ca ?_
      rintro e w2 hmd
      obtain ⟨s3, c3, rfl, hB2⟩ := hmade.out e w2 hmd
      clear ca hmd hmade c2 c0
      go_wp2_with fail
      go_roundw
      case rel => exact ⟨k + 1, by rw [hs3.out]; push_cast; rfl, by go_num, by omega, hB2⟩
      case measure => simp [RowKit.intOf]; omega
    · obtain rfl : m = k := by omega
      have i2 : ¬ (m : Int) < (m : Int) := by omega
      clear hc hsum hstep hcs
      go_wp2_with fail
      go_ret
      exact ⟨rfl, hB.out⟩
end Dx
end Go.Proofs.Ytpclacaiabbmjaa
