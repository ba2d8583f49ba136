/- The document's own Sched: what Pick answers and makes. -/
import Derived.Test.YtpclacaiabbmjaaRSch5
namespace Go.Proofs.Ytpclacaiabbmjaa
open Go.RowKit Go.Lib Fx Ho Gr Rw
set_option linter.unusedVariables false
namespace Dx
open Sd (Rg rg0 rAll ptrs ptrs_len ptrs_at rPut rRow rGet rSteal findR whereV find_some find_none qN getV turnS takeS pickS stealR stealR_len setT get_pair)
variable {S S' : Home} {w w' w1 W : World} {x i j k n q : Nat} {rv rv' lv lv' v : Value} {A A' : List Nat} {R R' : List Rg} {C C' L T : List Int} {H H' : Home} {g t u : Int} {zs : List Int}
set_option maxRecDepth 100000 in
set_option maxHeartbeats 1000000 in
theorem pick_in1 (h : IsX S w x rv lv A R (g :: T)) (hi : i < R.length) (ht : t ≠ 0) (ht2 : t.tmod 61 = 0) (hn : R.length ≤ 64) : Calls Try.prog 19 #[.pointer (some ⟨x, 0, none⟩), .int .i64 i, .int .i64 t, .int .i64 u] w (XS S (.tuple #[.int .i64 g, .bool true]) w x rv A R T) := by
  obtain ⟨c0, c1, f1⟩ := h.cs
  obtain ⟨sr, kr, er⟩ := h.row.slice
  obtain ⟨sp, cap, e0, hmx, hcell⟩ := id h.com
  obtain ⟨b, off, rfl, hSb, hbl, cg⟩ := hcell 0 (by simp)
  have hcap := h.cap _ _ _ e0
  have hlen : (g :: T).length = T.length + 1 := rfl
  rw [hlen] at e0 hmx hcap
  have hend : Hid (∀ (w2 : World) (v1 : Value) (a1 : Option Addr), w2.heap = w.heap → w2.os = w.os → w2.tape = w.tape → w2.output = w.output → v1 = .slice a1 (T.length + 1 - 1) (cap - 1) → (a1 = (some (⟨b, off, none⟩ : Addr)).map (·.add 1) ∨ cap = 1 ∧ a1 = some ⟨b, off, none⟩) → XS S (.tuple #[.int .i64 g, .bool true]) w x rv A R T (.returned (.tuple #[.int .i64 g, .bool true])) (w2.setCell ⟨x, 1, none⟩ v1)) := Lib.hid fun w2 v1 a1 g1 g2 g3 g4 e1 ea => by
    subst e1
    have hbel : Below w.heap.size w w2 := ⟨g2, g3, g4, by rw [g1]; exact Nat.le_refl _, fun k _ => by rw [g1]⟩
    have hco := (h.below hbel).com
    rw [e0] at hco
    have hd := Rr.ints_drop hco rfl (n := 1) (by omega) ea hcap
    obtain ⟨g5, g6⟩ := h.queue (S' := S) (C' := T) hbel (fun k hk => hk) (fun k hk => h.off_home hk) hd (fun s n' c e => by cases e; omega)
    exact ⟨rfl, S, rv, _, A, fun k hk => .inl hk, g6, g5⟩
  subst e0
  rw [show off + 0 = off from rfl, show (g :: T).getD 0 0 = g from rfl] at cg
  have i0 : (0 : Int) ≤ (i : Int) := by omega
  have i1 : ¬ (i : Int) < 0 := by omega
  have i2 : (i : Int) < (R.length : Int) := by omega
  have i3 : ¬ (R.length : Int) ≤ (i : Int) := by omega
  have b1 : (t == 0) = false := by rw [beq_eq_false_iff_ne]; exact ht
  have b2 : (t != 0) = true := by simp [bne, b1]
  subst er
  clear h hcell
  generalize T.length = l at *
  generalize hm : R.length = m at *
  clear hm
  have l0 : (0 : Int) < ((l + 1 : Nat) : Int) := by omega
  go_enter Try.func19, Try.ntmps19
  go_wp2_with fail
  · go_ret2
    first
    | exact hend.out w _ _ rfl rfl rfl rfl rfl (.inl rfl)
    | (subst h; exact hend.out w _ _ rfl rfl rfl rfl rfl (.inr ⟨rfl, rfl⟩))
  · go_ret2
    first
    | exact hend.out w _ _ rfl rfl rfl rfl rfl (.inl rfl)
    | (subst h; exact hend.out w _ _ rfl rfl rfl rfl rfl (.inr ⟨rfl, rfl⟩))
set_option maxRecDepth 100000 in
set_option maxHeartbeats 1000000 in
theorem pick_out (h : IsX S w x rv lv A R C) (hi : g < 0 ∨ (R.length : Int) ≤ g) : Calls Try.prog 19 #[.pointer (some ⟨x, 0, none⟩), .int .i64 g, .int .i64 t, .int .i64 u] w (XS S (.tuple #[.int .i64 0, .bool false]) w x rv A R C) := by
  obtain ⟨c0, _, _⟩ := h.cs
  have hgo := Lib.hid (xs_still (v := .tuple #[.int .i64 0, .bool false]) h)
  obtain ⟨s, c, e⟩ := h.row.slice
  subst e
  clear h
  by_cases h0 : g < 0
  · go_enter Try.func19, Try.ntmps19
    go_wp2_with fail
    go_ret2
    exact hgo.out
  · have h1 : (R.length : Int) ≤ g := by omega
    go_enter Try.func19, Try.ntmps19
    go_wp2_with fail
    go_ret2
    exact hgo.out
set_option maxRecDepth 100000 in
set_option maxHeartbeats 1000000 in
theorem pick_in2 (h : IsX S w x rv lv A R C) (hi : i < R.length) (ht : t = 0 ∨ t.tmod 61 ≠ 0 ∨ C = []) (hn : R.length ≤ 64) (hr : rAll (R.getD i rg0) = g :: L) : Calls Try.prog 19 #[.pointer (some ⟨x, 0, none⟩), .int .i64 i, .int .i64 t, .int .i64 u] w (XS S (.tuple #[.int .i64 g, .bool true]) w x rv A (R.set i (none, L)) C) := by
  have cg := ring_get h hi
  rw [show rGet (R.getD i rg0) = (some g, (none, L)) by unfold rGet; rw [hr]] at cg
  replace cg : Calls Try.prog 67 #[.pointer (some ⟨A.getD i 0, 0, none⟩)] w (fun e w1 => e = .returned (.tuple #[.int .i64 g, .bool true]) ∧ Hid (XS S (.tuple #[.int .i64 g, .bool true]) w x rv A (R.set i (none, L)) C e w1)) := cg.mono fun e w1 hh => ⟨hh.1, Lib.hid hh⟩
  obtain ⟨c0, c1, f1⟩ := h.cs
  obtain ⟨b, off, cap, rfl, h1, h2, c2, _⟩ := h.place hi
  obtain ⟨s0, k0, e0, _⟩ := id h.com
  subst e0
  have i0 : (0 : Int) ≤ (i : Int) := by omega
  have i1 : ¬ (i : Int) < 0 := by omega
  have i2 : (i : Int) < (R.length : Int) := by omega
  have i3 : ¬ (R.length : Int) ≤ (i : Int) := by omega
  clear h hr h1 h2
  generalize A.getD i 0 = a at *
  generalize hm : R.length = m at *
  clear hm
  by_cases t0 : t = 0
  · subst t0
    clear ht
    go_enter Try.func19, Try.ntmps19
    go_wp2_with fail
    with_reducible refine Calls.mono cg ?_
    rintro e w1 ⟨rfl, hgo⟩
    clear cg
    go_wp2_with fail
    go_ret2
    exact hgo.out
  · have b1 : (t == 0) = false := by rw [beq_eq_false_iff_ne]; exact t0
    have b2 : (t != 0) = true := by simp [bne, b1]
    obtain ⟨q, hq⟩ : ∃ q, t.tmod 61 = q := ⟨_, rfl⟩
    rw [hq] at ht
    by_cases q0 : q = 0
    · subst q0
      have hC : C = [] := ht.elim (fun e => absurd e t0) (fun e => e.elim (fun e => absurd rfl e) id)
      subst hC
      clear ht
      simp only [List.length_nil] at c1
      go_enter Try.func19, Try.ntmps19
      go_wp2_with fail
      with_reducible refine Calls.mono cg ?_
      rintro e w1 ⟨rfl, hgo⟩
      clear cg
      go_wp2_with fail
      go_ret2
      exact hgo.out
    · have b3 : (q == 0) = false := by rw [beq_eq_false_iff_ne]; exact q0
      have b4 : (q != 0) = true := by simp [bne, b3]
      clear ht
      go_enter Try.func19, Try.ntmps19
      go_wp2_with fail
      with_reducible refine Calls.mono cg ?_
      rintro e w1 ⟨rfl, hgo⟩
      clear cg
      go_wp2_with fail
      go_ret2
      exact hgo.out
end Dx
end Go.Proofs.Ytpclacaiabbmjaa
