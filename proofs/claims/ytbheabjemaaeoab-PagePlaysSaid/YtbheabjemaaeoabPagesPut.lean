/- Pages: a run is put. -/
import Derived.Test.YtbheabjemaaeoabPages
import Derived.Test.YtbheabjemaaeoabStepC
import Derived.Deep.RegionHeld3
namespace Go.Proofs.Ytbheabjemaaeoab
open Go.RowKit Go.Lib Fx Ho Gr
set_option linter.unusedVariables false
namespace Pg
open Hm Mp
variable {w w' W : World} {P b0 z n c i j k N : Nat} {v fv mv : Value} {L M : List Rn} {H H' : Home} {x : Rn} {F : List Bool} {m m' : Int → Value} {k1 k2 : Int}
abbrev pn (N : Nat) : Value := .pointer (some ⟨N, 0, none⟩)
set_option maxRecDepth 100000 in
theorem zeroG (w : World) : (zeroValue 52).run Try.prog w = .ok (.pointer none) w := by rfl
theorem up_comm (m : Int → Value) (k1 k2 : Int) (x : Value) : up (up m k2 x) k1 x = up (up m k1 x) k2 x := by
  funext j
  unfold up
  by_cases h1 : j = k1 <;> by_cases h2 : j = k2 <;> simp [h1, h2]
/-- The ways in which two places of a map are assigned at once. -/
structure TwoPut (w : World) (z c : Nat) (m : Int → Value) (k1 k2 : Int) (N s1 s2 s3 : Nat) (v1 v2 v3 : Value) (w1 w2 w3 w4 x2 x3 x4 y3 y4 : World) : Prop where
  e1 : (Instr.mapEntry 45 (.map (some z)) (.int .i64 k1)).run Try.prog w = .ok (.tuple #[v1, .int .i64 ((s1 : Nat) : Int)]) w1
  e2 : (Instr.mapEntry 45 (.map (some z)) (.int .i64 k2)).run Try.prog w1 = .ok (.tuple #[v2, .int .i64 ((s2 : Nat) : Int)]) w2
  p1 : (Instr.entryStore 45 (.map (some z)) (.int .i64 ((s1 : Nat) : Int)) (.pointer (some ⟨N, 0, none⟩))).run Try.prog w2 = .ok () w3
  p2 : (Instr.entryStore 45 (.map (some z)) (.int .i64 ((s2 : Nat) : Int)) (.pointer (some ⟨N, 0, none⟩))).run Try.prog w3 = .ok () w4
  fx1 : (Instr.entryStore 45 (.map (some z)) (.int .i64 ((s1 : Nat) : Int)) (.pointer (some ⟨N, 0, none⟩))).run Try.prog w1 = .ok () x2
  fx2 : (Instr.mapEntry 45 (.map (some z)) (.int .i64 k2)).run Try.prog x2 = .ok (.tuple #[v3, .int .i64 ((s3 : Nat) : Int)]) x3
  fx3 : (Instr.entryStore 45 (.map (some z)) (.int .i64 ((s3 : Nat) : Int)) (.pointer (some ⟨N, 0, none⟩))).run Try.prog x3 = .ok () x4
  y1 : (Instr.entryStore 45 (.map (some z)) (.int .i64 ((s2 : Nat) : Int)) (.pointer (some ⟨N, 0, none⟩))).run Try.prog w2 = .ok () y3
  y2 : (Instr.entryStore 45 (.map (some z)) (.int .i64 ((s1 : Nat) : Int)) (.pointer (some ⟨N, 0, none⟩))).run Try.prog y3 = .ok () y4
  keep : ∀ q o vv, q ≠ z → w.cell? ⟨q, o, none⟩ = some vv → w1.cell? ⟨q, o, none⟩ = some vv ∧ w2.cell? ⟨q, o, none⟩ = some vv ∧ w3.cell? ⟨q, o, none⟩ = some vv ∧ w4.cell? ⟨q, o, none⟩ = some vv ∧ x2.cell? ⟨q, o, none⟩ = some vv ∧ x3.cell? ⟨q, o, none⟩ = some vv ∧ x4.cell? ⟨q, o, none⟩ = some vv ∧ y3.cell? ⟨q, o, none⟩ = some vv ∧ y4.cell? ⟨q, o, none⟩ = some vv
  fin : Hid (∀ u, u = w4 ∨ u = x4 ∨ u = y4 → IMap RQ (.pointer none) u z (c + 4) (up (up m k1 (pn N)) k2 (pn N)) ∧ Wrote (fun k => k = z) w (fun k => k = z) u)
theorem two_put (h : IMap RQ (.pointer none) w z c m) (hc : c ≤ 1000000) (h1 : (Lit.int .i64 k1).wf = true) (h2 : (Lit.int .i64 k2).wf = true) (N : Nat) : ∃ s1 s2 s3 v1 v2 v3 w1 w2 w3 w4 x2 x3 x4 y3 y4, TwoPut w z c m k1 k2 N s1 s2 s3 v1 v2 v3 w1 w2 w3 w4 x2 x3 x4 y3 y4 := by
  have hm : ∀ q, q ≤ 1000010 → q < maxLen := fun q hq => by unfold maxLen; omega
  have ht := Try.underlying45
  have hr : RQ (pn N) = some (.lit (.int .i64 N), []) := rfl
  obtain ⟨v1, s1, w1, r1, m1, t1, e1, _⟩ := h.entry fairQ ht zeroG (hm _ (by omega)) h1
  obtain ⟨v2, s2, w2, r2, m2, t2, e2, f2⟩ := m1.entry fairQ ht zeroG (hm _ (by omega)) h2
  obtain ⟨w3, r3, m3, t3, f3⟩ := m2.put2 ht (hm _ (by omega)) h1 (f2 _ _ e1) hr
  obtain ⟨w4, r4, m4, t4, _⟩ := m3.put2 ht (hm _ (by omega)) h2 (f3 _ _ e2) hr
  obtain ⟨x2, q1, n1, u1, g1⟩ := m1.put2 ht (hm _ (by omega)) h1 e1 hr
  obtain ⟨v3, s3, x3, q2, n2, u2, g2, _⟩ := n1.entry fairQ ht zeroG (hm _ (by omega)) h2
  obtain ⟨x4, q3, n3, u3, _⟩ := n2.put2 ht (hm _ (by omega)) h2 g2 hr
  obtain ⟨y3, l1, o1, d1, i1⟩ := m2.put2 ht (hm _ (by omega)) h2 e2 hr
  obtain ⟨y4, l2, o2, d2, _⟩ := o1.put2 ht (hm _ (by omega)) h1 (i1 _ _ (f2 _ _ e1)) hr
  refine ⟨s1, s2, s3, v1, v2, v3, w1, w2, w3, w4, x2, x3, x4, y3, y4, TwoPut.mk r1 r2 r3 r4 q1 q2 q3 l1 l2 (fun q o vv hq hcell => ⟨t1.cell hcell hq, (t1.trans t2).cell hcell hq, ((t1.trans t2).trans t3).cell hcell hq, (((t1.trans t2).trans t3).trans t4).cell hcell hq, (t1.trans u1).cell hcell hq, ((t1.trans u1).trans u2).cell hcell hq, (((t1.trans u1).trans u2).trans u3).cell hcell hq, ((t1.trans t2).trans d1).cell hcell hq, (((t1.trans t2).trans d1).trans d2).cell hcell hq⟩) (Lib.hid fun u hu => ?_)⟩
  rcases hu with rfl | rfl | rfl
  · exact ⟨m4, ((t1.trans t2).trans t3).trans t4⟩
  · exact ⟨n3, ((t1.trans u1).trans u2).trans u3⟩
  · rw [up_comm] at o2
    exact ⟨o2, ((t1.trans t2).trans d1).trans d2⟩
/-- The new run is in the heap: all of it. -/
theorem put_end (h : Pc w P v b0 z n c F L m) (hN : ∀ q, homeA P v b0 z L q → q ≠ x.2.2) (hp : Pushed w P (.slice (some ⟨b0, 0, none⟩) n n) v (.map (some z)) L x (.returned (.tuple #[])) w') : ∃ v' M, Pc w' P v' b0 z n c F M m ∧ M.Perm (L ++ [x]) ∧ Wrote (fun q => homeA P v b0 z L q ∨ q = x.2.2) w (homeA P v' b0 z M) w' := by
  obtain ⟨_, v', M, hq, hok, hperm, hw⟩ := hp
  have hbl := block_lt h.fr
  have hzl := h.map.lt
  have hb : ¬ (home2 P v L b0 ∨ b0 = x.2.2) := fun e => e.elim (fun e => e.elim h.bP h.bh) (hN b0 (.inr (.inl rfl)))
  have hz : ¬ (home2 P v L z ∨ z = x.2.2) := fun e => e.elim (fun e => e.elim h.zP h.zh) (hN z (.inr (.inr rfl)))
  refine ⟨v', M, ⟨hq, (hw.block b0 hbl hb).trans h.fr, h.len, h.map.wrote hw hz, hok, h.bz, h.bP, h.zP, fun e => (hw.home b0 (.inr e)).elim hb (fun q => by omega), fun e => (hw.home z (.inr e)).elim hz (fun q => by omega)⟩, hperm, ⟨hw.os, hw.tape, hw.output, hw.size, fun q hq hn => hw.block q hq (fun e => hn (e.imp .inl id)), fun q hq => ?_⟩⟩
  rcases hq with hq | hq | hq
  · exact (hw.home q hq).imp (fun e => e.imp .inl id) id
  · exact .inl (.inl (.inr (.inl hq)))
  · exact .inl (.inl (.inr (.inr hq)))
def Putted (w : World) (P : Nat) (v : Value) (b0 z n c : Nat) (F : List Bool) (L : List Rn) (m : Int → Value) (a k : Nat) (e : Ending) (w' : World) : Prop :=
  e = .returned (.tuple #[]) ∧ ∃ v' M N, w.heap.size ≤ N ∧ Pc w' P v' b0 z n (c + 4) F M (up (up m a (pn N)) ((a : Int) + k - 1) (pn N)) ∧ M.Perm (L ++ [((a : Int), (k : Int), N)]) ∧ Wrote (homeA P v b0 z L) w (homeA P v' b0 z M) w'
set_option maxRecDepth 100000 in
set_option maxHeartbeats 2000000 in
theorem put_any (h : Pc w P v b0 z n c F L m) (a k : Nat) (ha : 1 ≤ a) (hk : 1 ≤ k) (hak : a + k ≤ 300000) (hs : L.length < 1000) (hc : c ≤ 1000000) : Calls Try.prog 20 #[.pointer (some ⟨P, 0, none⟩), .int .i64 a, .int .i64 k] w (Putted w P v b0 z n c F L m a k) := by
  obtain ⟨N, hN⟩ : ∃ N, w.heap.size = N := ⟨_, rfl⟩
  have hb1 := below_alloc (Below.refl _ w) (.cells #[.int .i64 a, .int .i64 k, .int .i64 0] 55)
  have hnew : (w.alloc (.cells #[.int .i64 a, .int .i64 k, .int .i64 0] 55)).heap[N]? = some (robj ((a : Int), (k : Int), N) 0) := by rw [← hN]; exact heap_alloc_new _ _
  have h1 := h.below hb1
  have hlt : ∀ q, homeA P v b0 z L q → q ≠ N := fun q hq => by have := h.lt hq; omega
  have wa : (Lit.int .i64 (a : Int)).wf = true := WalkArith.wf_i64 (by omega)
  have wl : (Lit.int .i64 ((a : Int) + k - 1)).wf = true := WalkArith.wf_i64 (by omega)
  have hcl : Hid (∀ V, Below (w.alloc (.cells #[.int .i64 a, .int .i64 k, .int .i64 0] 55)).heap.size (w.alloc (.cells #[.int .i64 a, .int .i64 k, .int .i64 0] 55)) V → Calls Try.prog 28 #[.pointer (some ⟨N, 0, none⟩)] V fun e w2 => e = .returned (.int .i64 ((a : Int) + k - 1)) ∧ w2.cell? ⟨P, 2, none⟩ = some (.map (some z)) ∧ Hid (IMap RQ (.pointer none) w2 z c m) ∧ Hid (∀ w6, IMap RQ (.pointer none) w6 z (c + 4) (up (up m a (pn N)) ((a : Int) + k - 1) (pn N)) → Wrote (fun k => k = z) w2 (fun k => k = z) w6 → Calls Try.prog 29 #[.iface 62 (.pointer (some ⟨P, 1, none⟩)), .iface 52 (.pointer (some ⟨N, 0, none⟩))] w6 fun e w' => e = .returned (.tuple #[]) ∧ Hid (Putted w P v b0 z n c F L m a k (.returned (.tuple #[])) w'))) := Lib.hid fun V hV => by
    have hoV := (hV.block N (block_lt hnew)).trans hnew
    have hl := last_any (r := ((a : Int), (k : Int), N)) hoV (by simp) (by show (a : Int) ≤ _; omega) (by show (1 : Int) ≤ k; omega) (by show (k : Int) ≤ _; omega)
    refine hl.mono fun e w2 ⟨he, hb2⟩ => ?_
    have h2 := (h1.below hV).below hb2
    refine ⟨he, h2.cs.2.2, Lib.hid h2.map, Lib.hid fun w6 g1 g2 => ?_⟩
    have h6 := h2.ends g1 g2
    have hNz : N ≠ z := fun e => hlt z (.inr (.inr rfl)) e.symm
    have ho2 := (hb2.block N (block_lt hoV)).trans hoV
    have ho6 := (g2.block N (block_lt ho2) hNz).trans ho2
    refine (push_any h6.q h6.ok ((a : Int), (k : Int), N) ⟨⟨_, ho6⟩, fun e => hlt P (.inl (.inl rfl)) e.symm, fun e => hlt N (.inl (.inr e)) rfl⟩ hs).mono fun e w' hp => ⟨hp.1, Lib.hid ?_⟩
    obtain rfl := hp.1
    obtain ⟨v', M, q1, q2, q3⟩ := put_end h6 hlt hp
    refine ⟨rfl, v', M, N, by omega, q1, q2, ?_⟩
    have t1 := ((Wrote.of_below (H := homeA P v b0 z L) hb1).trans (Wrote.of_below hV)).trans (Wrote.of_below hb2)
    have t2 := t1.trans (wider g2 (fun q e => .inr (.inr e)))
    refine ⟨q3.os.trans t2.os, q3.tape.trans t2.tape, q3.output.trans t2.output, Nat.le_trans t2.size q3.size, fun q hq hn => (q3.block q (Nat.lt_of_lt_of_le hq t2.size) (fun e => e.elim hn (fun e => by have : q = N := e; omega))).trans (t2.block q hq hn), fun q hq => ?_⟩
    rcases q3.home q hq with (e | e) | e
    · exact .inl e
    · exact .inr (by have : q = N := e; omega)
    · exact .inr (Nat.le_trans t2.size e)
  obtain ⟨_, _, c2⟩ := h1.cs
  have hPz : P ≠ z := fun e => h.zP e.symm
  clear h h1 hb1 hnew hlt
  have a0 : (0 : Int) ≤ (a : Int) := by omega
  have q0 : (0 : Int) ≤ (k : Int) := by omega
  go_enter Try.func20, Try.ntmps20
  go_wp2_with fail
  generalize w.alloc (.cells #[.int .i64 a, .int .i64 k, .int .i64 0] 55) = W1 at *
  replace hN := Lib.hid hN
  have hbd : Below W1.heap.size W1 W1.drew := (Below.refl _ _).drew
  go_region_held3 (fun W' => W'.cell? ⟨P, 2, none⟩ = some (.map (some z))) (first | exact c2 | exact cz2 | go_keep | assumption) (first | (go_at_call 28; ((with_reducible refine (hcl.out _ (by repeat (first | assumption | exact Below.refl _ _ | refine below_drewN ?_ _ | refine below_alloc ?_ _ | refine below_then ?_ (by assumption)))).mono ?_); rintro e w2 ⟨rfl, cz2, hm2, hend⟩; obtain ⟨s1, s2, s3, v1, v2, v3, u1, u2, u3, u4, x2, x3, x4, y3, y4, r1, r2, r3, r4, r5, r6, r7, r8, r9, hkeep, hfin⟩ := two_put hm2.out hc wa wl N; obtain ⟨g1, g2, g3, g4, g5, g6, g7, g8, g9⟩ := hkeep P 2 _ hPz cz2; clear hkeep; have hcp := Lib.hid (fun u hu => hend.out u (hfin.out u hu).1 (hfin.out u hu).2); clear hm2 hend hfin)))
  all_goals
    go_wp2_with fail
    first
      | with_reducible refine Calls.mono (hcp.out _ (.inl rfl)) ?_
      | with_reducible refine Calls.mono (hcp.out _ (.inr (.inl rfl))) ?_
      | with_reducible refine Calls.mono (hcp.out _ (.inr (.inr rfl))) ?_
    rintro e w7 ⟨rfl, hgo⟩
    go_wp2_with fail
    go_end0
    exact hgo.out
end Pg
end Go.Proofs.Ytbheabjemaaeoab
