/- A Pages of a law: what Alloc answers and makes. -/
import Derived.Test.YtbheabjemaaeoabPageM
namespace Go.Proofs.Ytbheabjemaaeoab
open Go.RowKit Go.Lib Fx Ho Gr
set_option linter.unusedVariables false
namespace Pg
open Hm Mp
variable {W0 w w' W : World} {P b0 z n c i j k K a N : Nat} {v : Value} {L M : List Rn} {H H' : Home} {x r s : Rn} {F : List Bool} {m m' : Int → Value}
/-- A session of a law. -/
def Ps (W0 W : World) (P n c : Nat) (F : List Bool) (H : Home) : Prop := ∃ v b0 z L m, Pe W P v b0 z n c F L m ∧ Rel n F L ∧ Low W0.heap.size H ∧ Below W0.heap.size W0 W ∧ H = homeA P v b0 z L
def Step (t : Value) (W0 W : World) (P n c : Nat) (F : List Bool) (H : Home) (e : Ending) (W' : World) : Prop := e = .returned t ∧ ∃ H', Wrote H W H' W' ∧ Ps W0 W' P n c F H'
namespace Ps
theorem out (h : Ps W0 W P n c F H) : Below W0.heap.size W0 W := by obtain ⟨_, _, _, _, _, _, _, _, h, _⟩ := h; exact h
theorem low (h : Ps W0 W P n c F H) : Low W0.heap.size H := by obtain ⟨_, _, _, _, _, _, _, h, _⟩ := h; exact h
theorem lt (h : Ps W0 W P n c F H) {k : Nat} (hk : H k) : k < W.heap.size := by obtain ⟨_, _, _, _, _, h, _, _, _, rfl⟩ := h; exact h.pc.lt hk
theorem len (h : Ps W0 W P n c F H) : F.length = n := by obtain ⟨_, _, _, _, _, h, _⟩ := h; exact h.pc.len
theorem zero (h : Ps W0 W P n c F H) : F.getD 0 false = false := by obtain ⟨_, _, _, _, _, _, h, _⟩ := h; exact h.zero
theorem nb (h : Ps W0 W P n c F H) : n ≤ 270000 := by obtain ⟨_, _, _, _, _, h, _⟩ := h; exact h.nb
theorem below (h : Ps W0 W P n c F H) (hb : Below W.heap.size W w') : Ps W0 w' P n c F H := by
  obtain ⟨v, b0, z, L, m, h1, h2, h3, h4, h5⟩ := h
  exact ⟨v, b0, z, L, m, h1.below hb, h2, h3, h4.trans (hb.mono h4.size), h5⟩
theorem wrote {H1 H2 : Home} (h : Ps W0 W P n c F H) (hw : Wrote H1 W H2 w') (ho : Off H H1) (hl : Low W0.heap.size H1) : Ps W0 w' P n c F H := by
  obtain ⟨v, b0, z, L, m, h1, h2, h3, h4, rfl⟩ := h
  exact ⟨v, b0, z, L, m, h1.wrote hw ho, h2, h3, h4.trans (Rw.below_of_wrote hw hl h4.size), rfl⟩
theorem step {t : Value} {v v' : Value} {b0 z c' : Nat} {L M : List Rn} {F' : List Bool} {e : Ending} (hl : Low W0.heap.size (homeA P v b0 z L)) (hb : Below W0.heap.size W0 W) (he : e = .returned t) (hw : Wrote (homeA P v b0 z L) W (homeA P v' b0 z M) w') (h1 : Pe w' P v' b0 z n c' F' M m) (h2 : Rel n F' M) : Step t W0 W P n c' F' (homeA P v b0 z L) e w' :=
  ⟨he, _, hw, v', b0, z, M, m, h1, h2, hw.low hl hb.size, hb.trans (Rw.below_of_wrote hw hl hb.size), rfl⟩
end Ps
theorem step_below {t : Value} {e : Ending} (h : Ps W0 W P n c F H) (he : e = .returned t) (hb : Below W.heap.size W w') : Step t W0 W P n c F H e w' := ⟨he, H, Wrote.of_below hb, h.below hb⟩
theorem rel_nat (hr : Rel n F L) (hx : Lx n L) (h : r ∈ L) : ∃ a K : Nat, r.1 = (a : Int) ∧ r.2.1 = (K : Int) ∧ IsRun n F a K := by
  have hp := hx.pos r h
  exact ⟨r.1.toNat, r.2.1.toNat, by omega, by omega, hr.sound r h⟩
/-- The run a, K is the one that Alloc of k pages takes. -/
def Best (n : Nat) (F : List Bool) (k a K : Nat) : Prop := IsRun n F a K ∧ k ≤ K ∧ ∀ b m, IsRun n F b m → k ≤ m → K < m ∨ (K = m ∧ a ≤ b)
theorem best_of (hr : Rel n F L) (hx : Lx n L) {j0 : Nat} (hj : j0 < L.length) (hk : (k : Int) ≤ (L.getD j0 Rn.rn0).2.1) (hmin : ∀ j, Desc 0 j → j < L.length → (k : Int) ≤ (L.getD j Rn.rn0).2.1 → Rn.ahead (L.getD j Rn.rn0) (L.getD j0 Rn.rn0) = false) : ∃ a K, (L.getD j0 Rn.rn0).1 = ((a : Nat) : Int) ∧ (L.getD j0 Rn.rn0).2.1 = ((K : Nat) : Int) ∧ Best n F k a K := by
  obtain ⟨a, K, h1, h2, h3⟩ := rel_nat hr hx (mem_at hj)
  refine ⟨a, K, h1, h2, h3, by omega, fun b m g hkm => ?_⟩
  obtain ⟨s, hs, s1, s2⟩ := hr.all b m g
  obtain ⟨j, hj2, e⟩ := at_mem hs
  have := hmin j (desc_all j j (Nat.le_refl _)) hj2 (by rw [e]; omega)
  rw [e] at this
  unfold Rn.ahead at this
  rw [decide_eq_false_iff_not] at this
  omega
/-- What is left of the runs, and of the pages, where a run gave its first k. -/
theorem rel_cut (hr : Rel n F L) (hx : Lx n L) (hl : F.length = n) (hp : (r :: M).Perm L) (h1 : r.1 = (a : Int)) (h2 : r.2.1 = (K : Int)) (hk : 1 ≤ k) (hkK : k ≤ K) {X : List Rn} (hX : X = if k < K then [(((a + k : Nat) : Int), ((K - k : Nat) : Int), N)] else []) {M2 : List Rn} (hM : M2.Perm (M ++ X)) : Rel n (setR F a false k) M2 := by
  have hrL : r ∈ L := hp.mem_iff.1 (List.mem_cons_self ..)
  have hrun : IsRun n F a K := by have := hr.sound r hrL; rwa [h1, h2, Int.toNat_natCast, Int.toNat_natCast] at this
  have hiff := run_cut hrun hk hkK hl
  have hxp := hx.perm hp
  have hcons := hxp.cons
  have hz : (setR F a false k).getD 0 false = false := by
    rw [setR_get F a false 0 k (by have := hrun.le; omega)]
    split
    · rfl
    · exact hr.zero
  refine (show Rel n (setR F a false k) (M ++ X) from ⟨fun s hs => ?_, fun b q g => ?_, hz⟩).perm hM
  · rcases List.mem_append.1 hs with hs | hs
    · have hsL : s ∈ L := hp.mem_iff.1 (List.mem_cons_of_mem _ hs)
      refine (hiff _ _).2 (.inl ⟨hr.sound s hsL, fun e => ?_⟩)
      have ha := hcons.2 s hs
      have hps := hx.pos s hsL
      unfold Apart at ha
      have := hrun.k1
      omega
    · by_cases q : k < K
      · rw [hX, if_pos q] at hs
        obtain rfl : s = (((a + k : Nat) : Int), ((K - k : Nat) : Int), N) := by simpa using hs
        exact (hiff _ _).2 (.inr ⟨q, Int.toNat_natCast _, Int.toNat_natCast _⟩)
      · rw [hX, if_neg q] at hs; cases hs
  · rcases (hiff b q).1 g with ⟨g1, g2⟩ | ⟨q1, rfl, rfl⟩
    · obtain ⟨s, hs, s1, s2⟩ := hr.all b q g1
      rcases List.mem_cons.1 (hp.mem_iff.2 hs) with rfl | hs
      · rw [h1] at s1; exact absurd (by omega) g2
      · exact ⟨s, List.mem_append_left _ hs, s1, s2⟩
    · refine ⟨(((a + k : Nat) : Int), ((K - k : Nat) : Int), N), List.mem_append_right _ ?_, rfl, rfl⟩
      rw [hX, if_pos q1]; simp
theorem pe_free {F' : List Bool} (h : Pe w P v b0 z n c F L m) (h1 : Pc w' P v b0 z n c F' L m) : Pe w' P v b0 z n c F' L m := ⟨h1, h.lx, h.en, h.lc, h.nb⟩
/-- Some pages of a run are taken: the run out of the heap, what is left into it, the pages set. -/
theorem alloc_chain (h : Pe w P v b0 z n c F L m) (hr : Rel n F L) (hlow : Low W0.heap.size (homeA P v b0 z L)) (hout : Below W0.heap.size W0 w) (hc : c ≤ 990) (hj : j < L.length) (h1 : (L.getD j Rn.rn0).1 = (a : Int)) (h2 : (L.getD j Rn.rn0).2.1 = (K : Int)) (hk : 1 ≤ k) (hkK : k ≤ K) {V : World} (hV : Below w.heap.size w V) :
    Calls Try.prog 22 #[.pointer (some ⟨P, 0, none⟩), .int .i64 j] V fun e w3 => ∃ rb, e = .returned (.pointer (some ⟨rb, 0, none⟩)) ∧ w3.cell? ⟨rb, 0, none⟩ = some (.int .i64 a) ∧ w3.cell? ⟨rb, 1, none⟩ = some (.int .i64 K) ∧
      Hid (k < K → ∀ U, Below w3.heap.size w3 U → Calls Try.prog 20 #[.pointer (some ⟨P, 0, none⟩), .int .i64 ((a : Int) + k), .int .i64 ((K : Int) - k)] U fun e w4 => e = .returned (.tuple #[]) ∧ w4.cell? ⟨rb, 0, none⟩ = some (.int .i64 a) ∧ w4.cell? ⟨rb, 1, none⟩ = some (.int .i64 K) ∧ Hid (Calls Try.prog 19 #[.pointer (some ⟨P, 0, none⟩), .int .i64 a, .int .i64 k, .bool false] w4 fun e w5 => e = .returned (.tuple #[]) ∧ w5.cell? ⟨rb, 0, none⟩ = some (.int .i64 a) ∧ Hid (Step (.tuple #[.int .i64 a, .int .i64 0]) W0 w P n (c + 4) (setR F a false k) (homeA P v b0 z L) (.returned (.tuple #[.int .i64 a, .int .i64 0])) w5))) ∧
      Hid (k = K → Calls Try.prog 19 #[.pointer (some ⟨P, 0, none⟩), .int .i64 a, .int .i64 k, .bool false] w3 fun e w5 => e = .returned (.tuple #[]) ∧ w5.cell? ⟨rb, 0, none⟩ = some (.int .i64 a) ∧ Hid (Step (.tuple #[.int .i64 a, .int .i64 0]) W0 w P n (c + 4) (setR F a false k) (homeA P v b0 z L) (.returned (.tuple #[.int .i64 a, .int .i64 0])) w5)) := by
  obtain ⟨r, hrr⟩ : ∃ r, L.getD j Rn.rn0 = r := ⟨_, rfl⟩
  rw [hrr] at h1 h2
  have hrL : r ∈ L := by rw [← hrr]; exact mem_at hj
  have hpos := h.lx.pos r hrL
  have hlen := h.pc.len
  have hnb := h.nb
  refine (take_e (h.below hV) hj hrr).mono fun e w3 ⟨he, v3, M, m3, g1, g2, g3, g4, g5, g6⟩ => ?_
  have hw3 := (Wrote.of_below (H := homeA P v b0 z L) hV).trans g3
  rw [h1] at g4
  rw [h2] at g5
  have hb0 : r.2.2 ≠ b0 := fun e => g6 (.inr (.inl e))
  refine ⟨r.2.2, he, g4, g5, Lib.hid fun hlt U hU => ?_, Lib.hid fun heq => ?_⟩
  · have hd : ∀ s, s ∈ M → s.1 + s.2.1 ≤ ((a + k : Nat) : Int) ∨ ((a + k : Nat) : Int) + ((K - k : Nat) : Int) ≤ s.1 := fun s hs => by
      have := ((h.lx.perm g2).cons.2 s hs)
      unfold Apart at this
      omega
    have hp := put_e (g1.below hU) hc (a + k) (K - k) (by omega) (by omega) (by omega) hd
    rw [show ((a + k : Nat) : Int) = (a : Int) + k by omega, show ((K - k : Nat) : Int) = (K : Int) - k by omega] at hp
    refine hp.mono fun e w4 ⟨he4, v4, M4, m4, N, hN, q1, q2, q3⟩ => ?_
    have hwU := (Wrote.of_below (H := homeA P v3 b0 z M) hU).trans q3
    refine ⟨he4, hwU.cell g4 g6, hwU.cell g5 g6, Lib.hid ((set_any q1.pc a k false (by omega) (by omega)).mono fun e w5 ⟨he5, s1, s2⟩ => ⟨he5, s2.cell (hwU.cell g4 g6) hb0, Lib.hid ?_⟩)⟩
    have hw4 := hw3.trans hwU
    refine Ps.step hlow hout rfl (hw4.trans (wider s2 (fun q e => .inr (.inl e)))) (pe_free q1 s1) (rel_cut (N := N) hr h.lx hlen g2 h1 h2 hk hkK (X := [(((a + k : Nat) : Int), ((K - k : Nat) : Int), N)]) (by rw [if_pos hlt]) q2)
  · refine (set_any g1.pc a k false (by omega) (by omega)).mono fun e w5 ⟨he5, s1, s2⟩ => ⟨he5, s2.cell g4 hb0, Lib.hid ?_⟩
    have hpe := pe_free g1 s1
    refine Ps.step hlow hout rfl (hw3.trans (wider s2 (fun q e => .inr (.inl e)))) (m := m3) ⟨⟨hpe.pc.q, hpe.pc.fr, hpe.pc.len, hpe.pc.map.mono (by omega), hpe.pc.ok, hpe.pc.bz, hpe.pc.bP, hpe.pc.zP, hpe.pc.bh, hpe.pc.zh⟩, hpe.lx, hpe.en, by have := hpe.lc; omega, hpe.nb⟩ (rel_cut (N := 0) hr h.lx hlen g2 h1 h2 hk hkK (X := []) (by rw [if_neg (by omega)]) (by rw [List.append_nil]))
/-- What Alloc answers and makes. -/
def AllocR (W0 W : World) (P n c : Nat) (F : List Bool) (H : Home) (k : Int) (e : Ending) (W' : World) : Prop :=
  (k < 1 ∧ Step (.tuple #[.int .i64 0, .int .i64 1]) W0 W P n c F H e W') ∨
  (1 ≤ k ∧ (∀ a K, IsRun n F a K → (K : Int) < k) ∧ Step (.tuple #[.int .i64 0, .int .i64 3]) W0 W P n c F H e W') ∨
  ∃ a K q : Nat, k = (q : Int) ∧ 1 ≤ q ∧ Best n F q a K ∧ Step (.tuple #[.int .i64 a, .int .i64 0]) W0 W P n (c + 4) (setR F a false q) H e W'
set_option maxRecDepth 100000 in
set_option maxHeartbeats 2000000 in
theorem alloc_any (h : Ps W0 W P n c F H) (hc : c ≤ 990) (k : Int) : Calls Try.prog 7 #[.pointer (some ⟨P, 0, none⟩), .int .i64 k] W (AllocR W0 W P n c F H k) := by
  by_cases hk : k < 1
  · have hgo := Lib.hid (fun e W' he hb => (.inl ⟨hk, step_below (e := e) (w' := W') h he hb⟩ : AllocR W0 W P n c F H k e W'))
    clear h
    go_enter Try.func7, Try.ntmps7
    go_wp2_with fail
    go_ret2
    exact hgo.out _ _ rfl (Below.refl _ _)
  · obtain ⟨q, rfl⟩ : ∃ q : Nat, k = (q : Int) := ⟨k.toNat, by omega⟩
    have q1 : 1 ≤ q := by omega
    obtain ⟨v, b0, z, L, m, h1, h2, h3, h4, rfl⟩ := id h
    have cs := seek_any h1.pc.q.pile h1.pc.ok (q : Int) L.length 0 (by omega) (by omega) W (Below.refl _ _)
    rw [Int.natCast_zero] at cs
    have c1 := h1.pc.cs.2.1
    have hno : Hid (∀ W', Below W.heap.size W W' → SR L q 0 (-1) → AllocR W0 W P n c F (homeA P v b0 z L) q (.returned (.tuple #[.int .i64 0, .int .i64 3])) W') := Lib.hid fun W' hb hs => .inr (.inl ⟨by omega, fun a K g => by
      rcases hs with ⟨_, hs⟩ | ⟨j0, e, _⟩
      · obtain ⟨s, s0, s1, s2⟩ := h2.all a K g
        obtain ⟨j, hj, e⟩ := at_mem s0
        have := hs j (desc_all j j (Nat.le_refl _)) hj
        rw [e] at this; omega
      · omega, step_below h rfl hb⟩)
    have hyes : Hid (∀ (j : Nat) w2, Below W.heap.size W w2 → j < L.length → SR L q 0 (j : Int) → ∃ a K : Nat, q ≤ K ∧ K ≤ 270000 ∧ a ≤ 270000 ∧ Hid (Best n F q a K) ∧ Calls Try.prog 22 #[.pointer (some ⟨P, 0, none⟩), .int .i64 j] w2 fun e w3 => ∃ rb, e = .returned (.pointer (some ⟨rb, 0, none⟩)) ∧ w3.cell? ⟨rb, 0, none⟩ = some (.int .i64 a) ∧ w3.cell? ⟨rb, 1, none⟩ = some (.int .i64 K) ∧
      Hid (q < K → ∀ U, Below w3.heap.size w3 U → Calls Try.prog 20 #[.pointer (some ⟨P, 0, none⟩), .int .i64 ((a : Int) + q), .int .i64 ((K : Int) - q)] U fun e w4 => e = .returned (.tuple #[]) ∧ w4.cell? ⟨rb, 0, none⟩ = some (.int .i64 a) ∧ w4.cell? ⟨rb, 1, none⟩ = some (.int .i64 K) ∧ Hid (Calls Try.prog 19 #[.pointer (some ⟨P, 0, none⟩), .int .i64 a, .int .i64 q, .bool false] w4 fun e w5 => e = .returned (.tuple #[]) ∧ w5.cell? ⟨rb, 0, none⟩ = some (.int .i64 a) ∧ Hid (Step (.tuple #[.int .i64 a, .int .i64 0]) W0 W P n (c + 4) (setR F a false q) (homeA P v b0 z L) (.returned (.tuple #[.int .i64 a, .int .i64 0])) w5))) ∧
      Hid (q = K → Calls Try.prog 19 #[.pointer (some ⟨P, 0, none⟩), .int .i64 a, .int .i64 q, .bool false] w3 fun e w5 => e = .returned (.tuple #[]) ∧ w5.cell? ⟨rb, 0, none⟩ = some (.int .i64 a) ∧ Hid (Step (.tuple #[.int .i64 a, .int .i64 0]) W0 W P n (c + 4) (setR F a false q) (homeA P v b0 z L) (.returned (.tuple #[.int .i64 a, .int .i64 0])) w5))) := Lib.hid fun j w2 hb hj hs => by
      rcases hs with ⟨e, _⟩ | ⟨j0, e, _, hj0, hk0, hmin⟩
      · omega
      · obtain rfl : j = j0 := by omega
        obtain ⟨a, K, e1, e2, hbest⟩ := best_of h2 h1.lx hj0 hk0 hmin
        have hle := hbest.1.le
        have hnb := h1.nb
        exact ⟨a, K, hbest.2.1, by omega, by omega, Lib.hid hbest, alloc_chain h1 h2 h3 h4 hc hj0 e1 e2 q1 hbest.2.1 hb⟩
    clear h h1 h2 h3 h4
    go_enter Try.func7, Try.ntmps7
    go_wp2_with fail
    with_reducible refine Calls.mono cs ?_
    rintro e w2 ⟨l, rfl, hb2, hsl⟩
    clear cs
    rcases sr_nat hsl with rfl | ⟨j, rfl, hj⟩
    · have hgo := Lib.hid (hno.out w2 hb2 hsl)
      clear hno hyes hsl
      go_wp2_with fail
      go_ret2
      exact hgo.out
    · obtain ⟨a, K, hqK, hK, ha, hbest, ct⟩ := hyes.out j w2 hb2 hj hsl
      have j0 : (0 : Int) ≤ (j : Int) := by omega
      clear hno hyes hsl hb2
      go_wp2_with fail
      with_reducible refine Calls.mono ct ?_
      rintro e w3 ⟨rb, rfl, c0, c1', hput, hset⟩
      clear ct
      rcases Nat.lt_or_ge q K with hlt | hge
      · have i1 : (q : Int) < (K : Int) := by omega
        replace hput := Lib.hid (hput.out hlt)
        clear hset
        have hbd : Below w3.heap.size w3 w3.drew := (Below.refl _ _).drew
        have z1 : IntKind.i64.wrap ((a : Int) + (q : Int)) = (a : Int) + (q : Int) := by rw [IntKind.wrap_i64]; omega
        have z2 : IntKind.i64.wrap ((K : Int) - (q : Int)) = (K : Int) - (q : Int) := by rw [IntKind.wrap_i64]; omega
        go_wp2_with fail
        go_region_held3 (fun W' => W'.cell? ⟨rb, 0, none⟩ = some (.int .i64 a) ∧ W'.cell? ⟨rb, 1, none⟩ = some (.int .i64 K)) (first | exact ⟨c0, c1'⟩ | exact ⟨d0, d1⟩ | go_keep | assumption) (first | (go_at_call 20; ((with_reducible refine (hput.out _ (by repeat (first | assumption | exact Below.refl _ _ | refine below_drewN ?_ _ | refine below_alloc ?_ _ | refine below_then ?_ (by assumption)))).mono ?_); rintro e w4 ⟨rfl, d0, d1, hs4⟩)))
        all_goals
          have cset := hs4.out
          clear hs4 hput
          go_wp2_with fail
          with_reducible refine Calls.mono cset ?_
          rintro e w5 ⟨rfl, e0, hgo⟩
          clear cset
          go_wp2_with fail
          go_ret2
          exact .inr (.inr ⟨a, K, q, rfl, q1, hbest.out, hgo.out⟩)
      · obtain rfl : q = K := by omega
        have i1 : ¬ (q : Int) < (q : Int) := by omega
        have cset := hset.out rfl
        clear hset hput
        go_wp2_with fail
        with_reducible refine Calls.mono cset ?_
        rintro e w5 ⟨rfl, e0, hgo⟩
        clear cset
        go_wp2_with fail
        go_ret2
        exact .inr (.inr ⟨a, q, q, rfl, q1, hbest.out, hgo.out⟩)
end Pg
end Go.Proofs.Ytbheabjemaaeoab
