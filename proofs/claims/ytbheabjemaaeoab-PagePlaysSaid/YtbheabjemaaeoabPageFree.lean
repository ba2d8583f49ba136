/- A Pages of a law: what Free answers and makes. -/
import Derived.Test.YtbheabjemaaeoabPageJ
namespace Go.Proofs.Ytbheabjemaaeoab
open Go.RowKit Go.Lib Fx Ho Gr
set_option linter.unusedVariables false
namespace Pg
open Hm Mp
variable {W0 w w' w1 W : World} {P b0 z n c i j k K a N d : Nat} {v v' : Value} {L L2 M : List Rn} {H H' : Home} {x r s : Rn} {F F' : List Bool} {m m' : Int → Value}
set_option maxRecDepth 100000 in
set_option maxHeartbeats 1000000 in
theorem may_any (h : Pc w P v b0 z n c F L m) (hn : n ≤ 270000) (a k : Int) (ha : a ≤ 9223372036854775807) : Calls Try.prog 23 #[.pointer (some ⟨P, 0, none⟩), .int .i64 a, .int .i64 k] w (Still (.bool (decide (1 ≤ a ∧ 1 ≤ k ∧ k ≤ (n : Int) - a))) w) := by
  obtain ⟨c0, _, _⟩ := h.cs
  clear h
  by_cases h1 : 1 ≤ a
  · by_cases h2 : 1 ≤ k
    · by_cases h3 : k ≤ (n : Int) - a
      · rw [decide_eq_true ⟨h1, h2, h3⟩]
        go_enter Try.func23, Try.ntmps23
        go_wp2_with fail
        go_ret
        exact ⟨rfl, rfl⟩
      · rw [decide_eq_false (fun q => h3 q.2.2)]
        go_enter Try.func23, Try.ntmps23
        go_wp2_with fail
        go_ret
        exact ⟨rfl, rfl⟩
    · rw [decide_eq_false (fun q => h2 q.2.1)]
      go_enter Try.func23, Try.ntmps23
      go_wp2_with fail
      go_ret
      exact ⟨rfl, rfl⟩
  · rw [decide_eq_false (fun q => h1 q.1)]
    go_enter Try.func23, Try.ntmps23
    go_wp2_with fail
    go_ret
    exact ⟨rfl, rfl⟩
def Idx (F : List Bool) (a k : Nat) (r : Int) : Prop := (r = -1 ∧ ∀ i, a ≤ i → i < a + k → F.getD i false = false) ∨ (0 ≤ r ∧ ∃ i, a ≤ i ∧ i < a + k ∧ F.getD i false = true)
set_option maxRecDepth 100000 in
set_option maxHeartbeats 1000000 in
theorem idx_any (hf : w.heap[b0]? = some (.cells (bs F) 4 (0, 0))) (hak : a + k ≤ F.length) (hn : F.length ≤ 270000) (cap : Nat) : Calls Try.prog 32 #[.slice (some ⟨b0, a, none⟩) k cap, .bool true] w fun e w' => w' = w ∧ ∃ r : Int, e = .returned (.int .i64 r) ∧ Idx F a k r := by
  have hc : Hid (∀ i, i < k → w.cell? ⟨b0, a + i, none⟩ = some (.bool (F.getD (a + i) false))) := Lib.hid fun i hi => cell_of hf (bs_get (by omega))
  have hyes : Hid (∀ i : Nat, i < k → F.getD (a + i) false = true → Idx F a k i) := Lib.hid fun i hi h => .inr ⟨by omega, a + i, by omega, by omega, h⟩
  have hno : Hid ((∀ i, i < k → F.getD (a + i) false = false) → Idx F a k (-1)) := Lib.hid fun h => .inl ⟨rfl, fun i h1 h2 => by have := h (i - a) (by omega); rwa [show a + (i - a) = i by omega] at this⟩
  have kb : (k : Int) ≤ 270000 := by omega
  clear hf
  go_enter Try.func32, Try.ntmps32
  go_wp2_with fail
  go_loop [8] (fun u => ∃ j : Nat, u = .int .i64 j ∧ j ≤ k ∧ Hid (∀ i, i < j → F.getD (a + i) false = false)) (fun u => (k - (RowKit.intOf u).toNat))
  case atStart => exact ⟨0, rfl, by omega, Lib.hid fun i hi => by omega⟩
  case round =>
    obtain ⟨j, rfl, jk, hF⟩ := hrel
    have j0 : (0 : Int) ≤ (j : Int) := by omega
    by_cases hj : j < k
    · have j1 : (j : Int) < (k : Int) := by omega
      have c1 := hc.out j hj
      cases hx : F.getD (a + j) false with
      | true =>
        rw [hx] at c1
        have hgo := Lib.hid (hyes.out j hj hx)
        clear hc hyes hno hF hx
        go_wp2_with fail
        go_ret
        exact ⟨rfl, _, rfl, hgo.out⟩
      | false =>
        rw [hx] at c1
        have hF2 : Hid (∀ i, i < j + 1 → F.getD (a + i) false = false) := Lib.hid fun i hi => by
          by_cases e : i = j
          · rw [e]; exact hx
          · exact hF.out i (by omega)
        clear hc hyes hno hF hx
        go_wp2_with fail
        go_round
        case rel => exact ⟨j + 1, by go_num, by omega, hF2⟩
        case measure => simp [RowKit.intOf]; omega
    · obtain rfl : j = k := by omega
      have j1 : ¬ (j : Int) < (j : Int) := by omega
      have hgo := Lib.hid (hno.out hF.out)
      clear hc hyes hno hF
      go_wp2_with fail
      go_ret
      exact ⟨rfl, _, rfl, hgo.out⟩
def Any (F : List Bool) (a k : Nat) : Prop := ∃ i, a ≤ i ∧ i < a + k ∧ F.getD i false = true
set_option maxRecDepth 100000 in
theorem has_any (hf : w.heap[b0]? = some (.cells (bs F) 4 (0, 0))) (hak : a + k ≤ F.length) (hn : F.length ≤ 270000) (cap : Nat) : Calls Try.prog 24 #[.slice (some ⟨b0, a, none⟩) k cap, .bool true] w fun e w' => w' = w ∧ ((e = .returned (.bool true) ∧ Any F a k) ∨ (e = .returned (.bool false) ∧ ∀ i, a ≤ i → i < a + k → F.getD i false = false)) := by
  have ci := idx_any hf hak hn cap
  clear hf
  go_enter Try.func24, Try.ntmps24
  go_wp2_with fail
  with_reducible refine Calls.mono (ci) ?_
  rintro e w2 ⟨rfl, r, rfl, hr⟩
  clear ci
  rcases hr with ⟨rfl, h2⟩ | ⟨h1, h2⟩
  · replace h2 := Lib.hid h2
    go_wp2_with fail
    go_ret
    exact ⟨rfl, .inr ⟨rfl, h2.out⟩⟩
  · replace h2 := Lib.hid h2
    go_wp2_with fail
    go_ret
    exact ⟨rfl, .inl ⟨rfl, h2.out⟩⟩
/-- What the map tells at the left of the pages. -/
theorem left_look (hr : Rel n F L) (hx : Lx n L) (he : Ends m L) (ha : 1 ≤ a) (hf : F.getD a false = false) : (∃ r, r ∈ L ∧ r.1 + r.2.1 = (a : Int) ∧ m ((a : Int) - 1) = pn r.2.2) ∨ ((∀ r, r ∈ L → r.1 + r.2.1 ≠ (a : Int)) ∧ m ((a : Int) - 1) = pz) := by
  rcases he ((a : Int) - 1) with ⟨r, h1, h2, h3⟩ | ⟨h1, h2⟩
  · refine .inl ⟨r, h1, ?_, h3⟩
    obtain ⟨p, A, e1, e2, g⟩ := rel_nat hr hx h1
    unfold End at h2
    rcases h2 with h2 | h2
    · rcases Nat.lt_or_ge a (p + A) with q | q
      · have := g.in_ a (by omega) q
        rw [hf] at this; cases this
      · have := g.k1
        omega
    · omega
  · refine .inr ⟨fun r hr2 e => h1 r hr2 ?_, h2⟩
    unfold End; omega
theorem right_look (hr : Rel n F L) (hx : Lx n L) (hM : ∀ s, s ∈ M → s ∈ L) (he : Ends m M) (h1 : 1 ≤ d) (hf : F.getD (d - 1) false = false) : (∃ r, r ∈ M ∧ r.1 = (d : Int) ∧ m (d : Int) = pn r.2.2) ∨ ((∀ r, r ∈ M → r.1 ≠ (d : Int)) ∧ m (d : Int) = pz) := by
  rcases he (d : Int) with ⟨r, g1, g2, g3⟩ | ⟨g1, g2⟩
  · refine .inl ⟨r, g1, ?_, g3⟩
    obtain ⟨p, A, e1, e2, g⟩ := rel_nat hr hx (hM r g1)
    unfold End at g2
    rcases g2 with g2 | g2
    · exact g2
    · rcases Nat.lt_or_ge p d with q | q
      · have := g.in_ (d - 1) (by omega) (by omega)
        rw [hf] at this; cases this
      · have := g.k1
        omega
  · refine .inr ⟨fun r hr2 e => g1 r hr2 ?_, g2⟩
    unfold End; omega
/-- What stands: the runs at the left of the pages are taken. -/
def SB (W0 w W : World) (P n c : Nat) (F : List Bool) (L : List Rn) (H : Home) (a k p K : Nat) : Prop := ∃ v b0 z L2 m, Pe W P v b0 z n c (setR F a true k) L2 m ∧ LeftOf n F a p ∧ p + K = a + k ∧ Wrote H w (homeA P v b0 z L2) W ∧ ∀ s, s ∈ L2 ↔ s ∈ L ∧ s.1 + s.2.1 ≠ (a : Int)
/-- .. and those at the right. -/
def SC (W0 w W : World) (P n c : Nat) (F : List Bool) (L : List Rn) (H : Home) (a k p K : Nat) : Prop := ∃ v b0 z L2 m, Pe W P v b0 z n c (setR F a true k) L2 m ∧ LeftOf n F a p ∧ RightOf n F (a + k) (p + K) ∧ Wrote H w (homeA P v b0 z L2) W ∧ ∀ s, s ∈ L2 ↔ s ∈ L ∧ s.1 + s.2.1 ≠ (a : Int) ∧ s.1 ≠ (a : Int) + k
def look (W : World) (z : Nat) (κ : Int) (x : Value) : Prop := (Instr.lookup 45 (.map (some z)) (.int .i64 κ) false).run Try.prog W = .ok x W
theorem look_of (h : Pc W P v b0 z n c F L m) {κ : Int} (hk : (Lit.int .i64 κ).wf = true) : look W z κ (m κ) := h.map.look fairQ Try.underlying45 (zeroG W) hk
theorem mem_drop (hx : Lx n L) (hp : (r :: M).Perm L) {Q : Rn → Prop} (hq : ¬ Q r) (hall : ∀ s, s ∈ M → Q s) : ∀ s, s ∈ M ↔ s ∈ L ∧ Q s := fun s => by
  constructor
  · exact fun h => ⟨hp.mem_iff.1 (List.mem_cons_of_mem _ h), hall s h⟩
  · rintro ⟨h1, h2⟩
    rcases List.mem_cons.1 (hp.mem_iff.2 h1) with rfl | h
    · exact absurd h2 hq
    · exact h
/-- The left side. -/
theorem left_stage (h : Pe w1 P v b0 z n c (setR F a true k) L m) (hr : Rel n F L) (hl : F.length = n) (ha : 1 ≤ a) (hk : 1 ≤ k) (hak : a + k ≤ n) (hf : ∀ i, a ≤ i → i < a + k → F.getD i false = false) (hw : Wrote H w (homeA P v b0 z L) w1) :
    (look w1 z ((a : Int) - 1) pz ∧ SB W0 w w1 P n c F L H a k a k) ∨ ∃ blk j p A : Nat, look w1 z ((a : Int) - 1) (pn blk) ∧ w1.cell? ⟨blk, 2, none⟩ = some (.int .i64 j) ∧ p ≤ 270000 ∧ A ≤ 270000 ∧ p + A = a ∧ Calls Try.prog 22 #[.pointer (some ⟨P, 0, none⟩), .int .i64 j] w1 fun e w2 => ∃ rb, e = .returned (.pointer (some ⟨rb, 0, none⟩)) ∧ w2.cell? ⟨rb, 0, none⟩ = some (.int .i64 p) ∧ w2.cell? ⟨rb, 1, none⟩ = some (.int .i64 A) ∧ Hid (∀ V, Below w2.heap.size w2 V → SB W0 w V P n c F L H a k p (A + k)) := by
  have hnb := h.nb
  have hlk := look_of h.pc (κ := (a : Int) - 1) (WalkArith.wf_i64 (by omega))
  rcases left_look hr h.lx h.en ha (hf a (Nat.le_refl _) (by omega)) with ⟨r, r1, r2, r3⟩ | ⟨r1, r2⟩
  · refine .inr ?_
    obtain ⟨j, hj, hjr⟩ := at_mem r1
    obtain ⟨p, A, e1, e2, g⟩ := rel_nat hr h.lx r1
    have gle := g.le
    rw [r3] at hlk
    have hc := (h.pc.q.pile.cells hj).2.2.1
    rw [hjr] at hc
    refine ⟨r.2.2, j, p, A, hlk, hc, by omega, by omega, by omega, (take_e h hj hjr).mono fun e w2 ⟨he, v', M, m', g1, g2, g3, g4, g5, g6⟩ => ⟨r.2.2, he, by rw [e1] at g4; exact g4, by rw [e2] at g5; exact g5, Lib.hid fun V hV => ?_⟩⟩
    refine ⟨v', b0, z, M, m', g1.below hV, .inr ⟨A, g, by omega⟩, by omega, (hw.trans g3).trans (Wrote.of_below hV), mem_drop h.lx g2 (fun q => q r2) fun s hs q => ?_⟩
    have := (h.lx.perm g2).cons.2 s hs
    have hps := h.lx.pos s (g2.mem_iff.1 (List.mem_cons_of_mem _ hs))
    have hpr := h.lx.pos r r1
    unfold Apart at this
    omega
  · refine .inl ?_
    rw [r2] at hlk
    refine ⟨hlk, v, b0, z, L, m, h, left_none hl hr.zero (hf a (Nat.le_refl _) (by omega)) ha (fun b q g e => ?_), rfl, hw, fun s => ⟨fun hs => ⟨hs, r1 s hs⟩, fun hs => hs.1⟩⟩
    obtain ⟨s, s0, s1, s2⟩ := hr.all b q g
    exact r1 s s0 (by omega)
/-- The right side. -/
theorem right_stage {p K : Nat} (h : SB W0 w W P n c F L H a k p K) (hr : Rel n F L) (hx : Lx n L) (hl : F.length = n) (ha : 1 ≤ a) (hk : 1 ≤ k) (hak : a + k ≤ n) (hf : ∀ i, a ≤ i → i < a + k → F.getD i false = false) :
    ∃ z, W.cell? ⟨P, 2, none⟩ = some (.map (some z)) ∧ ((look W z ((a : Int) + k) pz ∧ SC W0 w W P n c F L H a k p K) ∨ ∃ blk j B : Nat, look W z ((a : Int) + k) (pn blk) ∧ W.cell? ⟨blk, 2, none⟩ = some (.int .i64 j) ∧ B ≤ 270000 ∧ Calls Try.prog 22 #[.pointer (some ⟨P, 0, none⟩), .int .i64 j] W fun e w2 => ∃ rb, e = .returned (.pointer (some ⟨rb, 0, none⟩)) ∧ w2.cell? ⟨rb, 1, none⟩ = some (.int .i64 B) ∧ Hid (SC W0 w w2 P n c F L H a k p (K + B))) := by
  obtain ⟨v, b0, z, L2, m, h1, h2, h3, h4, h5⟩ := h
  have hnb := h1.nb
  have hM : ∀ s, s ∈ L2 → s ∈ L := fun s hs => ((h5 s).1 hs).1
  have hlk := look_of h1.pc (κ := (a : Int) + k) (WalkArith.wf_i64 (by omega))
  refine ⟨z, h1.pc.cs.2.2, ?_⟩
  have hrl := right_look hr hx hM h1.en (d := a + k) (by omega) (hf (a + k - 1) (by omega) (by omega))
  rw [show ((a + k : Nat) : Int) = (a : Int) + k by omega] at hrl
  rcases hrl with ⟨r, r1, r2, r3⟩ | ⟨r1, r2⟩
  · refine .inr ?_
    obtain ⟨j, hj, hjr⟩ := at_mem r1
    obtain ⟨q, B, e1, e2, g⟩ := rel_nat hr hx (hM r r1)
    obtain rfl : q = a + k := by omega
    have gle := g.le
    rw [r3] at hlk
    have hc := (h1.pc.q.pile.cells hj).2.2.1
    rw [hjr] at hc
    refine ⟨r.2.2, j, B, hlk, hc, by omega, (take_e h1 hj hjr).mono fun e w2 ⟨he, v', M, m', g1, g2, g3, g4, g5, g6⟩ => ⟨r.2.2, he, by rw [e2] at g5; exact g5, Lib.hid ?_⟩⟩
    refine ⟨v', b0, z, M, m', g1, h2, .inr ⟨B, g, by omega⟩, h4.trans g3, fun s => ?_⟩
    have hd := mem_drop h1.lx g2 (Q := fun s => s.1 ≠ (a : Int) + k) (fun q => q r2) (fun s hs q => by
      have := (h1.lx.perm g2).cons.2 s hs
      have hps := h1.lx.pos s (g2.mem_iff.1 (List.mem_cons_of_mem _ hs))
      have hpr := h1.lx.pos r r1
      unfold Apart at this
      omega) s
    rw [hd, h5 s, and_assoc]
  · refine .inl ?_
    rw [r2] at hlk
    refine ⟨hlk, v, b0, z, L2, m, h1, h2, ?_, h4, fun s => ?_⟩
    · rw [h3]
      refine right_none hl hr.zero (by omega) (hf _ (by omega) (by omega)) (fun b q g e => ?_)
      obtain ⟨s, s0, s1, s2⟩ := hr.all b q g
      by_cases q2 : s ∈ L2
      · exact r1 s q2 (by omega)
      · have : ¬ s.1 + s.2.1 ≠ (a : Int) := fun q3 => q2 ((h5 s).2 ⟨s0, q3⟩)
        have hps := hx.pos s s0
        omega
    · rw [h5 s]
      exact ⟨fun q => ⟨q.1, q.2, r1 s ((h5 s).2 q)⟩, fun q => ⟨q.1, q.2.1⟩⟩
/-- All is put together. -/
theorem put_stage {p K : Nat} (h : SC W0 w W P n c F L H a k p K) (hr : Rel n F L) (hx : Lx n L) (hl : F.length = n) (ha : 1 ≤ a) (hk : 1 ≤ k) (hak : a + k ≤ n) (hf : ∀ i, a ≤ i → i < a + k → F.getD i false = false) (hc : c ≤ 990) (hlow : Low W0.heap.size H) (hout : Below W0.heap.size W0 w) (hH : ∃ v b0 z, H = homeA P v b0 z L) : Calls Try.prog 20 #[.pointer (some ⟨P, 0, none⟩), .int .i64 p, .int .i64 K] W fun e w' => e = .returned (.tuple #[]) ∧ Hid (Step (.int .i64 0) W0 w P n (c + 4) (setR F a true k) H (.returned (.int .i64 0)) w') := by
  obtain ⟨v, b0, z, L2, m, h1, h2, h3, h4, h5⟩ := h
  obtain ⟨v9, b9, z9, rfl⟩ := hH
  obtain ⟨hrun, hca, hke⟩ := joined hl ha hk hak h2 h3
  have hle := hrun.le
  have hp1 := hrun.a1
  refine (put_e h1 hc p K hp1 hrun.k1 hle (fun s hs => ?_)).mono fun e w' ⟨he, v', M, m', N, hN, g1, g2, g3⟩ => ⟨he, Lib.hid ?_⟩
  · obtain ⟨s1, s2, s3⟩ := (h5 s).1 hs
    obtain ⟨q, A, e1, e2, g⟩ := rel_nat hr hx s1
    have gr : IsRun n (setR F a true k) q A := (run_join hl hak hk hf hrun hca hke q A).2 (.inr ⟨g, by omega, by omega⟩)
    have hne : p ≠ q := fun e => by
      rcases h2 with ⟨e5, _⟩ | ⟨A5, g5, e5⟩
      · have := g.in_ a (by omega) (by have := g.k1; omega)
        rw [hf a (by omega) (by omega)] at this; cases this
      · have := g5.same (by rw [e]; exact g)
        omega
    have := hrun.apart gr hne
    omega
  · exact ⟨rfl, _, h4.trans g3, v', b0, z, M, m', g1, rel_join hr hl ha hk hak hf h2 h3 hx h5 g2, (h4.trans g3).low hlow hout.size, hout.trans (Rw.below_of_wrote (h4.trans g3) hlow hout.size), rfl⟩
/-- What Free answers and makes. -/
def FreeR (W0 W : World) (P n c : Nat) (F : List Bool) (H : Home) (a k : Int) (e : Ending) (W' : World) : Prop :=
  (¬ (1 ≤ a ∧ 1 ≤ k ∧ k ≤ (n : Int) - a) ∧ Step (.int .i64 1) W0 W P n c F H e W') ∨
  ∃ p q : Nat, a = (p : Int) ∧ k = (q : Int) ∧ 1 ≤ p ∧ 1 ≤ q ∧ p + q ≤ n ∧ ((Any F p q ∧ Step (.int .i64 5) W0 W P n c F H e W') ∨ ((∀ i, p ≤ i → i < p + q → F.getD i false = false) ∧ Step (.int .i64 0) W0 W P n (c + 4) (setR F p true q) H e W'))
end Pg
end Go.Proofs.Ytbheabjemaaeoab
