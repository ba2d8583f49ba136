/- What the calls of package sched answer of goroutines that may run, and make of them: ring, Local, Common, Len, Ready, Global. -/
import Derived.Test.YtpclacaiabbmjaaSched
import Derived.StillTailTactics
import Derived.Deep.RegionHeld3
import Derived.Deep.RegionWith
namespace Go.Proofs.Ytpclacaiabbmjaa
open Go.RowKit Go.Lib Fx Ho Gr
set_option linter.unusedVariables false
namespace Sd
variable {w w' : World} {p q : Nat} {rv qv : Value} {A : List Nat} {R : List Rg} {C : List Int} {H H' : Home}
theorem IsS.place (h : IsS w p q rv qv A R C) {i : Nat} (hi : i < R.length) : ∃ b off cap, rv = .slice (some ⟨b, off, none⟩) R.length cap ∧ R.length ≤ cap ∧ cap ≤ maxLen ∧ w.cell? ⟨b, off + i, none⟩ = some (.pointer (some ⟨A.getD i 0, 0, none⟩)) := by
  obtain ⟨ao, b, off, cap, e, h1, h2, h3, h4⟩ := h.row.cell
  obtain ⟨rfl, _, _⟩ := h3 (by omega)
  exact ⟨b, off, cap, e, h1, h2, (h4 i _ (ptrs_at (by rw [h.len]; exact hi))).1⟩
set_option maxRecDepth 100000 in
theorem ring_in (h : IsS w p q rv qv A R C) {i : Nat} (hi : i < R.length) : Calls Try.prog 59 #[.pointer (some ⟨p, 0, none⟩), .int .i64 i] w (Ans (.pointer (some ⟨A.getD i 0, 0, none⟩)) w) := by
  obtain ⟨b, off, cap, rfl, h1, h2, h3⟩ := h.place hi
  obtain ⟨c0, c1⟩ := h.cs
  unfold maxLen at h2
  have d1 : ¬ ((i : Int) < 0) := by omega
  have d2 : (i : Int) < (R.length : Int) := by omega
  have d3 : ¬ ((R.length : Int) ≤ (i : Int)) := by omega
  clear h
  generalize A.getD i 0 = a at *
  generalize R.length = n at *
  go_enter Try.func59, Try.ntmps59
  go_wp2_with fail
  go_ret
  exact ⟨rfl, 0, rfl⟩
set_option maxRecDepth 100000 in
theorem ring_out (h : IsS w p q rv qv A R C) (i : Int) (hi : i < 0 ∨ (R.length : Int) ≤ i) : Calls Try.prog 59 #[.pointer (some ⟨p, 0, none⟩), .int .i64 i] w (Ans (.pointer none) w) := by
  obtain ⟨c0, c1⟩ := h.cs
  obtain ⟨sp, cap, rfl⟩ := h.row.slice
  clear h
  generalize R.length = n at *
  by_cases h0 : i < 0
  · go_enter Try.func59, Try.ntmps59
    go_wp2_with fail
    go_ret
    exact ⟨rfl, 0, rfl⟩
  · have h1 : (n : Int) ≤ i := by omega
    clear hi
    go_enter Try.func59, Try.ntmps59
    go_wp2_with fail
    go_ret
    exact ⟨rfl, 0, rfl⟩
set_option maxRecDepth 100000 in
theorem ring_nil (i : Int) (w : World) : Calls Try.prog 59 #[.pointer none, .int .i64 i] w (Still (.pointer none) w) := by
  go_enter Try.func59, Try.ntmps59
  go_wp2_with fail
  go_ret
  exact ⟨rfl, rfl⟩
theorem IsS.draws (h : IsS w p q rv qv A R C) (n : Nat) : IsS (w.drewN n) p q rv qv A R C := h.below (below_drewN (Below.refl _ _) n)
/-- A session of a law. -/
def Ss (W0 W : World) (p : Nat) (H : Home) (R : List Rg) (C : List Int) : Prop := ∃ q rv qv A, IsS W p q rv qv A R C ∧ Low W0.heap.size H ∧ Below W0.heap.size W0 W ∧ H = home p q rv qv A
/-- The call answers r; the goroutines are so then. -/
def Step (r : Value) (W0 W : World) (p : Nat) (H : Home) (R : List Rg) (C : List Int) (e : Ending) (W' : World) : Prop := e = .returned r ∧ ∃ H', Wrote H W H' W' ∧ Ss W0 W' p H' R C
namespace Ss
variable {W0 W W' : World} {R' : List Rg} {C' : List Int}
theorem out (h : Ss W0 W p H R C) : Below W0.heap.size W0 W := by obtain ⟨_, _, _, _, _, _, h, _⟩ := h; exact h
theorem low (h : Ss W0 W p H R C) : Low W0.heap.size H := by obtain ⟨_, _, _, _, _, h, _, _⟩ := h; exact h
theorem lt (h : Ss W0 W p H R C) {k : Nat} (hk : H k) : k < W.heap.size := by obtain ⟨_, _, _, _, h, _, _, rfl⟩ := h; exact h.lt hk
theorem plt (h : Ss W0 W p H R C) : p < W.heap.size := by obtain ⟨_, _, _, _, h, _, _, rfl⟩ := h; exact block_lt h.head
theorem below (h : Ss W0 W p H R C) (hb : Below W.heap.size W W') : Ss W0 W' p H R C := by
  obtain ⟨q, rv, qv, A, h1, h2, h3, h4⟩ := h
  exact ⟨q, rv, qv, A, h1.below hb, h2, h3.trans (hb.mono h3.size), h4⟩
theorem small (h : Ss W0 W p H R C) {i : Nat} (hi : i < R.length) : (R.getD i rg0).2.length ≤ 256 := by
  obtain ⟨q, rv, qv, A, h1, _⟩ := h
  exact (h1.rg i hi).small
theorem wrote {H1 H2 : Home} (h : Ss W0 W p H R C) (hw : Wrote H1 W H2 W') (ho : Off H H1) (hl : Low W0.heap.size H1) : Ss W0 W' p H R C := by
  obtain ⟨q, rv, qv, A, h1, h2, h3, rfl⟩ := h
  exact ⟨q, rv, qv, A, h1.wrote hw ho, h2, h3.trans (Rw.below_of_wrote hw hl h3.size), rfl⟩
/-- From what the objects are then to the session's step. -/
theorem step {q q' : Nat} {rv rv' qv qv' : Value} {A A' : List Nat} {r : Value} {e : Ending} (h : Low W0.heap.size (home p q rv qv A)) (hb : Below W0.heap.size W0 W) (he : e = .returned r) (h2 : IsS W' p q' rv' qv' A' R' C') (hw : Wrote (home p q rv qv A) W (home p q' rv' qv' A') W') : Step r W0 W p (home p q rv qv A) R' C' e W' :=
  ⟨he, _, hw, q', rv', qv', A', h2, hw.low h hb.size, hb.trans (Rw.below_of_wrote hw h hb.size), rfl⟩
end Ss
section
variable {W0 W : World}
set_option maxRecDepth 100000 in
/-- Who stands in a P's ring. -/
theorem local_in (h : Ss W0 W p H R C) {i : Nat} (hi : i < R.length) : Calls Try.prog 27 #[.pointer (some ⟨p, 0, none⟩), .int .i64 i] W fun e W' => ∃ v', e = .returned v' ∧ Below W.heap.size W W' ∧ Ints W' (fun k => W.heap.size ≤ k) v' (rAll (R.getD i rg0)) := by
  obtain ⟨q, rv, qv, A, h1, _⟩ := h
  have cr := ring_in h1 hi
  have ca : Hid (∀ n, Calls Try.prog 74 #[.pointer (some ⟨A.getD i 0, 0, none⟩)] (W.drewN n) fun e W' => ∃ v', e = .returned v' ∧ Below W.heap.size W W' ∧ Ints W' (fun k => W.heap.size ≤ k) v' (rAll (R.getD i rg0))) := Lib.hid fun n => (Ri.all_any _ ((h1.draws n).rg i hi)).mono fun e W' ⟨v', a, b, c⟩ => ⟨v', a, (below_drewN (Below.refl _ _) n).trans b, (ints_of_owns c).wider (fun k hk _ => (c.lt k hk).1)⟩
  clear h1
  generalize A.getD i 0 = a at *
  generalize R.getD i rg0 = r at *
  go_enter Try.func27, Try.ntmps27
  go_wp2_with fail
  with_reducible refine Calls.mono cr ?_
  rintro e w2 ⟨rfl, n, rfl⟩
  have ca := ca.out n
  clear cr
  go_wp2_with fail
  with_reducible refine Calls.mono ca ?_
  rintro e w3 ⟨v', rfl, hb, hv⟩
  obtain ⟨sp, cap, rfl, _⟩ := id hv
  have hfin := Lib.hid (And.intro hb hv)
  clear ca hb hv
  go_wp2_with fail
  go_ret
  exact ⟨_, rfl, hfin.out⟩
set_option maxRecDepth 100000 in
theorem local_out (h : Ss W0 W p H R C) (i : Int) (hi : i < 0 ∨ (R.length : Int) ≤ i) : Calls Try.prog 27 #[.pointer (some ⟨p, 0, none⟩), .int .i64 i] W (Ans (.slice none 0 0) W) := by
  obtain ⟨q, rv, qv, A, h1, _⟩ := h
  have cr := ring_out h1 i hi
  have ca : ∀ w, Calls Try.prog 74 #[.pointer none] w (Still (.slice none 0 0) w) := fun w => by
    go_enter Try.func74, Try.ntmps74
    go_wp2_with fail
    go_ret
    exact ⟨rfl, rfl⟩
  clear h1 hi
  go_enter Try.func27, Try.ntmps27
  go_wp2_with fail
  with_reducible refine Calls.mono cr ?_
  rintro e w2 ⟨rfl, n, rfl⟩
  have ca := ca (W.drewN n)
  clear cr
  go_wp2_with fail
  with_reducible refine Calls.mono ca ?_
  rintro e w3 ⟨rfl, rfl⟩
  clear ca
  go_wp2_with fail
  go_ret
  exact ⟨rfl, _, rfl⟩
set_option maxRecDepth 100000 in
theorem common_any (h : Ss W0 W p H R C) (hs : C.length ≤ 1000000) : Calls Try.prog 29 #[.pointer (some ⟨p, 0, none⟩)] W fun e W' => ∃ v', e = .returned v' ∧ Below W.heap.size W W' ∧ Ints W' (fun k => W.heap.size ≤ k) v' C := by
  obtain ⟨q, rv, qv, A, h1, _⟩ := h
  obtain ⟨c0, c1⟩ := h1.cs
  have ca : Calls Try.prog 75 #[.pointer (some ⟨q, 0, none⟩)] W fun e W' => ∃ v', e = .returned v' ∧ Below W.heap.size W W' ∧ Ints W' (fun k => W.heap.size ≤ k) v' C := (Qu.all_any _ h1.com hs).mono fun e W' ⟨v', a, b, c⟩ => ⟨v', a, b, (ints_of_owns c).wider (fun k hk _ => (c.lt k hk).1)⟩
  clear h1
  go_enter Try.func29, Try.ntmps29
  go_wp2_with fail
  with_reducible refine Calls.mono ca ?_
  rintro e w3 ⟨v', rfl, hb, hv⟩
  obtain ⟨sp, cap, rfl, _⟩ := id hv
  have hfin := Lib.hid (And.intro hb hv)
  clear ca hb hv
  go_wp2_with fail
  go_ret
  exact ⟨_, rfl, hfin.out⟩
/-- How many stand in the first k rings. -/
def sumR (R : List Rg) : Nat → Nat
  | 0 => 0
  | k + 1 => sumR R k + (rAll (R.getD k rg0)).length
theorem rlen_any (h : IsS w p q rv qv A R C) {i : Nat} (hi : i < R.length) : Calls Try.prog 70 #[.pointer (some ⟨A.getD i 0, 0, none⟩)] w (Still (.int .i64 ((rAll (R.getD i rg0)).length : Nat)) w) := by
  have := Ri.len_any w (h.rg i hi)
  rwa [show Ri.len1 (R.getD i rg0).1 (R.getD i rg0).2 = (rAll (R.getD i rg0)).length by unfold Ri.len1 rAll Ri.allOf; generalize R.getD i rg0 = r; obtain ⟨nx, L⟩ := r; cases nx <;> simp <;> omega] at this
theorem sum_le (hs : ∀ i, i < R.length → (R.getD i rg0).2.length ≤ 256) : ∀ k, k ≤ R.length → sumR R k ≤ k * 257
  | 0, _ => Nat.le_refl _
  | k + 1, hk => by
    have h1 := sum_le hs k (by omega)
    have h2 : (rAll (R.getD k rg0)).length ≤ 257 := by
      have := hs k (by omega)
      generalize R.getD k rg0 = r at *
      obtain ⟨nx, L⟩ := r
      unfold rAll Ri.allOf; cases nx <;> simp at * <;> omega
    show sumR R k + _ ≤ _
    omega
set_option maxRecDepth 100000 in
set_option maxHeartbeats 1000000 in
theorem len_any (h : Ss W0 W p H R C) (hs : C.length ≤ 1000000) (hn : R.length ≤ 64) : Calls Try.prog 24 #[.pointer (some ⟨p, 0, none⟩)] W (Ans (.int .i64 ((C.length + sumR R R.length : Nat) : Int)) W) := by
  have hsum := sum_le (fun i hi => h.small hi)
  obtain ⟨q, rv, qv, A, h1, _⟩ := h
  obtain ⟨c0, c1⟩ := h1.cs
  have cq := Qu.len_any W h1.com
  have cl : Hid (∀ i, i < R.length → ∀ n, Calls Try.prog 70 #[.pointer (some ⟨A.getD i 0, 0, none⟩)] (W.drewN n) (Still (.int .i64 ((rAll (R.getD i rg0)).length : Nat)) (W.drewN n))) := Lib.hid fun i hi n => rlen_any (h1.draws n) hi
  have hpl : Hid (∀ i, i < R.length → ∃ b off cap, rv = .slice (some ⟨b, off, none⟩) R.length cap ∧ R.length ≤ cap ∧ cap ≤ maxLen ∧ W.cell? ⟨b, off + i, none⟩ = some (.pointer (some ⟨A.getD i 0, 0, none⟩))) := Lib.hid fun i hi => h1.place hi
  obtain ⟨sp, cap, rfl⟩ := h1.row.slice
  clear h1
  obtain ⟨n, hR⟩ : ∃ n, R.length = n := ⟨_, rfl⟩
  rw [hR] at hpl cl hn c0 hsum ⊢
  obtain ⟨c, hC⟩ : ∃ c, C.length = c := ⟨_, rfl⟩
  rw [hC] at cq hs ⊢
  replace hsum := Lib.hid hsum
  clear hR hC
  go_enter Try.func24, Try.ntmps24
  go_wp2_with fail
  with_reducible refine Calls.mono (cq) ?_
  rintro e w2 ⟨rfl, rfl⟩
  clear cq
  go_wp2_with fail
  have hsum2 : Hid (∀ i, i ≤ n → sumR R i ≤ i * 257) := hsum
  go_loopw [3, 18] (fun u i wr => ∃ k : Nat, u = .int .i64 ((c + sumR R k : Nat) : Int) ∧ i = .int .i64 k ∧ k ≤ n ∧ ∃ m, wr = W.drewN m) (fun _ i _ => (n - (RowKit.intOf i).toNat))
  case atStart => exact ⟨0, rfl, rfl, by omega, 0, rfl⟩
  case round =>
    obtain ⟨k, rfl, rfl, k1, m, rfl⟩ := hrel
    by_cases hk : k < n
    · have i2 : (k : Int) < (n : Int) := by omega
      obtain ⟨b, off, cap', e, g1, g2, g3⟩ := hpl.out k hk
      cases e
      have cl := cl.out k hk m
      have hs2 := hsum2.out k (by omega)
      have hs3 : Hid (sumR R (k + 1) = sumR R k + (rAll (R.getD k rg0)).length) := Lib.hid rfl
      have hs4 := hsum2.out (k + 1) (by omega)
      rw [hs3.out] at hs4
      unfold maxLen at g2
      have g4 : (W.drewN m).cell? ⟨b, off + k, none⟩ = some (.pointer (some ⟨A.getD k 0, 0, none⟩)) := g3
      clear hsum hsum2 hpl g3
      generalize A.getD k 0 = a at *
      generalize (rAll (R.getD k rg0)).length = l at *
      generalize hsR : sumR R k = sr at *
      replace hsR := Lib.hid hsR
      go_wp2_with fail
      with_reducible refine Calls.mono cl ?_
      rintro e w2 ⟨rfl, rfl⟩
      clear cl
      go_wp2_with fail
      go_roundw
      case rel => exact ⟨k + 1, by rw [hs3.out]; go_num, by go_num, by omega, m, rfl⟩
      case measure => simp [RowKit.intOf]; omega
    · obtain rfl : k = n := by omega
      have i2 : ¬ ((k : Int) < (k : Int)) := by omega
      clear hsum hsum2
      go_wp2_with fail
      go_ret
      exact ⟨rfl, _, rfl⟩
/-- Where somebody stands. -/
def findR (R : List Rg) (g : Int) : Nat → Option Nat
  | 0 => none
  | k + 1 => match findR R g k with
    | some i => some i
    | none => if g ∈ rAll (R.getD k rg0) then some k else none
def whereV (R : List Rg) (C : List Int) (g : Int) : Value :=
  match findR R g R.length with
  | some i => .tuple #[.int .i64 i, .bool true]
  | none => if g ∈ C then .tuple #[.int .i64 (-1), .bool true] else .tuple #[.int .i64 0, .bool false]
theorem find_some {g : Int} : ∀ {k i : Nat}, findR R g k = some i → i < k ∧ g ∈ rAll (R.getD i rg0)
  | 0, i, h => by cases h
  | k + 1, i, h => by
    unfold findR at h
    split at h
    · rename_i j hj
      cases h
      have := find_some hj
      exact ⟨by omega, this.2⟩
    · split at h
      · cases h; exact ⟨by omega, by assumption⟩
      · cases h
theorem find_none {g : Int} : ∀ {k : Nat}, findR R g k = none → ∀ i, i < k → g ∉ rAll (R.getD i rg0)
  | 0, h, i, hi => by omega
  | k + 1, h, i, hi => by
    unfold findR at h
    split at h
    · cases h
    · rename_i hj
      split at h
      · cases h
      · rename_i hn
        by_cases e : i = k
        · subst e; exact hn
        · exact find_none hj i (by omega)
theorem find_more {g : Int} {i : Nat} : ∀ {k n : Nat}, findR R g k = some i → k ≤ n → findR R g n = some i
  | k, 0, h, hk => by obtain rfl : k = 0 := by omega
                      exact h
  | k, n + 1, h, hk => by
    by_cases e : k = n + 1
    · subst e; exact h
    · have := find_more (n := n) h (by omega)
      unfold findR; rw [this]
set_option maxRecDepth 100000 in
set_option maxHeartbeats 1000000 in
theorem where_any (h : Ss W0 W p H R C) (g : Int) (hs : C.length ≤ 1000000) : Calls Try.prog 22 #[.pointer (some ⟨p, 0, none⟩), .int .i64 g] W fun e W' => e = .returned (whereV R C g) ∧ Below W.heap.size W W' := by
  have cl : Hid (∀ i, i < R.length → ∀ w, Below W.heap.size W w → Calls Try.prog 27 #[.pointer (some ⟨p, 0, none⟩), .int .i64 i] w fun e W' => ∃ v', e = .returned v' ∧ Below w.heap.size w W' ∧ Ints W' (fun k => w.heap.size ≤ k) v' (rAll (R.getD i rg0))) := Lib.hid fun i hi w hb => local_in (h.below hb) hi
  have cc : Hid (∀ w, Below W.heap.size W w → Calls Try.prog 29 #[.pointer (some ⟨p, 0, none⟩)] w fun e W' => ∃ v', e = .returned v' ∧ Below w.heap.size w W' ∧ Ints W' (fun k => w.heap.size ≤ k) v' C) := Lib.hid fun w hb => common_any (h.below hb) hs
  obtain ⟨q, rv, qv, A, h1, _⟩ := h
  obtain ⟨c0, c1⟩ := h1.cs
  obtain ⟨sp, cap, rfl⟩ := h1.row.slice
  have hn : R.length ≤ 9223372036854775807 := by
    obtain ⟨ao, b, off, cap, e, g1, g2, g3⟩ := h1.row.cell
    cases e
    unfold maxLen at g2
    omega
  clear h1
  obtain ⟨n, hR⟩ : ∃ n, R.length = n := ⟨_, rfl⟩
  have hW : Hid (whereV R C g = match findR R g n with
    | some i => .tuple #[.int .i64 i, .bool true]
    | none => if g ∈ C then .tuple #[.int .i64 (-1), .bool true] else .tuple #[.int .i64 0, .bool false]) := Lib.hid (by unfold whereV; rw [hR])
  rw [hR] at hn cl c0
  clear hR
  generalize whereV R C g = res at *
  go_enter Try.func22, Try.ntmps22
  go_wp2_with fail
  go_loopw [14] (fun i wr => ∃ k : Nat, i = .int .i64 k ∧ k ≤ n ∧ Hid (findR R g k = none) ∧ Hid (Below W.heap.size W wr)) (fun i _ => (n - (RowKit.intOf i).toNat))
  case atStart => exact ⟨0, rfl, by omega, Lib.hid rfl, Lib.hid (Below.refl _ _)⟩
  case round =>
    obtain ⟨k, rfl, k1, hf, hb⟩ := hrel
    by_cases hk : k < n
    · have i2 : (k : Int) < (n : Int) := by omega
      have cl := cl.out k hk wr hb.out
      have hnx : Hid (g ∉ rAll (R.getD k rg0) → findR R g (k + 1) = none) := Lib.hid fun hn => by
        unfold findR; rw [hf.out]; exact if_neg hn
      have hyes : Hid (g ∈ rAll (R.getD k rg0) → res = .tuple #[.int .i64 k, .bool true]) := Lib.hid fun hy => by
        have h1 : findR R g (k + 1) = some k := by unfold findR; rw [hf.out]; exact if_pos hy
        rw [hW.out, find_more h1 (by omega)]
      by_cases hy : g ∈ rAll (R.getD k rg0)
      · obtain rfl := hyes.out hy
        have hcon : (rAll (R.getD k rg0)).contains g = true := by simpa using hy
        have cc2 : Hid (∀ (w2 : World) (v : Value), Ints w2 (fun k => wr.heap.size ≤ k) v (rAll (R.getD k rg0)) → Calls Try.prog 72 #[v, .int .i64 g] w2 (Still (.bool true) w2)) := Lib.hid fun w2 v hv => by rw [← hcon]; exact Qu.contains_any hv
        clear hnx hyes hy hcon hf hW cc
        go_wp2_with fail
        with_reducible refine Calls.mono cl ?_
        rintro e w2 ⟨v', rfl, hb2, hv⟩
        have cc3 := cc2.out w2 v' hv
        have hb := hb.out.trans (hb2.mono hb.out.size)
        clear cl cc2 hv hb2
        go_wp2_with fail
        with_reducible refine Calls.mono cc3 ?_
        rintro e w3 ⟨rfl, rfl⟩
        clear cc3
        go_wp2_with fail
        go_ret2
        exact ⟨rfl, hb⟩
      · have hcon : (rAll (R.getD k rg0)).contains g = false := by simpa using hy
        have cc2 : Hid (∀ (w2 : World) (v : Value), Ints w2 (fun k => wr.heap.size ≤ k) v (rAll (R.getD k rg0)) → Calls Try.prog 72 #[v, .int .i64 g] w2 (Still (.bool false) w2)) := Lib.hid fun w2 v hv => by rw [← hcon]; exact Qu.contains_any hv
        have hf2 := Lib.hid (hnx.out hy)
        clear hnx hyes hy hcon hf
        go_wp2_with fail
        with_reducible refine Calls.mono cl ?_
        rintro e w2 ⟨v', rfl, hb2, hv⟩
        have cc3 := cc2.out w2 v' hv
        have hb := Lib.hid (hb.out.trans (hb2.mono hb.out.size))
        clear cl cc2 hv hb2
        go_wp2_with fail
        with_reducible refine Calls.mono cc3 ?_
        rintro e w3 ⟨rfl, rfl⟩
        clear cc3
        go_wp2_with fail
        go_roundw
        case rel => exact ⟨k + 1, by go_num, by omega, hf2, hb⟩
        case measure => simp [RowKit.intOf]; omega
    · obtain rfl : k = n := by omega
      have i2 : ¬ ((k : Int) < (k : Int)) := by omega
      have hW2 : Hid (res = if g ∈ C then .tuple #[.int .i64 (-1), .bool true] else .tuple #[.int .i64 0, .bool false]) := Lib.hid (by rw [hW.out, hf.out])
      have cl := cc.out wr hb.out
      by_cases hy : g ∈ C
      · obtain rfl : res = .tuple #[.int .i64 (-1), .bool true] := by rw [hW2.out, if_pos hy]
        have hcon : C.contains g = true := by simpa using hy
        have cc2 : Hid (∀ (w2 : World) (v : Value), Ints w2 (fun k => wr.heap.size ≤ k) v C → Calls Try.prog 72 #[v, .int .i64 g] w2 (Still (.bool true) w2)) := Lib.hid fun w2 v hv => by rw [← hcon]; exact Qu.contains_any hv
        clear hf hW2 hW hy hcon cc
        go_wp2_with fail
        with_reducible refine Calls.mono cl ?_
        rintro e w2 ⟨v', rfl, hb2, hv⟩
        have cc3 := cc2.out w2 v' hv
        have hb := hb.out.trans (hb2.mono hb.out.size)
        clear cl cc2 hv hb2
        go_wp2_with fail
        with_reducible refine Calls.mono cc3 ?_
        rintro e w3 ⟨rfl, rfl⟩
        clear cc3
        go_wp2_with fail
        go_ret2
        exact ⟨rfl, hb⟩
      · obtain rfl : res = .tuple #[.int .i64 0, .bool false] := by rw [hW2.out, if_neg hy]
        have hcon : C.contains g = false := by simpa using hy
        have cc2 : Hid (∀ (w2 : World) (v : Value), Ints w2 (fun k => wr.heap.size ≤ k) v C → Calls Try.prog 72 #[v, .int .i64 g] w2 (Still (.bool false) w2)) := Lib.hid fun w2 v hv => by rw [← hcon]; exact Qu.contains_any hv
        clear hf hW2 hW hy hcon cc
        go_wp2_with fail
        with_reducible refine Calls.mono cl ?_
        rintro e w2 ⟨v', rfl, hb2, hv⟩
        have cc3 := cc2.out w2 v' hv
        have hb := hb.out.trans (hb2.mono hb.out.size)
        clear cl cc2 hv hb2
        go_wp2_with fail
        with_reducible refine Calls.mono cc3 ?_
        rintro e w3 ⟨rfl, rfl⟩
        clear cc3
        go_wp2_with fail
        go_ret2
        exact ⟨rfl, hb⟩
theorem below_same {a b : World} (hh : b.heap = a.heap) (ho : b.os = a.os) (ht : b.tape = a.tape) (hu : b.output = a.output) : Below a.heap.size a b := ⟨ho, ht, hu, by rw [hh]; exact Nat.le_refl _, fun k _ => by rw [hh]⟩
theorem rput_len (r : Rg) (g : Int) (next : Bool) (hs : r.2.length ≤ 256) : (rPut r g next).2.length ≤ 129 := by
  obtain ⟨nx, L⟩ := r
  have hr : ∀ nx x, (rRow nx L x).2.length ≤ 129 := fun nx x => by
    unfold rRow; split
    · simp
    · simp; omega
  unfold rPut
  cases next with
  | false => exact hr _ _
  | true => cases nx with
    | none => simp
    | some o => exact hr _ _
set_option maxRecDepth 100000 in
set_option maxHeartbeats 1000000 in
/-- Somebody more may run. -/
theorem ready_in (h : Ss W0 W p H R C) {i : Nat} (hi : i < R.length) (g : Int) (next : Bool) (hs : C.length ≤ 900000) : Calls Try.prog 14 #[.pointer (some ⟨p, 0, none⟩), .int .i64 i, .int .i64 g, .bool next] W (Step (.int .i64 0) W0 W p H (R.set i (rPut (R.getD i rg0) g next).1) (C ++ (rPut (R.getD i rg0) g next).2)) := by
  have hsm := h.small hi
  have hlen := rput_len _ g next hsm
  obtain ⟨q, rv, qv, A, h1, hl, hb0, rfl⟩ := h
  have cr := ring_in h1 hi
  have cp : Hid (∀ m (w : World), w.heap = (W.drewN m).heap → w.os = (W.drewN m).os → w.tape = (W.drewN m).tape → w.output = (W.drewN m).output → Calls Try.prog 61 #[.pointer (some ⟨A.getD i 0, 0, none⟩), .int .i64 g, .bool next] w fun e w2 => ∃ v', e = .returned v' ∧ w2.cell? ⟨p, 1, none⟩ = some (.pointer (some ⟨q, 0, none⟩)) ∧
      Hid (∀ (w3 : World), w3.heap = w2.heap → w3.os = w2.os → w3.tape = w2.tape → w3.output = w2.output → Calls Try.prog 60 #[.pointer (some ⟨q, 0, none⟩), v'] w3 fun e w4 => e = .returned (.tuple #[]) ∧ Hid (∀ e', e' = .returned (.int .i64 0) → Step (.int .i64 0) W0 W p (home p q rv qv A) (R.set i (rPut (R.getD i rg0) g next).1) (C ++ (rPut (R.getD i rg0) g next).2) e' w4))) := Lib.hid fun m w e1 e2 e3 e4 => by
    have hbm : Below W.heap.size W w := (below_drewN (Below.refl _ _) m).trans (below_same e1 e2 e3 e4)
    have h2 := h1.below hbm
    refine (rput_any (R.getD i rg0) g next w (h2.rg i hi)).mono fun e w2 ⟨v', g1, g2, g3, g4⟩ => ⟨v', g1, ?_, Lib.hid fun w3 f1 f2 f3 f4 => ?_⟩
    · exact (h2.ring hi _ g2 g3).1.cs.2
    · have hb3 := below_same f1 f2 f3 f4
      obtain ⟨k1, k2⟩ := h2.ring hi _ g2 g3
      have k3 := k1.below hb3
      refine (Qu.put_any w3 k3.com (g4.below hb3) (by omega)).mono fun e w4 ⟨d1, v4, d2, d3⟩ => ⟨d1, Lib.hid fun e' he' => ?_⟩
      obtain ⟨k4, k5⟩ := k3.queue d2 d3
      exact Ss.step hl hb0 he' k4 (((Wrote.of_below hbm).trans k2).trans ((Wrote.of_below hb3).trans k5))
  have hcs : Hid (∀ m, (W.drewN m).cell? ⟨p, 1, none⟩ = some (.pointer (some ⟨q, 0, none⟩))) := Lib.hid fun m => (h1.draws m).cs.2
  clear h1 hl hb0 hsm hlen hs
  generalize A.getD i 0 = a at *
  go_enter Try.func14, Try.ntmps14
  go_wp2_with fail
  with_reducible refine Calls.mono cr ?_
  rintro e w2 ⟨rfl, m, rfl⟩
  have cp := Lib.hid (cp.out m)
  have c1 := hcs.out m
  clear cr hcs
  generalize W.drewN m = w1 at *
  go_wp2_with fail
  go_region_with (first | (go_at_call 61; ((refine Calls.mono (cp.out _ (by rfl) (by rfl) (by rfl) (by rfl)) ?_); rintro e w2 ⟨v', rfl, c2, cq⟩)) | (go_at_call 60; ((refine Calls.mono (cq.out _ (by rfl) (by rfl) (by rfl) (by rfl)) ?_); rintro e w4 ⟨rfl, hfin⟩)))
  all_goals
    go_wp2_with fail
    go_ret
    exact hfin.out _ rfl
end
end Sd
end Go.Proofs.Ytpclacaiabbmjaa
