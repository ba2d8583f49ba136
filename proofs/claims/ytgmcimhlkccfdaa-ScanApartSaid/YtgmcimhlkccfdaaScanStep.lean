/- How far an object's slots have been gone through: what New, Left, Done, Step and All of package scan answer and make. -/
import Derived.Test.YtgmcimhlkccfdaaScan
import Derived.StillTailTactics
import Derived.Outline
namespace Go.Proofs.Ytgmcimhlkccfdaa
open Go.RowKit Go.Lib Fx Ho Qu Rw
set_option linter.unusedVariables false
namespace Sc
variable {w w' : World} {p : Nat} {ad : Int} {H H' : Home}
/-- A scan at p of the object at ad: at the slot t of n. -/
structure IsScan (w : World) (p : Nat) (ad : Int) (t n : Nat) : Prop where
  head : w.heap[p]? = some (.cells #[.int .i64 ad, .int .i64 t, .int .i64 n] 98 (0, 0))
  le : t ≤ n
namespace IsScan
variable {t n : Nat}
theorem c0 (h : IsScan w p ad t n) : w.cell? ⟨p, 0, none⟩ = some (.int .i64 ad) := cell_of h.head rfl
theorem c1 (h : IsScan w p ad t n) : w.cell? ⟨p, 1, none⟩ = some (.int .i64 t) := cell_of h.head rfl
theorem c2 (h : IsScan w p ad t n) : w.cell? ⟨p, 2, none⟩ = some (.int .i64 n) := cell_of h.head rfl
theorem fz (h : IsScan w p ad t n) (j : Nat) : w.frozen? ⟨p, j, none⟩ = false := frozen_of_row w p j _ _ h.head
theorem lt (h : IsScan w p ad t n) : p < w.heap.size := block_lt h.head
theorem wrote (h : IsScan w p ad t n) (ht : Wrote H w H' w') (ho : ¬ H p) : IsScan w' p ad t n := ⟨by rw [ht.block p h.lt ho]; exact h.head, h.le⟩
theorem below (h : IsScan w p ad t n) (hb : Below w.heap.size w w') : IsScan w' p ad t n := h.wrote (H := fun _ => False) (Wrote.of_below hb) (fun h => h)
theorem moved (h : IsScan w p ad t n) {u : Nat} (hu : u ≤ n) {W : World} (hh : W.heap = (w.setCell ⟨p, 1, none⟩ (.int .i64 u)).heap) : IsScan W p ad u n :=
  ⟨by rw [hh, heap_setCell_same _ p 1 _ _ _ h.head]; rfl, hu⟩
end IsScan
set_option maxRecDepth 100000 in
theorem new_any (n : Nat) {m : Int} (hm : (if 0 > m then 0 else m) = (n : Int)) (w : World) : Calls Try.prog 38 #[.int .i64 ad, .int .i64 m] w fun e w' => e = .returned (.pointer (some ⟨w.heap.size, 0, none⟩)) ∧ Below w.heap.size w w' ∧ IsScan w' w.heap.size ad 0 n := by
  have hmax : ∀ (ts : Array TypeId) (t : TypeId) (W : World), (Builtin.max_ ts t #[.int .i64 m, .int .i64 0]).run Try.prog W = .ok (.int .i64 (n : Int)) W := fun ts t W => by
    rw [run_max_int2, hm]
  have hend : Hid (IsScan (w.alloc (.cells #[.int .i64 ad, .int .i64 0, .int .i64 n] 98)) w.heap.size ad 0 n) := ⟨heap_alloc_new _ _, Nat.zero_le _⟩
  have hb := Lib.hid (below_alloc (Below.refl w.heap.size w) (.cells #[.int .i64 ad, .int .i64 0, .int .i64 n] 98))
  clear hm
  go_enter Try.func38, Try.ntmps38
  go_wp2_with fail
  go_ret
  exact ⟨rfl, hb.out, hend.out⟩
set_option maxRecDepth 100000 in
theorem left_nil (w : World) : Calls Try.prog 42 #[.pointer none] w (Still (.int .i64 0) w) := by
  go_enter Try.func42, Try.ntmps42
  go_wp2_with fail
  go_ret
  exact ⟨rfl, rfl⟩
set_option maxRecDepth 100000 in
theorem left_any {t n : Nat} (hn : n ≤ 100000) (h : IsScan w p ad t n) : Calls Try.prog 42 #[.pointer (some ⟨p, 0, none⟩)] w (Ans (.int .i64 ((n - t : Nat) : Int)) w) := by
  have c1 := h.c1
  have c2 := h.c2
  have hle := h.le
  have e : (n : Int) - (t : Int) = ((n - t : Nat) : Int) := by omega
  have ew : IntKind.i64.wrap ((n : Int) - (t : Int)) = ((n - t : Nat) : Int) := by rw [IntKind.wrap_i64]; omega
  have ew2 : IntKind.i64.wrap ((n - t : Nat) : Int) = ((n - t : Nat) : Int) := by rw [IntKind.wrap_i64]; omega
  clear h
  generalize n - t = d at *
  go_enter Try.func42, Try.ntmps42
  go_wp2_with fail
  first
    | (go_ret; exact ⟨rfl, 0, rfl⟩)
    | (go_quiet (fail); go_wp2_with fail; go_ret; exact ⟨rfl, _, rfl⟩)
set_option maxRecDepth 100000 in
theorem done_nil (w : World) : Calls Try.prog 40 #[.pointer none] w (Still (.bool true) w) := by
  have cl := left_nil w
  go_enter Try.func40, Try.ntmps40
  go_wp2_with fail
  with_reducible refine Calls.mono cl ?_
  rintro e w1 ⟨rfl, rfl⟩
  go_wp2_with fail
  go_ret
  exact ⟨rfl, rfl⟩
set_option maxRecDepth 100000 in
theorem done_any {t n : Nat} (hn : n ≤ 100000) (h : IsScan w p ad t n) : Calls Try.prog 40 #[.pointer (some ⟨p, 0, none⟩)] w (Ans (.bool (decide (t = n))) w) := by
  have cl := left_any hn h
  have hle := h.le
  have hd : (((n - t : Nat) : Int) == 0) = decide (t = n) := by
    by_cases e : t = n
    · subst e; simp
    · rw [decide_eq_false e, beq_eq_false_iff_ne]; omega
  clear h
  generalize decide (t = n) = res at *
  generalize n - t = d at *
  have hd2 : ((d : Int) == 0) = res := hd
  go_enter Try.func40, Try.ntmps40
  go_wp2_with fail
  with_reducible refine Calls.mono cl ?_
  rintro e w1 ⟨rfl, k, rfl⟩
  go_wp2_with fail
  go_ret
  exact ⟨by simp_all, _, rfl⟩
/-- A function value that loads an object's slots, while the scan at p goes on. -/
structure Load (p : Nat) (F : Nat) (C : Array Value) (ad : Int) (S : Nat → Int) (I : Nat → World → Prop) (H : Home) (lo : Nat) (a b : Nat) : Prop where
  call : ∀ i W, a ≤ i → i < a + b → I i W → Calls Try.prog F (#[.int .i64 ad, .int .i64 i] ++ C) W fun e w' => e = .returned (.int .i64 (S i)) ∧ I (i + 1) w' ∧ Wrote H W H w'
  stay : ∀ i W W', I i W → Wrote (fun k => k = p ∨ lo ≤ k) W (fun k => k = p ∨ lo ≤ k) W' → I i W'
  low : ∀ k, H k → k < lo
  enter : ∀ (args : Array Value) (W : World), Sem.run Try.prog (callFunc F args) W = .ok (.enter F args) W
set_option maxRecDepth 100000 in
set_option maxHeartbeats 1000000 in
theorem one_any {F b2 b3 : Nat} {C : Array Value} {i : Nat} {x : Int} {R : Ending → World → Prop} (hent : ∀ (args : Array Value) (W : World), Sem.run Try.prog (callFunc F args) W = .ok (.enter F args) W)
    (k3 : w.cell? ⟨b3, 0, none⟩ = some (.func (.func F) #[] C)) (k2 : w.cell? ⟨b2, 0, none⟩ = some (.pointer (some ⟨p, 0, none⟩))) (k0 : w.cell? ⟨p, 0, none⟩ = some (.int .i64 ad))
    (hc : Calls Try.prog F (#[.int .i64 ad, .int .i64 i] ++ C) w.drew fun e w' => e = .returned (.int .i64 x) ∧ R e w') :
    Calls Try.prog 75 #[.int .i64 i, .pointer (some ⟨b3, 0, none⟩), .pointer (some ⟨b2, 0, none⟩)] w fun e w' => e = .returned (.int .i64 x) ∧ R (.returned (.int .i64 x)) w' := by
  go_enter Try.func75, Try.ntmps75
  go_wp2_with fail
  go_still_tail 6, (by kernel_rfl)
  change wpList _ _ _ _ _ w.drew
  generalize w.drew = w2 at *
  go_wp2_with fail
  with_reducible refine Calls.mono hc ?_
  rintro e w3 ⟨rfl, h1⟩
  go_wp2_with fail
  go_ret
  exact ⟨rfl, h1⟩
theorem enter_one (args : Array Value) (W : World) : Sem.run Try.prog (callFunc 75 args) W = .ok (.enter 75 args) W := by rfl
theorem wider {H2 : Home} (h : Wrote H w H w') (hs : ∀ k, H k → H2 k) : Wrote H2 w H2 w' := ⟨h.os, h.tape, h.output, h.size, fun k hk hn => h.block k hk (fun e => hn (hs k e)), fun _ h => Or.inl h⟩
set_option maxRecDepth 100000 in
theorem step_nil {F : Nat} {C : Array Value} (w : World) : Calls Try.prog 41 #[.pointer none, .func (.func F) #[] C] w (fun e w' => e = .returned (.slice none 0 0) ∧ Below w.heap.size w w') := by
  have hb := Lib.hid (below_then (below_alloc (Below.refl w.heap.size w) (.cells #[.pointer none] 59)) (below_alloc (Below.refl _ _) (.cells #[.func (.func F) #[] C] 61)))
  go_enter Try.func41, Try.ntmps41
  go_wp2_with fail
  go_ret
  exact ⟨rfl, hb.out⟩
set_option maxRecDepth 100000 in
set_option maxHeartbeats 2000000 in
theorem step_any {F lo a n c : Nat} {C : Array Value} {S : Nat → Int} {I : Nat → World → Prop} (h : Load p F C ad S I H lo a c) (hs : IsScan w p ad a n) (hc : min (n - a) 16 = c) (hlo : lo ≤ w.heap.size) (hI : I a w) (hp : ¬ H p) (hn : n ≤ 50000) :
    Calls Try.prog 41 #[.pointer (some ⟨p, 0, none⟩), .func (.func F) #[] C] w fun e w' => ∃ v, e = .returned v ∧ OffRow w' v (some0 S a c) ∧ Low w.heap.size (fun k => v.ownBlock = some k) ∧ I (a + c) w' ∧ IsScan w' p ad (a + c) n ∧ Wrote (fun k => H k ∨ k = p) w (fun k => H k ∨ k = p) w' := by
  have hle := hs.le
  have hpl := hs.lt
  have hq : ∀ W : World, Sem.run Try.prog (binOp BinOp.eql 61 (.func (.func F) #[] C) Value.nilFunc) W = .ok (.bool false) W := fun W => by rfl
  have hmf : ∀ (fn : Fn) (first cap : Array Value) (w : World), (Instr.makeFunc fn first cap).run Try.prog w = .ok (.func fn first cap) w := fun _ _ _ _ => rfl
  have hmin : ∀ (ts : Array TypeId) (t : TypeId) (W : World), (Builtin.min_ ts t #[.int .i64 ((n - a : Nat) : Int), .int .i64 16]).run Try.prog W = .ok (.int .i64 (c : Int)) W := fun ts t W => by
    rw [run_min_int2]
    by_cases h : (16 : Int) < ((n - a : Nat) : Int)
    · rw [if_pos h]; congr 2; omega
    · rw [if_neg h]; congr 2; omega
  obtain ⟨w1, hw1⟩ : ∃ w1, w1 = (w.alloc (.cells #[.pointer (some ⟨p, 0, none⟩)] 59)).alloc (.cells #[.func (.func F) #[] C] 61) := ⟨_, rfl⟩
  have hz1 : w1.heap.size = w.heap.size + 2 := by rw [hw1]; show ((w.heap.push _).push _).size = _; rw [Array.size_push, Array.size_push]
  have hb1 : Below w.heap.size w w1 := by rw [hw1]; exact below_then (below_alloc (Below.refl _ _) _) (below_alloc (Below.refl _ _) _)
  have kb2 : w1.heap[w.heap.size]? = some (.cells #[.pointer (some ⟨p, 0, none⟩)] 59 (0, 0)) := by
    rw [hw1]
    exact (heap_alloc_old _ _ (by show _ < (w.heap.push _).size; rw [Array.size_push]; omega)).trans (heap_alloc_new _ _)
  have kb3 : w1.heap[w.heap.size + 1]? = some (.cells #[.func (.func F) #[] C] 61 (0, 0)) := by rw [hw1]; exact heap_alloc2_new _ _ _
  have hs1 := hs.below hb1
  have c2 : w1.cell? ⟨w.heap.size, 0, none⟩ = some (.pointer (some ⟨p, 0, none⟩)) := cell_of kb2 rfl
  have c3 : w1.cell? ⟨w.heap.size + 1, 0, none⟩ = some (.func (.func F) #[] C) := cell_of kb3 rfl
  have d1 := hs1.c1
  have f1 := hs1.fz 1
  have cl : Hid (∀ k, Calls Try.prog 42 #[.pointer (some ⟨p, 0, none⟩)] (w1.drewN k) (Ans (.int .i64 ((n - a : Nat) : Int)) (w1.drewN k))) := fun k => left_any (by omega) (hs1.below (below_drewN (Below.refl _ _) k))
  have cl0 := cl.out 0
  replace cl0 : Calls Try.prog 42 #[.pointer (some ⟨p, 0, none⟩)] w1 (Ans (.int .i64 ((n - a : Nat) : Int)) w1) := cl0
  have hnx : Hid (∀ (k : Nat) (W : World), W.heap = ((w1.drewN k).setCell ⟨p, 1, none⟩ (.int .i64 ((a + c : Nat) : Int))).heap → W.os = w1.os → W.tape = w1.tape → W.output = w1.output →
      Calls Try.prog 74 #[.int .i64 a, .int .i64 ((a + c : Nat) : Int), .func (.func 75) #[] #[.pointer (some ⟨w.heap.size + 1, 0, none⟩), .pointer (some ⟨w.heap.size, 0, none⟩)]] W fun e w' => ∃ s t cp, e = .returned (.slice s t cp) ∧ Hid (OffRow w' (.slice s t cp) (some0 S a c) ∧ Low w.heap.size (fun k => (Value.slice s t cp).ownBlock = some k) ∧ I (a + c) w' ∧ IsScan w' p ad (a + c) n ∧ Wrote (fun k => H k ∨ k = p) w (fun k => H k ∨ k = p) w')) := fun k W a1 a2 a3 a4 => by
    have hd : IsScan (w1.drewN k) p ad a n := hs1.below (below_drewN (Below.refl _ _) k)
    have hm : IsScan W p ad (a + c) n := hd.moved (by omega) a1
    have hwp : Wrote (fun k => k = p) w1 (fun k => k = p) W := wrote_setCell (H := fun k => k = p) (a := ⟨p, 1, none⟩) (u := .int .i64 ((a + c : Nat) : Int)) a1 a2 a3 a4 rfl
    have hwN : Wrote (fun k => k = p ∨ lo ≤ k) w (fun k => k = p ∨ lo ≤ k) W := (Wrote.of_below hb1).trans (wider hwp (fun k hk => Or.inl hk))
    have hIW : I a W := h.stay _ _ _ hI hwN
    have e2 : W.heap[w.heap.size]? = some (.cells #[.pointer (some ⟨p, 0, none⟩)] 59 (0, 0)) := (hwp.block _ (by omega) (by omega)).trans kb2
    have e3 : W.heap[w.heap.size + 1]? = some (.cells #[.func (.func F) #[] C] 61 (0, 0)) := (hwp.block _ (by omega) (by omega)).trans kb3
    have hsz : w.heap.size + 2 ≤ W.heap.size := by rw [← hz1]; exact hwp.size
    have hL : Loads 75 #[.pointer (some ⟨w.heap.size + 1, 0, none⟩), .pointer (some ⟨w.heap.size, 0, none⟩)] S (fun i W => I i W ∧ W.cell? ⟨w.heap.size, 0, none⟩ = some (.pointer (some ⟨p, 0, none⟩)) ∧ W.cell? ⟨w.heap.size + 1, 0, none⟩ = some (.func (.func F) #[] C) ∧ W.cell? ⟨p, 0, none⟩ = some (.int .i64 ad)) H (w.heap.size + 2) a c := by
      refine ⟨fun i W2 h1 h2 hJ => ?_, fun i W2 W3 hJ hw => ?_, fun k hk => by have := h.low k hk; omega, enter_one⟩
      · obtain ⟨j1, j2, j3, j4⟩ := hJ
        have hdr : Wrote H W2 H W2.drew := (Wrote.refl H W2).drewN 1
        have hIr : I i W2.drew := h.stay _ _ _ j1 ((Wrote.refl _ W2).drewN 1)
        refine (one_any (i := i) (R := fun e w' => I (i + 1) w' ∧ Wrote H W2.drew H w') h.enter j3 j2 j4 (h.call i _ h1 h2 hIr)).mono fun e w' ⟨he, g1, g2⟩ => ?_
        have g3 := hdr.trans g2
        exact ⟨he, ⟨g1, g3.cell j2 (fun e => by have := h.low _ e; have e2 : (⟨w.heap.size, 0, none⟩ : Addr).block = w.heap.size := rfl; omega), g3.cell j3 (fun e => by have := h.low _ e; have e2 : (⟨w.heap.size + 1, 0, none⟩ : Addr).block = w.heap.size + 1 := rfl; omega), g3.cell j4 hp⟩, g3⟩
      · obtain ⟨j1, j2, j3, j4⟩ := hJ
        exact ⟨h.stay _ _ _ j1 (wider hw (fun k hk => Or.inr (by omega))), hw.cell j2 (by show ¬ _ ≤ w.heap.size; omega), hw.cell j3 (by show ¬ _ ≤ w.heap.size + 1; omega), hw.cell j4 (by show ¬ _ ≤ p; omega)⟩
    refine (named_any hL hsz ⟨hIW, cell_of e2 rfl, cell_of e3 rfl, hm.c0⟩ (by omega)).mono fun e w' ⟨v, he, g1, g2, g3, g4⟩ => ?_
    obtain ⟨s, cp, e4⟩ := g1.slice
    subst e4
    have hm' : IsScan w' p ad (a + c) n := hm.wrote g4 (fun e => e.elim hp (fun e => by omega))
    refine ⟨s, _, cp, he, g1, fun k hk => by have := g2 k hk; omega, g3.1, hm', ?_⟩
    have hw0 : Wrote (fun k => H k ∨ k = p) w (fun k => H k ∨ k = p) W := (Wrote.of_below hb1).trans (wider hwp (fun k hk => Or.inr hk))
    exact ⟨g4.os.trans hw0.os, g4.tape.trans hw0.tape, g4.output.trans hw0.output, Nat.le_trans hw0.size g4.size, fun k hk hn => (g4.block k (Nat.lt_of_lt_of_le hk hw0.size) (fun e => e.elim (fun e => hn (Or.inl e)) (fun e => by omega))).trans (hw0.block k hk hn), fun k hk => Or.inl hk⟩
  have e1 : (a : Int) + (c : Int) = ((a + c : Nat) : Int) := by omega
  have ew : IntKind.i64.wrap ((a : Int) + (c : Int)) = ((a + c : Nat) : Int) := by rw [IntKind.wrap_i64]; omega
  have ew2 : IntKind.i64.wrap ((a + c : Nat) : Int) = ((a + c : Nat) : Int) := by rw [IntKind.wrap_i64]; omega
  clear hs hs1 hI h hc cl hb1 kb2 kb3 hz1 c2 c3
  subst hw1
  generalize ha : a + c = m at *
  clear ha
  generalize n - a = d at *
  go_enter Try.func41, Try.ntmps41
  go_wp2_with fail
  with_reducible refine Calls.mono cl0 ?_
  rintro e w2 ⟨rfl, k, rfl⟩
  have hk := hnx.out k
  clear cl0 hnx
  go_wp2_with fail
  with_reducible refine Calls.mono (hk _ rfl rfl rfl rfl) ?_
  rintro e w3 ⟨s, t, cp, rfl, hf⟩
  go_wp2_with fail
  go_ret
  exact ⟨_, rfl, hf.out⟩
end Sc
end Go.Proofs.Ytgmcimhlkccfdaa
